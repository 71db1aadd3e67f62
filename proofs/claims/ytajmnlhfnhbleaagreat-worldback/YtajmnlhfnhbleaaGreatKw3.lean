/- Several texts of one proof, in their order. -/
import Derived.Test.YtajmnlhfnhbleaaGreatKw2
namespace Go.Proofs.YtajmnlhfnhbleaaGreat
open Go.RowKit
set_option linter.unusedVariables false
def cellV(PV:Nat→Value)(b:Bk)(i:Nat):Value :=
 if i%4=0 then PV (i/4)else if i%4=1 then .int .i64 (b.nd (i/4))else if i%4=2 then .int .i64 (b.of (i/4))else .int .i64 (b.sz (i/4))
def flatV(n:Nat)(PV:Nat→Value)(b:Bk):List Value:=(List.range (n*4)).map (cellV PV b)
theorem flatV_len(n:Nat)(PV:Nat→Value)(b:Bk):(flatV n PV b).length=n*4:=by simp[flatV]
theorem flatV_get(n:Nat)(PV:Nat→Value)(b:Bk)(i:Nat):(flatV n PV b)[i]?=if i<n*4 then some (cellV PV b i)else none:=by
 unfold flatV;by_cases h:i<n*4;·simp[h]
 simp[h]
theorem flatV_congr{n:Nat}{PV PV':Nat→Value}{b b':Bk}(h:∀j,j<n→PV' j=PV j∧b'.nd j=b.nd j∧b'.of j=b.of j∧b'.sz j=b.sz j):flatV n PV' b'=flatV n PV b:=by
 refine List.map_congr_left fun i hi=>?_;have hi':=List.mem_range.1 hi;obtain⟨h1,h2,h3,h4⟩:=h (i/4) (by omega);unfold cellV;rw[h1,h2,h3,h4]
theorem flatV_succ(n:Nat)(PV:Nat→Value)(b:Bk):flatV (n+1) PV b=flatV n PV b++[PV n,.int .i64 (b.nd n),.int .i64 (b.of n),.int .i64 (b.sz n)]:=by
 have e:(n+1)*4=n*4+1+1+1+1:=by omega
 unfold flatV;rw[e,List.range_succ,List.range_succ,List.range_succ,List.range_succ];simp only[List.map_append,List.map_cons,List.map_nil,List.append_assoc,List.cons_append,List.nil_append];have c0:cellV PV b (n*4)=PV n:=by unfold cellV;rw[if_pos (by omega),show n*4/4=n by omega]
 have c1:cellV PV b (n*4+1)=.int .i64 (b.nd n):=by unfold cellV;rw[if_neg (by omega),if_pos (by omega),show(n*4+1)/4=n by omega]
 have c2:cellV PV b (n*4+1+1)=.int .i64 (b.of n):=by unfold cellV;rw[if_neg (by omega),if_neg (by omega),if_pos (by omega),show(n*4+1+1)/4=n by omega]
 have c3:cellV PV b (n*4+1+1+1)=.int .i64 (b.sz n):=by unfold cellV;rw[if_neg (by omega),if_neg (by omega),if_neg (by omega),show(n*4+1+1+1)/4=n by omega]
 rw[c0,c1,c2,c3]
def OwnV(w0 wr:World)(v:Value)(n:Nat)(PV:Nat→Value)(b:Bk):Prop:=wr.ownsRow w0.heap.size 61 4 v n (flatV n PV b)∧Below w0.heap.size w0 wr
theorem OwnV.nil(w:World)(PV:Nat→Value)(b:Bk):OwnV w w (.slice none 0 0) 0 PV b:=⟨World.ownsRow_nil _ _ _ _,Below.refl _ _⟩
theorem OwnV.up{w0 wr w':World}{v:Value}{n:Nat}{PV:Nat→Value}{b:Bk}(h:OwnV w0 wr v n PV b)(hb:Below wr.heap.size wr w'):OwnV w0 w' v n PV b:=⟨owns_below h.1 hb,h.2.trans (hb.mono h.2.size)⟩
theorem OwnV.shl{w0 wr:World}{v:Value}{n:Nat}{PV:Nat→Value}{b:Bk}(h:OwnV w0 wr v n PV b)(hr:n*48≤140737488351232)(hi:∀j,j<n→IntSl wr wr.heap.size (PV j) (b.PL j) (b.PX j)):VeSl wr wr.heap.size v n PV b:=by
 obtain⟨⟨hl,h2⟩,hb⟩:=h;rcases h2 with⟨rfl,h0⟩|⟨g,cap,cur,rfl,hg,hh,hc1,hc2,hsz,hcur⟩;·subst h0;exact⟨none,0,rfl,⟨Nat.le_refl _,by omega⟩,Or.inl rfl⟩
 refine⟨_,cap,rfl,⟨hc1,hr⟩,Or.inr ⟨g,0,rfl,(Array.getElem?_eq_some_iff.1 hh).1,fun j hj=>?_⟩⟩;have key:∀i,i<n*4→wr.cell? ⟨g,i,none⟩=some (cellV PV b i):=fun i hi=>by
  have h3:=flatV_get n PV b i;rw[if_pos hi,←hcur,List.getElem?_take,if_pos hi]at h3;exact cell_at hh (by simpa using h3)
 rw[Nat.zero_add];refine⟨?_,?_,?_,?_,hi j hj⟩;·rw[key (j*4) (by omega)];unfold cellV;rw[if_pos (by omega),show j*4/4=j by omega]
 ·rw[key (j*4+1) (by omega)];unfold cellV;rw[if_neg (by omega),if_pos (by omega),show(j*4+1)/4=j by omega]
 ·rw[key (j*4+2) (by omega)];unfold cellV;rw[if_neg (by omega),if_neg (by omega),if_pos (by omega),show(j*4+2)/4=j by omega]
 rw[key (j*4+3) (by omega)];unfold cellV;rw[if_neg (by omega),if_neg (by omega),if_neg (by omega),show(j*4+3)/4=j by omega]
theorem Tryz.infoVer:(Tryz.prog.info? 61).map (fun i=>(i.zero,i.size,i.bytes))=some (some (.agg #[.slice none 0 0,.int .i64 0,.int .i64 0,.int .i64 0]),4,48):=by kernel_rfl
def snocB(n:Nat)(b:Bk)(l:Nat)(X:Nat→Int)(nd of sz:Int):Bk :=
 ⟨fun j=>if j=n then l else b.PL j,fun j=>if j=n then X else b.PX j,fun j=>if j=n then nd else b.nd j,fun j=>if j=n then of else b.of j,fun j=>if j=n then sz else b.sz j⟩
def snocP(n:Nat)(PV:Nat→Value)(pv:Value)(j:Nat):Value:=if j=n then pv else PV j
def addE(n:Nat)(b b':Bk):Int:=if bookE n b=0 then bookE (n+1) b' else bookE n b
theorem cells_four(w:World)(v0 v1 v2 v3:Value)(T:TypeId):∀j u,([v0,v1,v2,v3]:List Value)[j]?=some u→(w.alloc (.cells #[v0,v1,v2,v3] T)).cell? (Addr.add ⟨w.heap.size,0,none⟩ j)=some u:=by
 intro j u hj;rw[Addr.add_lit];match j,hj with
 |0,hj=>simp at hj;subst hj;exact cell_at (heap_alloc_new _ _) rfl
 |1,hj=>simp at hj;subst hj;exact cell_at (heap_alloc_new _ _) rfl
 |2,hj=>simp at hj;subst hj;exact cell_at (heap_alloc_new _ _) rfl
 |3,hj=>simp at hj;subst hj;exact cell_at (heap_alloc_new _ _) rfl
theorem owns_ne{w:World}{base:Nat}{e t:TypeId}{size:Nat}{v:Value}{n:Nat}{xs:List Value}{bm:Nat}{cs:Array Value}(h:w.ownsRow base e size v n xs)(hm:w.heap[bm]?=some (.cells cs t (0,0)))(ht:e≠t):v.ownBlock≠some bm:=by
 obtain⟨_,h2⟩:=h;rcases h2 with⟨rfl,_⟩|⟨g,cap,cur,rfl,_,hh,_⟩;·intro e;cases e
 intro e1;injection e1 with e1;have e2:g=bm:=e1;subst e2;rw[hm]at hh;injection hh with hh;injection hh with _ h3 _;exact ht h3.symm
theorem owns_sliceV{w:World}{base:Nat}{e:TypeId}{size:Nat}{v:Value}{n:Nat}{xs:List Value}(h:w.ownsRow base e size v n xs):∃a c,v=.slice a n c:=by
 obtain⟨_,h2⟩:=h;rcases h2 with⟨h1,h0⟩|⟨g,cap,cur,h1,_⟩;·exact⟨none,0,by rw[h0];exact h1⟩
 exact⟨_,_,h1⟩
theorem owns_set_other{w:World}{base:Nat}{e:TypeId}{size:Nat}{v:Value}{n:Nat}{xs:List Value}{g o:Nat}(h:w.ownsRow base e size v n xs)(hne:v.ownBlock≠some g)(u:Value):(w.setCell ⟨g,o,none⟩ u).ownsRow base e size v n xs:=by
 obtain⟨h1,h2⟩:=h;refine⟨h1,?_⟩;rcases h2 with h2|⟨g',cap,cur,rfl,hg,hh,hr⟩;·exact Or.inl h2
 refine Or.inr ⟨g',cap,cur,rfl,hg,?_,hr⟩;rw[Below.heap_setCell _ _ _ _ (fun e=>hne (by rw[←show g'=g from e];rfl))];exact hh
theorem rowV_shl{wr:World}{base:Nat}{v:Value}{n:Nat}{PV:Nat→Value}{b:Bk}(h:wr.ownsRow base 61 4 v n (flatV n PV b))(hr:n*48≤140737488351232)(hi:∀j,j<n→IntSl wr wr.heap.size (PV j) (b.PL j) (b.PX j)):VeSl wr wr.heap.size v n PV b:=by
 obtain⟨hl,h2⟩:=h;rcases h2 with⟨rfl,h0⟩|⟨g,cap,cur,rfl,hg,hh,hc1,hc2,hsz,hcur⟩;·subst h0;exact⟨none,0,rfl,⟨Nat.le_refl _,by omega⟩,Or.inl rfl⟩
 refine⟨_,cap,rfl,⟨hc1,hr⟩,Or.inr ⟨g,0,rfl,(Array.getElem?_eq_some_iff.1 hh).1,fun j hj=>?_⟩⟩;have key:∀i,i<n*4→wr.cell? ⟨g,i,none⟩=some (cellV PV b i):=fun i hi=>by
  have h3:=flatV_get n PV b i;rw[if_pos hi,←hcur,List.getElem?_take,if_pos hi]at h3;exact cell_at hh (by simpa using h3)
 rw[Nat.zero_add];refine⟨?_,?_,?_,?_,hi j hj⟩;·rw[key (j*4) (by omega)];unfold cellV;rw[if_pos (by omega),show j*4/4=j by omega]
 ·rw[key (j*4+1) (by omega)];unfold cellV;rw[if_neg (by omega),if_pos (by omega),show(j*4+1)/4=j by omega]
 ·rw[key (j*4+2) (by omega)];unfold cellV;rw[if_neg (by omega),if_neg (by omega),if_pos (by omega),show(j*4+2)/4=j by omega]
 rw[key (j*4+3) (by omega)];unfold cellV;rw[if_neg (by omega),if_neg (by omega),if_neg (by omega),show(j*4+3)/4=j by omega]
theorem set_one{w:World}{g:Nat}{v:Value}{T:TypeId}(h:w.heap[g]?=some (.cells #[v] T (0,0)))(u:Value):(w.setCell ⟨g,0,none⟩ u).heap[g]?=some (.cells #[u] T (0,0)):=by
 simp[World.setCell,Array.getElem?_modify,h]
theorem results_cell2{P:Program}{fn:Func}{p u:Tmp}{ty:TypeId}(h:fn.results=#[.cell p ty,.tmp u])(tmps:Array Value)(w:World)(g:Nat)(t:TypeId)(cs:Array Value)(fr:Nat×Nat)(d:TypeDesc)
 (hp:tmps.getD p undef=.pointer (some ⟨g,0,none⟩)) (hg:w.heap[g]?=some (.cells cs t fr))
 (hu:P.underlying ty=some d) (hd:(match d with | .struct _ | .array _ _=>true|_=>false)=true) (hi:(P.info? ty).map (·.size)=some cs.size) :
 (results fn tmps).run P w=.ok (.tuple #[.agg cs,tmps.getD u undef]) w:=by
 rw[results_cell_tmp h,hp]
 simp[asAddr,run_loadVar_row w g t ty cs fr d hg hu hd hi]
theorem ret2{P:Program}{fn:Func}{R:Ending→World→Prop}{a:Act}{w:World}{p u:Tmp}{ty:TypeId}{g:Nat}{t:TypeId}{cs:Array Value}{fr:Nat×Nat}{d:TypeDesc}
 (hg:w.heap[g]?=some (.cells cs t fr)) (hu:P.underlying ty=some d) (hR:R (.returned (.tuple #[.agg cs,a.tmps.getD u undef])) w)
 (h:fn.results=#[.cell p ty,.tmp u]:=by rfl) (hp:a.tmps.getD p undef=.pointer (some ⟨g,0,none⟩):=by rfl)
 (hd:(match d with | .struct _ | .array _ _=>true|_=>false)=true:=by rfl) (hi:(P.info? ty).map (·.size)=some cs.size:=by kernel_rfl) (hf:a.defers=[]:=by rfl) :
 bodyPost P fn R .ret a w :=
 bodyPost_ret (results_cell2 h _ w g t cs fr d hp hg hu hd hi) hf hR
theorem three_at{w:World}{g:Nat}{T:TypeId}{u0 u1 u2:Value}(h:w.heap[g]?=some (.cells #[u0,u1,u2] T (0,0))):
 w.cell? ⟨g,0,none⟩=some u0∧w.cell? ⟨g,1,none⟩=some u1∧w.cell? ⟨g,2,none⟩=some u2:=⟨cell_at h rfl,cell_at h rfl,cell_at h rfl⟩
theorem set_three{w:World}{g:Nat}{v0 v1 v2:Value}{T:TypeId}(h:w.heap[g]?=some (.cells #[v0,v1,v2] T (0,0)))(u:Value):(w.setCell ⟨g,2,none⟩ u).heap[g]?=some (.cells #[v0,v1,u] T (0,0)):=by
 simp[World.setCell,Array.getElem?_modify,h]
def put3(w:World)(g:Nat)(u0 u1 u2:Value):World:=((w.setCell ⟨g,0,none⟩ u0).setCell ⟨g,1,none⟩ u1).setCell ⟨g,2,none⟩ u2
theorem put3_whole{w:World}{g:Nat}{T:TypeId}{v0 v1 v2:Value}(h:w.heap[g]?=some (.cells #[v0,v1,v2] T (0,0)))(u0 u1 u2:Value):(put3 w g u0 u1 u2).heap[g]?=some (.cells #[u0,u1,u2] T (0,0)):=by
 simp[put3,World.setCell,Array.getElem?_modify,h]
theorem put3_below{B:Nat}{w w5:World}{g:Nat}{u0 u1 u2:Value}(hb:Below B w w5)(hg:B≤g):Below B w (put3 w5 g u0 u1 u2) :=
 ((hb.setCell (p:=⟨g,0,none⟩) hg _).setCell (p:=⟨g,1,none⟩) hg _).setCell (p:=⟨g,2,none⟩) hg _
theorem drewK_below(w:World)(k:Nat):Below w.heap.size w (w.drewN k):=⟨rfl,rfl,rfl,Nat.le_refl _,fun _ _=>rfl⟩
theorem drew_below(w:World):Below w.heap.size w w.drew:=⟨rfl,rfl,rfl,Nat.le_refl _,fun _ _=>rfl⟩
theorem stayB{w w':World}{g:Nat}{o:Obj}(h:w.heap[g]?=some o)(hb:Below w.heap.size w w'):w'.heap[g]?=some o:=by
 rw[hb.block _ (Array.getElem?_eq_some_iff.1 h).1];exact h
def flatI(UV:Nat→Value)(t:Kt)(l:List Nat):List Value:=l.flatMap fun i=>[.int .i64 (t.V i),.int .i64 (t.N i),UV i]
theorem flatI_len(UV:Nat→Value)(t:Kt)(l:List Nat):(flatI UV t l).length=l.length*3:=by
 induction l with
 |nil=>rfl
 |cons x l ih=>simp only[flatI,List.flatMap_cons,List.length_append,List.length_cons,List.length_nil]at *;omega
theorem flatI_snoc(UV:Nat→Value)(t:Kt)(l:List Nat)(i:Nat):flatI UV t (l++[i])=flatI UV t l++[.int .i64 (t.V i),.int .i64 (t.N i),UV i]:=by
 simp[flatI]
theorem flatI_get(UV:Nat→Value)(t:Kt):∀(l:List Nat) (j:Nat),j<l.length→(flatI UV t l)[j*3]?=some (.int .i64 (t.V (l.getD j 0)))∧(flatI UV t l)[j*3+1]?=some (.int .i64 (t.N (l.getD j 0)))∧(flatI UV t l)[j*3+2]?=some (UV (l.getD j 0)):=by
 intro l;induction l with
 |nil=>intro j hj;simp at hj
 |cons x l ih =>
  intro j hj;have e:flatI UV t (x::l)=[.int .i64 (t.V x),.int .i64 (t.N x),UV x]++flatI UV t l:=by simp[flatI]
  rw[e];cases j with
  |zero=>exact⟨rfl,rfl,rfl⟩
  |succ j =>
   obtain⟨h1,h2,h3⟩:=ih j (by simpa using hj);have a1:(j+1)*3=3+j*3:=by omega
   have key:∀c,([Value.int .i64 (t.V x),.int .i64 (t.N x),UV x]++flatI UV t l)[3+j*3+c]?=(flatI UV t l)[j*3+c]?:=fun c=>by
    rw[List.getElem?_append_right (by simp;omega)];simp only[List.length_cons,List.length_nil];congr 1;omega
   rw[a1];refine⟨?_,?_,?_⟩;·have:=key 0;rw[Nat.add_zero,Nat.add_zero]at this;rw[this,h1];rfl
   ·rw[key 1,h2];rfl
   rw[key 2,h3];rfl
def selT(t:Kt)(l:List Nat):Kt:=⟨fun j=>t.V (l.getD j 0),fun j=>t.N (l.getD j 0),fun j=>t.L (l.getD j 0),fun j=>t.X (l.getD j 0)⟩
def OwnT(w0 wr:World)(v:Value)(UV:Nat→Value)(t:Kt)(l:List Nat):Prop:=wr.ownsRow w0.heap.size 83 3 v l.length (flatI UV t l)∧Below w0.heap.size w0 wr
theorem OwnT.nil(w:World)(UV:Nat→Value)(t:Kt):OwnT w w (.slice none 0 0) UV t []:=⟨World.ownsRow_nil _ _ _ _,Below.refl _ _⟩
theorem OwnT.up{w0 wr w':World}{v:Value}{UV:Nat→Value}{t:Kt}{l:List Nat}(h:OwnT w0 wr v UV t l)(hb:Below wr.heap.size wr w'):OwnT w0 w' v UV t l:=⟨owns_below h.1 hb,h.2.trans (hb.mono h.2.size)⟩
theorem OwnT.push{w0 wr w1:World}{v v':Value}{UV:Nat→Value}{t:Kt}{l:List Nat}{i:Nat}(h:OwnT w0 wr v UV t l)
 (ho:w1.ownsRow w0.heap.size 83 3 v' (l.length+1) (flatI UV t l++[.int .i64 (t.V i),.int .i64 (t.N i),UV i])) (hg:wr.grownBy w1 v.ownBlock):OwnT w0 w1 v' UV t (l++[i]):=by
 refine⟨?_,h.2.grown hg h.2.size (fun g hgg=>(h.1.lt g hgg).1)⟩
 rw[List.length_append,flatI_snoc]
 exact ho
theorem rowT_kel{wr:World}{base:Nat}{v:Value}{UV:Nat→Value}{t:Kt}{l:List Nat}(h:wr.ownsRow base 83 3 v l.length (flatI UV t l))(hr:l.length*40≤140737488351232)(hi:∀i,i∈l→IntSl wr wr.heap.size (UV i) (t.L i) (t.X i)):KeSl wr wr.heap.size v l.length (fun j=>UV (l.getD j 0)) (selT t l):=by
 obtain⟨hl,h2⟩:=h;rcases h2 with⟨rfl,h0⟩|⟨g,cap,cur,rfl,hg,hh,hc1,hc2,hsz,hcur⟩;·rw[h0];exact⟨none,0,rfl,⟨Nat.le_refl _,by omega⟩,Or.inl rfl⟩
 refine⟨_,cap,rfl,⟨hc1,hr⟩,Or.inr ⟨g,0,rfl,(Array.getElem?_eq_some_iff.1 hh).1,fun j hj=>?_⟩⟩;have key:∀i u,i<l.length*3→(flatI UV t l)[i]?=some u→wr.cell? ⟨g,i,none⟩=some u:=fun i u hi h3=>by
  rw[←hcur,List.getElem?_take,if_pos hi]at h3;exact cell_at hh (by simpa using h3)
 obtain⟨q1,q2,q3⟩:=flatI_get UV t l j hj;rw[Nat.zero_add];refine⟨key _ _ (by omega) q1,key _ _ (by omega) q2,key _ _ (by omega) q3,hi _ ?_⟩;rw[List.getD_eq_getElem?_getD,List.getElem?_eq_getElem hj];exact List.getElem_mem hj
theorem Tryz.infoKept:(Tryz.prog.info? 83).map (fun i=>(i.zero,i.size,i.bytes))=some (some (.agg #[.int .i64 0,.int .i64 0,.slice none 0 0]),3,40):=by kernel_rfl
theorem cells_three(w:World)(v0 v1 v2:Value)(T:TypeId):∀j u,([v0,v1,v2]:List Value)[j]?=some u→(w.alloc (.cells #[v0,v1,v2] T)).cell? (Addr.add ⟨w.heap.size,0,none⟩ j)=some u:=by
 intro j u hj;rw[Addr.add_lit];match j,hj with
 |0,hj=>simp at hj;subst hj;exact cell_at (heap_alloc_new _ _) rfl
 |1,hj=>simp at hj;subst hj;exact cell_at (heap_alloc_new _ _) rfl
 |2,hj=>simp at hj;subst hj;exact cell_at (heap_alloc_new _ _) rfl
def butL(t:Kt)(ver:Int)(m:Nat):List Nat:=(List.range m).filter fun j=>t.V j != ver
theorem butL_len(t:Kt)(ver:Int)(m:Nat):(butL t ver m).length≤m:=by
 unfold butL;refine Nat.le_trans (List.length_filter_le _ _) ?_;simp
theorem butL_lt{t:Kt}{ver:Int}{m i:Nat}(h:i∈butL t ver m):i<m:=by
 unfold butL at h;exact List.mem_range.1 (List.mem_filter.1 h).1
theorem flatI_one{UV:Nat→Value}{t:Kt}{l:List Nat}(h:∀i,i∈l→(UV i).oneCell'=true):∀u∈flatI UV t l,u.oneCell'=true:=by
 intro u hu;unfold flatI at hu;obtain⟨i,hi,hu⟩:=List.mem_flatMap.1 hu;simp only[List.mem_cons,List.not_mem_nil,or_false]at hu;rcases hu with rfl|rfl|rfl;·rfl
 ·rfl
 exact h i hi
end Go.Proofs.YtajmnlhfnhbleaaGreat
namespace Go.Proofs
open Go.Shelf
set_option linter.unusedVariables false

end Go.Proofs
namespace Go.Proofs.YtajmnlhfnhbleaaGreat
open Go.RowKit Go.Shelf Go.Lib Go.Sort
set_option linter.unusedVariables false
structure RowK(wr:World)(g K:Nat)(UV:Nat→Value)(t:Kt)(l:List Nat):Prop where
 len:l.length=K
 cell:∀j,j<K→wr.cell? ⟨g,j*3,none⟩=some (.int .i64 (t.V (l.getD j 0)))∧wr.cell? ⟨g,j*3+1,none⟩=some (.int .i64 (t.N (l.getD j 0)))∧wr.cell? ⟨g,j*3+2,none⟩=some (UV (l.getD j 0))
 free:∀i,i<K*3→wr.frozen? ⟨g,i,none⟩=false
 lt:g<wr.heap.size
section
variable {P : Program} {ops : Array Oper} {md : Region.Mode} {D : World → Prop}
def anyL(P:Program)(md:Region.Mode)(ops:Array Oper)(D:World→Prop)(sE:Array Bool)(R:Act→World→Prop):Nat→Array Bool→Act→World→Prop
 |0,seen,a,w=>seen=sE∧R a w
 |f+1,seen,a,w=>Region.ready md ops seen≠[]∧∀i∈Region.ready md ops seen,wpOp P ops (endN R) i (fun a' w'=>D w'∧anyL P md ops D sE R f (seen.setIfInBounds i true) a' w') a w
theorem any_of_anyL{R:Act→World→Prop}{Q:Exit→Act→World→Prop}{sE:Array Bool}{c:Nat}(hE:Region.ready md ops sE=[c])(hE2:Region.ready md ops (sE.setIfInBounds c true)=[])(hR:∀a w,R a w→wpOp P ops Q c (fun a' w'=>Q .normal a' w') a w)(f:Nat):
 ∀(seen:Array Bool) (a:Act) (w:World),anyL P md ops D sE R f seen a w→wpAny P md ops Q (f+1) seen a w:=by
 induction f with
 |zero =>
  intro seen a w h;obtain⟨rfl,h⟩:=h;refine⟨fun h0=>(by rw[hE]at h0;cases h0),fun i hi=>?_⟩;rw[hE]at hi;obtain rfl:i=c:=by simpa using hi
  exact wpOp_mono (fun a' w' h'=>⟨hE2,h'⟩) (hR a w h)
 |succ f ih =>
  intro seen a w h;refine⟨fun h0=>absurd h0 h.1,fun i hi=>?_⟩;exact wpOp_ends (fun a' w' h'=>ih _ a' w' h'.2) (h.2 i hi)
theorem anyL_first{R:Act→World→Prop}{sE:Array Bool}{c i:Nat}{oi oc:Oper}{v:Value}(hE:Region.ready md ops sE=[c])(hc:ops[c]?=some oc)(hedge:∃e∈oc.after,Region.binds md e=true∧e.on=i)
 (hi:ops[i]?=some oi) (hsel:∀(j:Nat) (o:Oper) cs b,ops[j]?=some o→o.op≠.select cs b) (f:Nat) :
 ∀(seen:Array Bool) (a:Act) (w:World),D w →
  (∀j oj,ops[j]?=some oj→j≠i→seen.getD j true=false→(∀e∈oj.after,Region.binds md e=true→e.on≠i)→oi.apart ops oj=true) →
  i∈Region.ready md ops seen→StillIn P ops D oi v a →
  anyL P md ops D sE R f (seen.setIfInBounds i true) (a.put oi.dst v) w→anyL P md ops D sE R (f+1) seen a w:=by
 induction f with
 |zero =>
  intro seen a w hD _ hr hy H;refine⟨List.ne_nil_of_mem hr,fun j hj=>?_⟩;by_cases hji:j=i;·subst hji;exact hy.wpOp hi hD ⟨hD,H⟩
  have h1:=ready_mono hj hji;rw[H.1,hE]at h1;obtain rfl:j=c:=by simpa using h1
  obtain⟨hjun,oj,hoj,hall⟩:=mem_ready.1 hj;rw[hc]at hoj;injection hoj with hoj;subst hoj;obtain⟨e,he,hb,hon⟩:=hedge;have h2:=hall e he hb;rw[hon,getD_both (mem_ready.1 hr).1]at h2;cases h2
 |succ f ih =>
  intro seen a w hD hfree hr hy H;refine⟨List.ne_nil_of_mem hr,fun j hj=>?_⟩;by_cases hji:j=i;·subst hji;exact hy.wpOp hi hD ⟨hD,H⟩
  have h1:=H.2 j (ready_mono hj hji);obtain⟨hjun,oj,hoj,hall⟩:=mem_ready.1 hj;have hun:=(mem_ready.1 hr).1;have hnot:∀e∈oj.after,Region.binds md e=true→e.on≠i:=by
   intro e he hb heq;have h2:=hall e he hb;rw[heq,getD_both hun]at h2;cases h2
  have h2:=wpOp_put hoj (hfree j oj hoj hji hjun hnot) (fun cs b=>hsel i oi cs b hi) (fun cs b=>hsel j oj cs b hoj) hy h1;refine wpOp_mono (fun a' w' h3=>⟨h3.2.1,ih (seen.setIfInBounds j true) a' w' h3.2.1 ?_ (ready_mono hr (Ne.symm hji)) h3.1 ?_⟩) h2
  ·intro k ok hk hki hunk hno
   refine hfree k ok hk hki ?_ hno;by_cases hjk:j=k
   ·subst hjk
    exact hjun
   rw[getD_set_ne true hjk]at hunk;exact hunk
  rw[Array.setIfInBounds_comm _ _ hji];exact h3.2.2
def ordL(md:Region.Mode)(ops:Array Oper)(c:Nat):List (Nat×Bool)→Array Bool→Bool
 |[],seen=>(Region.ready md ops seen==[c])&&(Region.ready md ops (seen.setIfInBounds c true)).isEmpty
 |(i,true)::r,seen=>(Region.ready md ops seen).contains i&&Region.free md ops seen i&&(match ops[c]? with|some o=>o.after.any (fun e=>Region.binds md e&&e.on==i)|none=>false)&&ordL md ops c r (seen.setIfInBounds i true)
 |(i,false)::r,seen=>(Region.ready md ops seen==[i])&&ordL md ops c r (seen.setIfInBounds i true)
def seenBy:List (Nat×Bool)→Array Bool→Array Bool
 |[],seen=>seen
 |(i,_)::r,seen=>seenBy r (seen.setIfInBounds i true)
theorem ordL_end{c:Nat}:∀(l:List (Nat×Bool)) (seen:Array Bool),ordL md ops c l seen=true→Region.ready md ops (seenBy l seen)=[c]∧Region.ready md ops ((seenBy l seen).setIfInBounds c true)=[]
 |[],seen,h=>by simpa[ordL,seenBy]using h
 |(i,true)::r,seen,h=>by
  simp only[ordL,Bool.and_eq_true]at h;exact ordL_end r _ h.2
 |(i,false)::r,seen,h=>by
  simp only[ordL,Bool.and_eq_true]at h;exact ordL_end r _ h.2
theorem anyL_of_walk{R:Act→World→Prop}{c:Nat}{sE:Array Bool}(hs:Region.noSelect ops=true)(hE:Region.ready md ops sE=[c]):∀(l:List (Nat×Bool)) (seen:Array Bool) (a:Act) (w:World),D w→seenBy l seen=sE →
 ordL md ops c l seen=true→walkF P ops D R l a w→anyL P md ops D sE R l.length seen a w
 |[],_,_,_,_,hq,hB,h=>⟨hq,h⟩
 |(i,true)::r,seen,a,w,hD,hq,hB,h=>by
  simp only[ordL,Bool.and_eq_true]at hB;obtain⟨⟨⟨hr,hf⟩,he⟩,hB'⟩:=hB;obtain⟨o,v,ho,hy,hK⟩:=h;cases hc:ops[c]? with
  |none=>simp[hc]at he
  |some oc =>
   simp only[hc,Array.any_eq_true]at he;obtain⟨x,hx,hb⟩:=he;simp only[Bool.and_eq_true,beq_iff_eq]at hb;exact anyL_first hE hc ⟨oc.after[x],Array.getElem_mem hx,hb.1,hb.2⟩ ho (Region.noSelect_spec hs) r.length seen a w hD (Region.free_spec ho hf) (by simpa using hr) hy (anyL_of_walk hs hE r _ _ w hD hq hB' hK)
 |(i,false)::r,seen,a,w,hD,hq,hB,h=>by
  simp only[ordL,Bool.and_eq_true,beq_iff_eq]at hB;obtain⟨hr,hB'⟩:=hB;refine⟨by rw[hr];exact List.cons_ne_nil _ _,fun j hj=>?_⟩;rw[hr]at hj;obtain rfl:j=i:=by simpa using hj
  exact wpOp_mono (fun a' w' h'=>⟨h'.1,anyL_of_walk hs hE r _ a' w' h'.1 hq hB' h'.2⟩) h
theorem region_mixed_last{id:Nat}{Q:Exit→Act→World→Prop}{a:Act}{w:World}{l:List Oper}(D:World→Prop)(s:List (List Nat×Nat))(last:List Nat)(c:Nat)(hm:P.follows .mixedOrders=true)
 (hB:(Region.noSelect l.toArray&&fitB l s last&&(l[c]?).isSome&&decide ((flatO s last).length+1=l.length)&&ordL .any l.toArray c (flatO s last) (Array.replicate l.length false))=true) (hD:D w.drew)
 (h:mixO P l D (fun a' w'=>wpList P l.toArray Q (pickO l [c]) a' w') s last a w.drew):(Code.region id l.toArray true).wp P Q a w:=by
 simp only[Bool.and_eq_true,decide_eq_true_eq]at hB
 obtain⟨⟨⟨⟨hsel,hf⟩,hcs⟩,hlen⟩,hord⟩:=hB
 obtain⟨oc,hoc⟩:=Option.isSome_iff_exists.1 hcs
 obtain⟨hE1,hE2⟩:=ordL_end _ _ hord
 refine wp_region_any hm ?_
 have h1:=anyL_of_walk (md:=.any) (c:=c) hsel hE1 (flatO s last) _ a w.drew hD rfl hord (walk_of_mix last s a w.drew hf h)
 have h2:=any_of_anyL (Q:=Q) hE1 hE2 (fun a' w' h'=>by
  have h0:l.toArray[c]?=some oc:=by simpa using hoc
  simp only[pickO,hoc,wpList]at h';unfold wpOp;simp only[h0];exact h') _ _ _ _ h1
 rw[hlen]at h2
 simpa using h2
theorem mixO_last{l lq:List Oper}{lc:List Oper}{Q:Exit→Act→World→Prop}{last:List Nat}{c:Nat}{a:Act}{w:World}(h:wpQuiet P l.toArray (fun w'=>∃u:Of D,w'=u.val) (fun a'=>wpList P l.toArray Q lc a' w) lq a)
 (hq:pickO l last=lq:=by simp only[pickO,List.getElem?_cons_zero,List.getElem?_cons_succ];exact rfl) (hc:pickO l [c]=lc:=by simp only[pickO,List.getElem?_cons_zero,List.getElem?_cons_succ];exact rfl):mixO P l D (fun a' w'=>wpList P l.toArray Q (pickO l [c]) a' w') [] last a w:=by
 subst hq hc
 exact h
end
section
variable {P : Program} {D : World → Prop}
theorem anyL_pick{l:List Oper}{md:Region.Mode}{R:Act→World→Prop}{f:Nat}{seen sE:Array Bool}{a:Act}{w:World}(rs:List Nat)(hr:Region.ready md l.toArray seen=rs)(hne:rs≠[])
 (h:∀i∈rs,∃o,l[i]?=some o∧∀K:Act→World→Prop,(∀a'' w'',D w''→anyL P md l.toArray D sE R f (seen.setIfInBounds i true) a'' w''→K a'' w'')→wpList P l.toArray (endN K) [o] a w) :
 anyL P md l.toArray D sE R (f+1) seen a w:=by
 refine⟨by rw[hr];exact hne,fun i hi=>?_⟩
 rw[hr]at hi
 obtain⟨o,ho,hK⟩:=h i hi
 have h0:l.toArray[i]?=some o:=by simpa using ho
 have hw:=hK (fun a'' w''=>D w''∧anyL P md l.toArray D sE R f (seen.setIfInBounds i true) a'' w'') (fun a'' w'' g1 g2=>⟨g1,g2⟩)
 simp only[wpList]at hw
 unfold wpOp
 simp only[h0]
 split
 ·rename_i hwt
  simp only[hwt,if_true]at hw;rcases hw with hw|hw;·exact Or.inl (upon_ends (fun v w1 hh=>hh.2) (fun d w1 hh=>hh.2) hw)
  exact absurd hw.2 letsOut_endN
 ·rename_i hwt
  simp only[hwt]at hw;exact hw.2
def waitsB(md:Region.Mode)(ops:Array Oper)(c:Nat)(q:List Nat):Bool :=
 match ops[c]? with
 |some o=>q.all fun i=>o.after.any fun e=>Region.binds md e&&e.on==i
 |none=>false
theorem anyL_reads{l:List Oper}{md:Region.Mode}{R:Act→World→Prop}{f:Nat}{sE:Array Bool}{w:World}{c:Nat}(hs:Region.noSelect l.toArray=true)(hE:Region.ready md l.toArray sE=[c])(hD:D w):∀(q:List Nat) (seen:Array Bool) (a:Act),waitsB md l.toArray c q=true→ordQ md l.toArray q seen=true →
 (q.all (fun i=>match l[i]? with|some o=>plainB o|none=>false))=true →
 wpQuiet P l.toArray (fun w'=>∃u:Of D,w'=u.val) (fun a'=>anyL P md l.toArray D sE R f (seenQ q seen) a' w) (pickO l q) a→anyL P md l.toArray D sE R (f+q.length) seen a w
 |[],seen,a,_,_,_,h=>h
 |i::q,seen,a,hw,ho,hq,h=>by
  simp only[List.all_cons,Bool.and_eq_true]at hq;obtain⟨h1,h2⟩:=hq;simp only[ordQ,Bool.and_eq_true]at ho;obtain⟨⟨hr,hf⟩,ho'⟩:=ho;unfold waitsB at hw;cases hoc:l.toArray[c]? with
  |none=>simp only[hoc]at hw;cases hw
  |some oc =>
   simp only[hoc,List.all_cons,Bool.and_eq_true]at hw;obtain⟨hw1,hw2⟩:=hw;obtain⟨x,hx,hb⟩:=Array.any_eq_true.1 hw1;simp only[Bool.and_eq_true,beq_iff_eq]at hb;cases hoi:l[i]? with
   |none=>simp[hoi]at h1
   |some o =>
    simp only[hoi]at h1;simp only[pickO,hoi]at h;have h0:l.toArray[i]?=some o:=by simpa using hoi
    have hst:qOp P l.toArray (fun w'=>∃u:Of D,w'=u.val) i (wpQuiet P l.toArray (fun w'=>∃u:Of D,w'=u.val) (fun a'=>anyL P md l.toArray D sE R f (seenQ (i::q) seen) a' w) (pickO l q)) a:=by unfold qOp;simp only[h0];exact h
    obtain⟨v,hy,hK⟩:=yieldsIn_of_qOp h0 hst;exact anyL_first hE hoc ⟨oc.after[x],Array.getElem_mem hx,hb.1,hb.2⟩ h0 (Region.noSelect_spec hs) (f+q.length) seen a w hD (Region.free_spec h0 hf) (by simpa using hr) (still_of_yields h1 hy) (anyL_reads hs hE hD q _ _ (by unfold waitsB;simp only[hoc];exact hw2) ho' h2 hK)
theorem anyL_end{l:List Oper}{md:Region.Mode}{R:Act→World→Prop}{seen sE:Array Bool}{a:Act}{w:World}(hs:seen=sE)(h:R a w):anyL P md l.toArray D sE R 0 seen a w:=⟨hs,h⟩
theorem region_tree_last{id:Nat}{Q:Exit→Act→World→Prop}{a:Act}{w:World}{l lc:List Oper}(D:World→Prop)(c:Nat)(sE:Array Bool)(f:Nat)(hm:P.follows .mixedOrders=true)(hE:Region.ready .any l.toArray sE=[c])(hE2:Region.ready .any l.toArray (sE.setIfInBounds c true)=[])(hf:f+1=l.length)(hc:pickO l [c]=lc)(hcs:(l[c]?).isSome=true)
 (h:anyL P .any l.toArray D sE (fun a' w'=>wpList P l.toArray Q lc a' w') f (Array.replicate l.length false) a w.drew):(Code.region id l.toArray true).wp P Q a w:=by
 obtain⟨oc,hoc⟩:=Option.isSome_iff_exists.1 hcs
 refine wp_region_any hm ?_
 have h2:=any_of_anyL (Q:=Q) hE hE2 (fun a' w' h'=>by
  have h0:l.toArray[c]?=some oc:=by simpa using hoc
  rw[←hc]at h';simp only[pickO,hoc,wpList]at h';unfold wpOp;simp only[h0];exact h') _ _ _ _ h
 rw[hf]at h2
 simpa using h2
end
end Go.Proofs.YtajmnlhfnhbleaaGreat
