/- Several texts of one proof, in their order. -/
import Derived.Test.YtajmnlhfnhbleaaGreatSSum2
namespace Go.Proofs.YtajmnlhfnhbleaaGreat
open Go.RowKit
set_option linter.unusedVariables false
set_option maxHeartbeats 4000000
def cellV(PV:Nat→Value)(b:Bk)(i:Nat):Value :=
 if i%4=0 then PV (i/4)else if i%4=1 then .int .i64 (b.nd (i/4))else if i%4=2 then .int .i64 (b.of (i/4))else .int .i64 (b.sz (i/4))
def flatV(n:Nat)(PV:Nat→Value)(b:Bk):List Value:=(List.range (n*4)).map (cellV PV b)
theorem flatV_len(n:Nat)(PV:Nat→Value)(b:Bk):(flatV n PV b).length=n*4:=by simp[flatV]
theorem flatV_get(n:Nat)(PV:Nat→Value)(b:Bk)(i:Nat):(flatV n PV b)[i]?=if i<n*4 then some (cellV PV b i)else none:=by
 unfold flatV;by_cases h:i<n*4;·simp[h]
 simp[h]
theorem flatV_one{n:Nat}{PV:Nat→Value}{b:Bk}(hV:∀j,j<n→(PV j).oneCell'=true):∀u∈flatV n PV b,u.oneCell'=true:=by
 intro u hu;obtain⟨i,hi,rfl⟩:=List.mem_map.1 hu;have hi':=List.mem_range.1 hi;unfold cellV;split;·exact hV _ (by omega)
 split;·rfl
 split<;>rfl
theorem flatV_congr{n:Nat}{PV PV':Nat→Value}{b b':Bk}(h:∀j,j<n→PV' j=PV j∧b'.nd j=b.nd j∧b'.of j=b.of j∧b'.sz j=b.sz j):flatV n PV' b'=flatV n PV b:=by
 refine List.map_congr_left fun i hi=>?_;have hi':=List.mem_range.1 hi;obtain⟨h1,h2,h3,h4⟩:=h (i/4) (by omega);unfold cellV;rw[h1,h2,h3,h4]
theorem flatV_succ(n:Nat)(PV:Nat→Value)(b:Bk):flatV (n+1) PV b=flatV n PV b++[PV n,.int .i64 (b.nd n),.int .i64 (b.of n),.int .i64 (b.sz n)]:=by
 have e:(n+1)*4=n*4+1+1+1+1:=by omega
 unfold flatV;rw[e,List.range_succ,List.range_succ,List.range_succ,List.range_succ];simp only[List.map_append,List.map_cons,List.map_nil,List.append_assoc,List.cons_append,List.nil_append];have c0:cellV PV b (n*4)=PV n:=by unfold cellV;rw[if_pos (by omega),show n*4/4=n by omega]
 have c1:cellV PV b (n*4+1)=.int .i64 (b.nd n):=by unfold cellV;rw[if_neg (by omega),if_pos (by omega),show(n*4+1)/4=n by omega]
 have c2:cellV PV b (n*4+1+1)=.int .i64 (b.of n):=by unfold cellV;rw[if_neg (by omega),if_neg (by omega),if_pos (by omega),show(n*4+1+1)/4=n by omega]
 have c3:cellV PV b (n*4+1+1+1)=.int .i64 (b.sz n):=by unfold cellV;rw[if_neg (by omega),if_neg (by omega),if_neg (by omega),show(n*4+1+1+1)/4=n by omega]
 rw[c0,c1,c2,c3]
def OwnV(w0 wr:World)(v:Value)(n:Nat)(PV:Nat→Value)(b:Bk):Prop:=wr.ownsRow w0.heap.size 61 4 v n (flatV n PV b)∧Below w0.heap.size w0 wr
theorem OwnV.nil(w:World)(PV:Nat→Value)(b:Bk):OwnV w w (.slice none 0 0) 0 PV b:=⟨World.ownsRow_nil _ _ _ _,Below.refl _ _⟩
theorem OwnV.up{w0 wr w':World}{v:Value}{n:Nat}{PV:Nat→Value}{b:Bk}(h:OwnV w0 wr v n PV b)(hb:Below wr.heap.size wr w'):OwnV w0 w' v n PV b:=⟨owns_below h.1 hb,h.2.trans (hb.mono h.2.size)⟩
theorem Tryz.infoVer:(Tryz.prog.info? 61).map (fun i=>(i.zero,i.size,i.bytes))=some (some (.agg #[.slice none 0 0,.int .i64 0,.int .i64 0,.int .i64 0]),4,48):=by kernel_rfl
theorem cloneV{w:World}{v:Value}{n:Nat}{PV:Nat→Value}{b:Bk}(h:VeSl w w.heap.size v n PV b)(hn:n≤1000):
 Calls Tryz.prog 127 #[v] w fun e w'=>∃v',e=.returned v'∧OwnV w w' v' n PV b:=by
 obtain⟨ad,cap,rfl,⟨hc,hr⟩,hx⟩:=h
 have q34:∀(w:World) (a:Option Addr) (n c:Nat),(binOp .eql 22 (.slice a n c) (.slice none 0 0)).run Tryz.prog w=.ok (.bool a.isNone) w:=fun w a n c=>Lib.run_eql_slice_nil w _ _ a n c 0 0 Tryz.underlying22
 cases ad with
 |none =>
  have h0:n=0:=by
   rcases hx with h0|⟨bl,off,e,_⟩;·exact h0
   cases e
  subst h0;clear hx;go_enter Tryz.func127,Tryz.ntmps127;go_wp2;go_ret;exact⟨_,rfl,OwnV.nil _ _ _⟩
 |some a =>
  have hnews:∀j u,(flatV n PV b)[j]?=some u→w.cell? (Addr.add a j)=some u:=by
   intro j u hu;rw[flatV_get]at hu;by_cases hj:j<n*4
   ·rw[if_pos hj]at hu
    injection hu with hu;rcases hx with h0|⟨bl,off,e,hbl,hx⟩;·omega
    injection e with e;subst e;obtain⟨g1,g2,g3,g4,_⟩:=hx (j/4) (by omega);rw[Addr.add_lit,←hu];unfold cellV;by_cases m0:j%4=0;·rw[if_pos m0,←g1,show off+j/4*4=off+j by omega]
    rw[if_neg m0];by_cases m1:j%4=1;·rw[if_pos m1,←g2,show off+j/4*4+1=off+j by omega]
    rw[if_neg m1];by_cases m2:j%4=2;·rw[if_pos m2,←g3,show off+j/4*4+2=off+j by omega]
    rw[if_neg m2,←g4,show off+j/4*4+3=off+j by omega]
   rw[if_neg hj]at hu;cases hu
  have h1:∀u∈flatV n PV b,u.oneCell'=true:=flatV_one fun j hj=>by
   rcases hx with h0|⟨bl,off,e,hbl,hx⟩;·omega
   obtain⟨ap,cp,e2,_⟩:=(hx j hj).2.2.2.2;rw[e2];rfl
  have HNw:=hid hnews;have H1:=hid h1;obtain⟨ii,hi,hz0,hz1,hz2⟩:=info_parts Tryz.infoVer;clear hx hnews h1;go_enter Tryz.func127,Tryz.ntmps127;go_wp2_with(at_builtin;go_must(refine wpList_append_own _ rfl _ _ 22 rfl w.heap.size 61 ii (.agg #[.slice none 0 0,.int .i64 0,.int .i64 0,.int .i64 0]) 4 48 Tryz.underlying22 hi hz0 hz1 hz2 rfl (by decide) _ _ _ rfl (World.ownsRow_made w #[] 0 (Nat.le_refl _) (Nat.zero_le _) (by simp)) a n cap (flatV n PV b) rfl (flatV_len _ _ _) (fun j u hu=>Lib.cell?_alloc_some _ (HNw.out j u hu)) H1.out (by unfold maxLen;omega) (by omega) (by simp) ?_;intro v1 w2 ho hg _;have HO:=hid ho;have HG:=hid hg;clear ho hg))
  go_ret;refine⟨_,rfl,?_,?_⟩
  ·have h:=HO.out
   rw[Nat.zero_add,List.nil_append]at h;exact h
  exact((Below.refl _ _).alloc (Nat.le_refl _) _).grown HG.out (by simp) (fun k hk=>by cases hk;exact Nat.le_refl _)
def snocB(n:Nat)(b:Bk)(l:Nat)(X:Nat→Int)(nd of sz:Int):Bk :=
 ⟨fun j=>if j=n then l else b.PL j,fun j=>if j=n then X else b.PX j,fun j=>if j=n then nd else b.nd j,fun j=>if j=n then of else b.of j,fun j=>if j=n then sz else b.sz j⟩
def snocP(n:Nat)(PV:Nat→Value)(pv:Value)(j:Nat):Value:=if j=n then pv else PV j
def addE(n:Nat)(b b':Bk):Int:=if bookE n b=0 then bookE (n+1) b' else bookE n b
theorem cells_four(w:World)(v0 v1 v2 v3:Value)(T:TypeId):∀j u,([v0,v1,v2,v3]:List Value)[j]?=some u→(w.alloc (.cells #[v0,v1,v2,v3] T)).cell? (Addr.add ⟨w.heap.size,0,none⟩ j)=some u:=by
 intro j u hj;rw[Addr.add_lit];match j,hj with
 |0,hj=>simp at hj;subst hj;exact cell_at (heap_alloc_new _ _) rfl
 |1,hj=>simp at hj;subst hj;exact cell_at (heap_alloc_new _ _) rfl
 |2,hj=>simp at hj;subst hj;exact cell_at (heap_alloc_new _ _) rfl
 |3,hj=>simp at hj;subst hj;exact cell_at (heap_alloc_new _ _) rfl
theorem owns_ne{w:World}{base:Nat}{e t:TypeId}{size:Nat}{v:Value}{n:Nat}{xs:List Value}{bm:Nat}{cs:Array Value}(h:w.ownsRow base e size v n xs)(hm:w.heap[bm]?=some (.cells cs t (0,0)))(ht:e≠t):v.ownBlock≠some bm:=by
 obtain⟨_,h2⟩:=h;rcases h2 with⟨rfl,_⟩|⟨g,cap,cur,rfl,_,hh,_⟩;·intro e;cases e
 intro e1;injection e1 with e1;have e2:g=bm:=e1;subst e2;rw[hm]at hh;injection hh with hh;injection hh with _ h3 _;exact ht h3.symm
theorem owns_sliceV{w:World}{base:Nat}{e:TypeId}{size:Nat}{v:Value}{n:Nat}{xs:List Value}(h:w.ownsRow base e size v n xs):∃a c,v=.slice a n c:=by
 obtain⟨_,h2⟩:=h;rcases h2 with⟨h1,h0⟩|⟨g,cap,cur,h1,_⟩;·exact⟨none,0,by rw[h0];exact h1⟩
 exact⟨_,_,h1⟩
theorem owns_set_other{w:World}{base:Nat}{e:TypeId}{size:Nat}{v:Value}{n:Nat}{xs:List Value}{g o:Nat}(h:w.ownsRow base e size v n xs)(hne:v.ownBlock≠some g)(u:Value):(w.setCell ⟨g,o,none⟩ u).ownsRow base e size v n xs:=by
 obtain⟨h1,h2⟩:=h;refine⟨h1,?_⟩;rcases h2 with h2|⟨g',cap,cur,rfl,hg,hh,hr⟩;·exact Or.inl h2
 refine Or.inr ⟨g',cap,cur,rfl,hg,?_,hr⟩;rw[Below.heap_setCell _ _ _ _ (fun e=>hne (by rw[←show g'=g from e];rfl))];exact hh
theorem OwnV.pushV{w0 wr w1:World}{v v':Value}{n:Nat}{PV:Nat→Value}{b:Bk}{pv:Value}{l:Nat}{X:Nat→Int}{nd of sz:Int}(h:OwnV w0 wr v n PV b)
 (ho:w1.ownsRow w0.heap.size 61 4 v' (n+1) (flatV n PV b++[pv,.int .i64 nd,.int .i64 of,.int .i64 sz])) (hg:wr.grownBy w1 v.ownBlock):OwnV w0 w1 v' (n+1) (snocP n PV pv) (snocB n b l X nd of sz):=by
 refine⟨?_,h.2.grown hg h.2.size (fun g hgg=>(h.1.lt g hgg).1)⟩
 rw[flatV_succ]
 have e:flatV n (snocP n PV pv) (snocB n b l X nd of sz)=flatV n PV b:=flatV_congr fun j hj=>by
  have hne:j≠n:=by omega
  simp[snocP,snocB,hne]
 rw[e]
 simp only[snocP,snocB,if_true]
 exact ho
theorem rowV_shl{wr:World}{base:Nat}{v:Value}{n:Nat}{PV:Nat→Value}{b:Bk}(h:wr.ownsRow base 61 4 v n (flatV n PV b))(hr:n*48≤140737488351232)(hi:∀j,j<n→IntSl wr wr.heap.size (PV j) (b.PL j) (b.PX j)):VeSl wr wr.heap.size v n PV b:=by
 obtain⟨hl,h2⟩:=h;rcases h2 with⟨rfl,h0⟩|⟨g,cap,cur,rfl,hg,hh,hc1,hc2,hsz,hcur⟩;·subst h0;exact⟨none,0,rfl,⟨Nat.le_refl _,by omega⟩,Or.inl rfl⟩
 refine⟨_,cap,rfl,⟨hc1,hr⟩,Or.inr ⟨g,0,rfl,(Array.getElem?_eq_some_iff.1 hh).1,fun j hj=>?_⟩⟩;have key:∀i,i<n*4→wr.cell? ⟨g,i,none⟩=some (cellV PV b i):=fun i hi=>by
  have h3:=flatV_get n PV b i;rw[if_pos hi,←hcur,List.getElem?_take,if_pos hi]at h3;exact cell_at hh (by simpa using h3)
 rw[Nat.zero_add];refine⟨?_,?_,?_,?_,hi j hj⟩;·rw[key (j*4) (by omega)];unfold cellV;rw[if_pos (by omega),show j*4/4=j by omega]
 ·rw[key (j*4+1) (by omega)];unfold cellV;rw[if_neg (by omega),if_pos (by omega),show(j*4+1)/4=j by omega]
 ·rw[key (j*4+2) (by omega)];unfold cellV;rw[if_neg (by omega),if_neg (by omega),if_pos (by omega),show(j*4+2)/4=j by omega]
 rw[key (j*4+3) (by omega)];unfold cellV;rw[if_neg (by omega),if_neg (by omega),if_neg (by omega),show(j*4+3)/4=j by omega]
theorem set_one{w:World}{g:Nat}{v:Value}{T:TypeId}(h:w.heap[g]?=some (.cells #[v] T (0,0)))(u:Value):(w.setCell ⟨g,0,none⟩ u).heap[g]?=some (.cells #[u] T (0,0)):=by
 simp[World.setCell,Array.getElem?_modify,h]
theorem results_cell2{P:Program}{fn:Func}{p u:Tmp}{ty:TypeId}(h:fn.results=#[.cell p ty,.tmp u])(tmps:Array Value)(w:World)(g:Nat)(t:TypeId)(cs:Array Value)(fr:Nat×Nat)(d:TypeDesc)
 (hp:tmps.getD p undef=.pointer (some ⟨g,0,none⟩)) (hg:w.heap[g]?=some (.cells cs t fr))
 (hu:P.underlying ty=some d) (hd:(match d with | .struct _ | .array _ _=>true|_=>false)=true) (hi:(P.info? ty).map (·.size)=some cs.size) :
 (results fn tmps).run P w=.ok (.tuple #[.agg cs,tmps.getD u undef]) w:=by
 rw[results_cell_tmp h,hp]
 simp[asAddr,run_loadVar_row w g t ty cs fr d hg hu hd hi]
theorem ret2{P:Program}{fn:Func}{R:Ending→World→Prop}{a:Act}{w:World}{p u:Tmp}{ty:TypeId}{g:Nat}{t:TypeId}{cs:Array Value}{fr:Nat×Nat}{d:TypeDesc}
 (hg:w.heap[g]?=some (.cells cs t fr)) (hu:P.underlying ty=some d) (hR:R (.returned (.tuple #[.agg cs,a.tmps.getD u undef])) w)
 (h:fn.results=#[.cell p ty,.tmp u]:=by rfl) (hp:a.tmps.getD p undef=.pointer (some ⟨g,0,none⟩):=by rfl)
 (hd:(match d with | .struct _ | .array _ _=>true|_=>false)=true:=by rfl) (hi:(P.info? ty).map (·.size)=some cs.size:=by kernel_rfl) (hf:a.defers=[]:=by rfl) :
 bodyPost P fn R .ret a w :=
 bodyPost_ret (results_cell2 h _ w g t cs fr d hp hg hu hd hi) hf hR
theorem three_at{w:World}{g:Nat}{T:TypeId}{u0 u1 u2:Value}(h:w.heap[g]?=some (.cells #[u0,u1,u2] T (0,0))):
 w.cell? ⟨g,0,none⟩=some u0∧w.cell? ⟨g,1,none⟩=some u1∧w.cell? ⟨g,2,none⟩=some u2:=⟨cell_at h rfl,cell_at h rfl,cell_at h rfl⟩
theorem atPeer_any(th:Bool)(room:Int)(v:Value)(m:Nat)(UV:Nat→Value)(t:Kt)(ver:Int)(w:World)(h:KeSl w w.heap.size v m UV t):
 Calls Tryz.prog 95 #[peerV th room v,.int .i64 ver] w fun e w'=>e=.returned (.int .i64 (fstAt t.V ver m 0))∧Below w.heap.size w w':=by
 obtain⟨ad,cap,rfl,⟨hcap,hbig⟩,hx⟩:=h
 have hbx:=below_alloc w (.cells #[.bool th,.int .i64 room,.slice ad m cap] 41)
 have HBx:=hid hbx
 have HX:=hid hx
 obtain⟨ans,hans⟩:∃a,fstAt t.V ver m 0=a:=⟨_,rfl⟩
 rw[hans]
 have HA:=hid hans
 clear hbx hx hans
 unfold peerV
 go_enter Tryz.func95,Tryz.ntmps95
 go_wp2
 go_loopw [10] (fun iv wr=>∃k:Nat,k≤m∧iv=.int .i64 k∧Hid (Below w.heap.size w wr)∧Hid (fstAt t.V ver (m-k) k=ans)) (fun iv _=>m-(intOf iv).toNat)
 case atStart=>exact⟨0,Nat.zero_le _,rfl,HBx,HA⟩
 case round =>
  obtain⟨k,hk,rfl,HB,HS⟩:=hrel;by_cases hlt:k<m
  ·have hki:(k:Int)<(m:Int):=by omega
   rcases HX.out with h0|⟨bl,off,rfl,hbl,hx⟩;·omega
   obtain⟨x0,x1,x2,x3⟩:=hx k hlt;have hstep:=HS.out;rw[show m-k=(m-(k+1))+1 by omega]at hstep;simp only[fstAt]at hstep;obtain⟨ap,cp,hpe,_,_⟩:=x3;rw[hpe]at x2;have g0:wr.cell? ⟨bl,off+k*3,none⟩=some (.int .i64 (t.V k)):=by rw[HB.out.cell hbl];exact x0
   have g1:wr.cell? ⟨bl,off+k*3+1,none⟩=some (.int .i64 (t.N k)):=by rw[HB.out.cell hbl];exact x1
   have g2:wr.cell? ⟨bl,off+k*3+2,none⟩=some (.slice ap (t.L k) cp):=by rw[HB.out.cell hbl];exact x2
   have hbA:=below_alloc wr (.cells #[.int .i64 (t.V k),.int .i64 (t.N k),.slice ap (t.L k) cp] 83);have HBW:=hid (HB.out.trans (hbA.mono HB.out.size));obtain⟨x,hxx⟩:∃x,t.V k=x:=⟨_,rfl⟩;rw[hxx]at g0 hstep HBW;clear x0 x1 x2 hx hpe hbA hxx;by_cases hv:ver=x
   ·rw[if_pos hv]at hstep
    have hve:(x==ver)=true:=by rw[beq_iff_eq];exact hv.symm
    have HFin:=hid hstep;clear hstep hv;go_wp2;go_ret;exact⟨by rw[←HFin.out];rfl,HBW.out⟩
   rw[if_neg hv]at hstep;have hve:(x==ver)=false:=by rw[beq_eq_false_iff_ne];exact fun h=>hv h.symm
   have HNx:=hid hstep;clear hstep hv;go_wp2;go_roundw
   case rel=>exact⟨k+1,by omega,by go_num,HBW,HNx⟩
   case measure=>simp only[intOf];omega
  have hke:m=k:=by omega
  subst hke;have hst:=HS.out;rw[Nat.sub_self]at hst;have HFin:Hid ((-1:Int)=ans):=hst;clear hst;go_wp2;go_ret;exact⟨by rw[←HFin.out];rfl,HB.out⟩
theorem checkPeer_any(vb:Value)(n:Nat)(PV:Nat→Value)(b:Bk)(th:Bool)(room:Int)(vk:Value)(m:Nat)(UV:Nat→Value)(t:Kt)(w:World)(hv:VeSl w w.heap.size vb n PV b)(hk:KeSl w w.heap.size vk m UV t):
 Calls Tryz.prog 87 #[bookV vb,peerV th room vk] w fun e w'=>e=.returned (.int .i64 (peerE n b room m t))∧Below w.heap.size w w':=by
 have HV:=hid hv
 have HKe:=hid hk
 obtain⟨ad,cap,rfl,⟨hcap,hbig⟩,hx⟩:=hv
 obtain⟨ak,capk,rfl,⟨hcapk,hbigk⟩,hxk⟩:=hk
 have hb0:=((Below.refl w.heap.size w).alloc (Nat.le_refl _) (.cells #[.slice ad n cap] 24)).alloc (by simp) (.cells #[.bool th,.int .i64 room,.slice ak m capk] 41)
 have k1:=heap_two_old w (.cells #[.slice ad n cap] 24) (.cells #[.bool th,.int .i64 room,.slice ak m capk] 41)
 have k2:=heap_two_new w (.cells #[.slice ad n cap] 24) (.cells #[.bool th,.int .i64 room,.slice ak m capk] 41)
 obtain⟨U,hU⟩:∃U,(w.alloc (.cells #[.slice ad n cap] 24)).alloc (.cells #[.bool th,.int .i64 room,.slice ak m capk] 41)=U:=⟨_,rfl⟩
 rw[hU]at hb0 k1 k2
 have B0:=hid hb0
 have K1:=hid k1
 have K2:=hid k2
 have HX:=hid hx
 have HXk:=hid hxk
 obtain⟨ans,hans⟩:∃a,peerE n b room m t=a:=⟨_,rfl⟩
 rw[hans]
 unfold peerE at hans
 obtain⟨c,hc⟩:∃c,bookE n b=c:=⟨_,rfl⟩
 have CK:=hid (checkBook_any _ n PV b U (HV.out.up hb0))
 rw[hc]at CK hans
 have HA:=hid hans
 have c1:=cell_at (i:=0) k1 rfl
 clear hb0 k1 k2 hx hxk hans
 unfold bookV at CK
 unfold bookV peerV
 go_enter Tryz.func87,Tryz.ntmps87
 go_wp2_with fail
 refine Calls.mono CK.out ?_
 rintro e W ⟨rfl,hbW⟩
 have B1:=hid (B0.out.trans (hbW.mono B0.out.size))
 have k1:W.heap[w.heap.size]?=some (.cells #[.slice ad n cap] 24 (0,0)):=by rw[hbW.block _ (Array.getElem?_eq_some_iff.1 K1.out).1];exact K1.out
 have k2:W.heap[w.heap.size+1]?=some (.cells #[.bool th,.int .i64 room,.slice ak m capk] 41 (0,0)):=by rw[hbW.block _ (Array.getElem?_eq_some_iff.1 K2.out).1];exact K2.out
 have KW1:=hid k1
 have KW2:=hid k2
 obtain⟨p0,p1,p2⟩:=three_at k2
 clear hbW B0 K1 K2 k1 k2 c1 CK
 by_cases hc0:c=0
 ·subst hc0
  have hA:=HA.out;rw[if_pos rfl]at hA;have CI:=hid (in_any room 0 20 W);by_cases hr:0≤room∧room≤20
  ·rw[if_pos hr]at hA
   rw[decide_eq_true hr]at CI;by_cases hm:(m:Int)≤room
   ·rw[if_pos hm]at hA
    have HA2:=hid hA;clear hA;go_wp2_with fail
    refine Calls.mono CI.out ?_;rintro e w2 ⟨rfl,hw2⟩;subst w2;go_wp2;clear p0 p1 p2 CI;go_loopw [6,28] (fun lv iv wr=>∃(k:Nat) (last:Int),k≤m∧iv=.int .i64 k∧lv=.int .i64 last∧Hid (Below W.heap.size W wr)∧Hid (scanK n b t (m-k) k last=ans)) (fun _ iv _=>m-(intOf iv).toNat)
    case atStart=>exact⟨0,-1,Nat.zero_le _,rfl,rfl,Below.refl _ _,HA2⟩
    case round =>
     obtain⟨k,last,hk,rfl,rfl,HB,HS⟩:=hrel;by_cases hlt:k<m
     ·have hki:(k:Int)<(m:Int):=by omega
      rcases HXk.out with h0|⟨bl,off,rfl,hbl,hxk⟩;·omega
      obtain⟨x0,x1,x2,x3⟩:=hxk k hlt;have hstep:=HS.out;rw[show m-k=(m-(k+1))+1 by omega]at hstep;simp only[scanK]at hstep;have BR:=hid (B1.out.trans (HB.out.mono B1.out.size));have HIs:Hid (∀u,Below w.heap.size w u→IntSl u u.heap.size (UV k) (t.L k) (t.X k)):=fun u hb=>x3.up hb;obtain⟨ap,cp,hpe,_,_⟩:=x3;rw[hpe]at x2 HIs;have g0:wr.cell? ⟨bl,off+k*3,none⟩=some (.int .i64 (t.V k)):=by rw[BR.out.cell hbl];exact x0
      have g1:wr.cell? ⟨bl,off+k*3+1,none⟩=some (.int .i64 (t.N k)):=by rw[BR.out.cell hbl];exact x1
      have g2:wr.cell? ⟨bl,off+k*3+2,none⟩=some (.slice ap (t.L k) cp):=by rw[BR.out.cell hbl];exact x2
      obtain⟨Z,hZ⟩:∃Z,wr.alloc (.cells #[.int .i64 (t.V k),.int .i64 (t.N k),.slice ap (t.L k) cp] 83)=Z:=⟨_,rfl⟩;have hbZ:Below wr.heap.size wr Z:=by rw[←hZ];exact below_alloc _ _
      have hWZ:=HB.out.trans (hbZ.mono HB.out.size);have HBZ:=hid hWZ;have BZ:=hid (B1.out.trans (hWZ.mono B1.out.size));obtain⟨z0,z1,z2⟩:Z.cell? ⟨wr.heap.size,0,none⟩=_∧Z.cell? ⟨wr.heap.size,1,none⟩=_∧Z.cell? ⟨wr.heap.size,2,none⟩=_:=three_at (by rw[←hZ];exact heap_alloc_new wr _);have zb:Z.cell? ⟨w.heap.size,0,none⟩=some (.slice ad n cap):=by rw[hWZ.cell (Array.getElem?_eq_some_iff.1 KW1.out).1];exact cell_at KW1.out rfl
      obtain⟨x,hxx⟩:∃x,t.V k=x:=⟨_,rfl⟩;rw[hxx]at g0 z0 hstep hZ;have HOk:Hid (oneK b t k=oneE (b.nd x.toNat) (b.of x.toNat) (b.sz x.toNat) (t.N k) (t.L k) (t.X k)):=by show _=_;unfold oneK;rw[hxx]
      clear x0 x1 x2 hxk hpe hbZ hWZ hxx;by_cases c1:x<0∨(n:Int)≤x
      ·rw[if_pos c1]at hstep
       have HFin:=hid hstep;clear hstep;by_cases c2:x<0
       ·go_wp2
        go_ret;exact⟨by rw[←HFin.out];rfl,BZ.out⟩
       have c3:(n:Int)≤x:=by omega
       go_wp2;go_ret;exact⟨by rw[←HFin.out];rfl,BZ.out⟩
      rw[if_neg c1]at hstep;have c2:¬x<0:=fun h=>c1 (Or.inl h);have c3:¬(n:Int)≤x:=fun h=>c1 (Or.inr h);by_cases c4:x≤last
      ·rw[if_pos c4]at hstep
       have HFin:=hid hstep;clear hstep c1;go_wp2;go_ret;exact⟨by rw[←HFin.out];rfl,BZ.out⟩
      rw[if_neg c4]at hstep;rw[HOk.out]at hstep;obtain⟨y,rfl⟩:∃y:Nat,x=y:=⟨x.toNat,by omega⟩;rw[Int.toNat_natCast]at hstep;have hyn:y<n:=by omega
      have hyi:(y:Int)<(n:Int):=by omega
      rcases HX.out with h0|⟨bv,ov,rfl,hbv,hxv⟩;·omega
      obtain⟨_,v1,v2,v3,_⟩:=hxv y hyn;have q1:Z.cell? ⟨bv,ov+y*4+1,none⟩=some (.int .i64 (b.nd y)):=by rw[BZ.out.cell hbv];exact v1
      have q2:Z.cell? ⟨bv,ov+y*4+2,none⟩=some (.int .i64 (b.of y)):=by rw[BZ.out.cell hbv];exact v2
      have q3:Z.cell? ⟨bv,ov+y*4+3,none⟩=some (.int .i64 (b.sz y)):=by rw[BZ.out.cell hbv];exact v3
      have hne:Nonempty (Of (Below Z.heap.size Z)):=⟨⟨Z,Below.refl _ _⟩⟩;have F0:∀u:Of (Below Z.heap.size Z),u.val.cell? ⟨wr.heap.size,0,none⟩=some (.int .i64 (y:Int)):=fun u=>by rw[u.is.cell (cell_lt z0)];exact z0
      have F1:∀u:Of (Below Z.heap.size Z),u.val.cell? ⟨wr.heap.size,1,none⟩=some (.int .i64 (t.N k)):=fun u=>by rw[u.is.cell (cell_lt z1)];exact z1
      have F2:∀u:Of (Below Z.heap.size Z),u.val.cell? ⟨wr.heap.size,2,none⟩=some (.slice ap (t.L k) cp):=fun u=>by rw[u.is.cell (cell_lt z2)];exact z2
      have F3:∀u:Of (Below Z.heap.size Z),u.val.cell? ⟨w.heap.size,0,none⟩=some (.slice (some ⟨bv,ov,none⟩) n cap):=fun u=>by rw[u.is.cell (cell_lt zb)];exact zb
      have F4:∀u:Of (Below Z.heap.size Z),u.val.cell? ⟨bv,ov+y*4+1,none⟩=some (.int .i64 (b.nd y)):=fun u=>by rw[u.is.cell (cell_lt q1)];exact q1
      have F5:∀u:Of (Below Z.heap.size Z),u.val.cell? ⟨bv,ov+y*4+2,none⟩=some (.int .i64 (b.of y)):=fun u=>by rw[u.is.cell (cell_lt q2)];exact q2
      have F6:∀u:Of (Below Z.heap.size Z),u.val.cell? ⟨bv,ov+y*4+3,none⟩=some (.int .i64 (b.sz y)):=fun u=>by rw[u.is.cell (cell_lt q3)];exact q3
      have HD1:Hid (Below Z.heap.size Z Z.drew):=⟨rfl,rfl,rfl,Nat.le_refl _,fun _ _=>rfl⟩;have CS:=hid (checkShare_any (b.nd y) (b.of y) (b.sz y) (t.N k) _ (t.L k) (t.X k) Z.drew (HIs.out _ (BZ.out.trans (HD1.out.mono BZ.out.size))));obtain⟨er,her⟩:∃er,oneE (b.nd y) (b.of y) (b.sz y) (t.N k) (t.L k) (t.X k)=er:=⟨_,rfl⟩;rw[her]at CS hstep;have HSt:=hid hstep;unfold planV shareV at CS;clear hxv hstep her c1 v1 v2 v3 q1 q2 q3;go_wp2_with fail
      refine region_mixed (Below Z.heap.size Z) [([0,1,2,3,4,5,6,7,8],9)] [10] (by kernel_rfl) (by kernel_rfl) HD1.out ?_;refine mixO_cons ?_;repeat(go_big_quiet_step (fail))
      refine wpQuiet_nil ?_;intro K hK;go_wp2_with fail
      refine Calls.mono CS.out ?_;rintro e w5 ⟨rfl,hb5⟩;have H5:Hid (Below Z.heap.size Z w5):=HD1.out.trans (hb5.mono HD1.out.size);clear hb5;go_wp2;refine⟨rfl,hK _ _ H5.out ?_⟩;clear hK K;refine mixO_nil ?_;repeat(go_big_quiet_step (fail))
      refine wpQuiet_nil ?_;have B5:=hid (HBZ.out.trans (H5.out.mono HBZ.out.size));clear F0 F1 F2 F3 F4 F5 F6 hne;by_cases he0:er=0
      ·subst he0
       have hs:=HSt.out;rw[if_pos rfl]at hs;have HNx:=hid hs;clear hs;go_wp2;go_roundw
       case rel=>exact⟨k+1,(y:Int),by omega,by go_num,rfl,B5,HNx⟩
       case measure=>simp only[intOf];omega
      have hs:=HSt.out;rw[if_neg he0]at hs;have heb:(er != 0)=true:=by simpa using he0
      have HFin:=hid hs;clear hs he0;go_wp2;go_ret;exact⟨by rw[←HFin.out];rfl,B1.out.trans (B5.out.mono B1.out.size)⟩
     have hke:m=k:=by omega
     subst hke;have hst:=HS.out;rw[Nat.sub_self]at hst;have HFin:Hid ((0:Int)=ans):=hst;clear hst;go_wp2;go_ret;exact⟨by rw[←HFin.out];rfl,B1.out.trans (HB.out.mono B1.out.size)⟩
   rw[if_neg hm]at hA;have HFin:=hid hA;have hmr:room<(m:Int):=by omega
   clear hA hm;go_wp2_with fail
   refine Calls.mono CI.out ?_;rintro e w2 ⟨rfl,hw2⟩;subst w2;go_wp2;go_ret;exact⟨by rw[←HFin.out];rfl,B1.out⟩
  rw[if_neg hr]at hA;rw[decide_eq_false hr]at CI;have HFin:=hid hA;clear hA;go_wp2_with fail
  refine Calls.mono CI.out ?_;rintro e w2 ⟨rfl,hw2⟩;subst w2;go_wp2;go_ret;exact⟨by rw[←HFin.out];rfl,B1.out⟩
 ·have hA:=HA.out
  rw[if_neg hc0]at hA;have hcb:(c != 0)=true:=by simpa using hc0
  have HFin:=hid hA;clear hA hc0;go_wp2;go_ret;exact⟨by rw[←HFin.out];rfl,B1.out⟩
theorem set_three{w:World}{g:Nat}{v0 v1 v2:Value}{T:TypeId}(h:w.heap[g]?=some (.cells #[v0,v1,v2] T (0,0)))(u:Value):(w.setCell ⟨g,2,none⟩ u).heap[g]?=some (.cells #[v0,v1,u] T (0,0)):=by
 simp[World.setCell,Array.getElem?_modify,h]
def put3(w:World)(g:Nat)(u0 u1 u2:Value):World:=((w.setCell ⟨g,0,none⟩ u0).setCell ⟨g,1,none⟩ u1).setCell ⟨g,2,none⟩ u2
theorem put3_whole{w:World}{g:Nat}{T:TypeId}{v0 v1 v2:Value}(h:w.heap[g]?=some (.cells #[v0,v1,v2] T (0,0)))(u0 u1 u2:Value):(put3 w g u0 u1 u2).heap[g]?=some (.cells #[u0,u1,u2] T (0,0)):=by
 simp[put3,World.setCell,Array.getElem?_modify,h]
theorem put3_below{B:Nat}{w w5:World}{g:Nat}{u0 u1 u2:Value}(hb:Below B w w5)(hg:B≤g):Below B w (put3 w5 g u0 u1 u2) :=
 ((hb.setCell (p:=⟨g,0,none⟩) hg _).setCell (p:=⟨g,1,none⟩) hg _).setCell (p:=⟨g,2,none⟩) hg _
theorem put3_other{w5:World}{g k:Nat}{u0 u1 u2:Value}(h:k≠g):(put3 w5 g u0 u1 u2).heap[k]?=w5.heap[k]?:=by
 unfold put3;rw[Below.heap_setCell _ _ _ _ h,Below.heap_setCell _ _ _ _ h,Below.heap_setCell _ _ _ _ h]
theorem drewK_below(w:World)(k:Nat):Below w.heap.size w (w.drewN k):=⟨rfl,rfl,rfl,Nat.le_refl _,fun _ _=>rfl⟩
theorem drew_below(w:World):Below w.heap.size w w.drew:=⟨rfl,rfl,rfl,Nat.le_refl _,fun _ _=>rfl⟩
theorem stayB{w w':World}{g:Nat}{o:Obj}(h:w.heap[g]?=some o)(hb:Below w.heap.size w w'):w'.heap[g]?=some o:=by
 rw[hb.block _ (Array.getElem?_eq_some_iff.1 h).1];exact h
def flatI(UV:Nat→Value)(t:Kt)(l:List Nat):List Value:=l.flatMap fun i=>[.int .i64 (t.V i),.int .i64 (t.N i),UV i]
theorem flatI_len(UV:Nat→Value)(t:Kt)(l:List Nat):(flatI UV t l).length=l.length*3:=by
 induction l with
 |nil=>rfl
 |cons x l ih=>simp only[flatI,List.flatMap_cons,List.length_append,List.length_cons,List.length_nil]at *;omega
theorem flatI_snoc(UV:Nat→Value)(t:Kt)(l:List Nat)(i:Nat):flatI UV t (l++[i])=flatI UV t l++[.int .i64 (t.V i),.int .i64 (t.N i),UV i]:=by
 simp[flatI]
theorem flatI_get(UV:Nat→Value)(t:Kt):∀(l:List Nat) (j:Nat),j<l.length→(flatI UV t l)[j*3]?=some (.int .i64 (t.V (l.getD j 0)))∧(flatI UV t l)[j*3+1]?=some (.int .i64 (t.N (l.getD j 0)))∧(flatI UV t l)[j*3+2]?=some (UV (l.getD j 0)):=by
 intro l;induction l with
 |nil=>intro j hj;simp at hj
 |cons x l ih =>
  intro j hj;have e:flatI UV t (x::l)=[.int .i64 (t.V x),.int .i64 (t.N x),UV x]++flatI UV t l:=by simp[flatI]
  rw[e];cases j with
  |zero=>exact⟨rfl,rfl,rfl⟩
  |succ j =>
   obtain⟨h1,h2,h3⟩:=ih j (by simpa using hj);have a1:(j+1)*3=3+j*3:=by omega
   have key:∀c,([Value.int .i64 (t.V x),.int .i64 (t.N x),UV x]++flatI UV t l)[3+j*3+c]?=(flatI UV t l)[j*3+c]?:=fun c=>by
    rw[List.getElem?_append_right (by simp;omega)];simp only[List.length_cons,List.length_nil];congr 1;omega
   rw[a1];refine⟨?_,?_,?_⟩;·have:=key 0;rw[Nat.add_zero,Nat.add_zero]at this;rw[this,h1];rfl
   ·rw[key 1,h2];rfl
   rw[key 2,h3];rfl
def selT(t:Kt)(l:List Nat):Kt:=⟨fun j=>t.V (l.getD j 0),fun j=>t.N (l.getD j 0),fun j=>t.L (l.getD j 0),fun j=>t.X (l.getD j 0)⟩
def OwnT(w0 wr:World)(v:Value)(UV:Nat→Value)(t:Kt)(l:List Nat):Prop:=wr.ownsRow w0.heap.size 83 3 v l.length (flatI UV t l)∧Below w0.heap.size w0 wr
theorem OwnT.nil(w:World)(UV:Nat→Value)(t:Kt):OwnT w w (.slice none 0 0) UV t []:=⟨World.ownsRow_nil _ _ _ _,Below.refl _ _⟩
theorem OwnT.up{w0 wr w':World}{v:Value}{UV:Nat→Value}{t:Kt}{l:List Nat}(h:OwnT w0 wr v UV t l)(hb:Below wr.heap.size wr w'):OwnT w0 w' v UV t l:=⟨owns_below h.1 hb,h.2.trans (hb.mono h.2.size)⟩
theorem OwnT.push{w0 wr w1:World}{v v':Value}{UV:Nat→Value}{t:Kt}{l:List Nat}{i:Nat}(h:OwnT w0 wr v UV t l)
 (ho:w1.ownsRow w0.heap.size 83 3 v' (l.length+1) (flatI UV t l++[.int .i64 (t.V i),.int .i64 (t.N i),UV i])) (hg:wr.grownBy w1 v.ownBlock):OwnT w0 w1 v' UV t (l++[i]):=by
 refine⟨?_,h.2.grown hg h.2.size (fun g hgg=>(h.1.lt g hgg).1)⟩
 rw[List.length_append,flatI_snoc]
 exact ho
theorem rowT_kel{wr:World}{base:Nat}{v:Value}{UV:Nat→Value}{t:Kt}{l:List Nat}(h:wr.ownsRow base 83 3 v l.length (flatI UV t l))(hr:l.length*40≤140737488351232)(hi:∀i,i∈l→IntSl wr wr.heap.size (UV i) (t.L i) (t.X i)):KeSl wr wr.heap.size v l.length (fun j=>UV (l.getD j 0)) (selT t l):=by
 obtain⟨hl,h2⟩:=h;rcases h2 with⟨rfl,h0⟩|⟨g,cap,cur,rfl,hg,hh,hc1,hc2,hsz,hcur⟩;·rw[h0];exact⟨none,0,rfl,⟨Nat.le_refl _,by omega⟩,Or.inl rfl⟩
 refine⟨_,cap,rfl,⟨hc1,hr⟩,Or.inr ⟨g,0,rfl,(Array.getElem?_eq_some_iff.1 hh).1,fun j hj=>?_⟩⟩;have key:∀i u,i<l.length*3→(flatI UV t l)[i]?=some u→wr.cell? ⟨g,i,none⟩=some u:=fun i u hi h3=>by
  rw[←hcur,List.getElem?_take,if_pos hi]at h3;exact cell_at hh (by simpa using h3)
 obtain⟨q1,q2,q3⟩:=flatI_get UV t l j hj;rw[Nat.zero_add];refine⟨key _ _ (by omega) q1,key _ _ (by omega) q2,key _ _ (by omega) q3,hi _ ?_⟩;rw[List.getD_eq_getElem?_getD,List.getElem?_eq_getElem hj];exact List.getElem_mem hj
theorem Tryz.infoKept:(Tryz.prog.info? 83).map (fun i=>(i.zero,i.size,i.bytes))=some (some (.agg #[.int .i64 0,.int .i64 0,.slice none 0 0]),3,40):=by kernel_rfl
theorem cells_three(w:World)(v0 v1 v2:Value)(T:TypeId):∀j u,([v0,v1,v2]:List Value)[j]?=some u→(w.alloc (.cells #[v0,v1,v2] T)).cell? (Addr.add ⟨w.heap.size,0,none⟩ j)=some u:=by
 intro j u hj;rw[Addr.add_lit];match j,hj with
 |0,hj=>simp at hj;subst hj;exact cell_at (heap_alloc_new _ _) rfl
 |1,hj=>simp at hj;subst hj;exact cell_at (heap_alloc_new _ _) rfl
 |2,hj=>simp at hj;subst hj;exact cell_at (heap_alloc_new _ _) rfl
def butL(t:Kt)(ver:Int)(m:Nat):List Nat:=(List.range m).filter fun j=>t.V j != ver
theorem butL_succ(t:Kt)(ver:Int)(m:Nat):butL t ver (m+1)=butL t ver m++(if(t.V m != ver)=true then[m]else[]):=by
 unfold butL;rw[List.range_succ,List.filter_append];cases h:(t.V m != ver)<;>simp[h]
theorem butL_len(t:Kt)(ver:Int)(m:Nat):(butL t ver m).length≤m:=by
 unfold butL;refine Nat.le_trans (List.length_filter_le _ _) ?_;simp
theorem butL_lt{t:Kt}{ver:Int}{m i:Nat}(h:i∈butL t ver m):i<m:=by
 unfold butL at h;exact List.mem_range.1 (List.mem_filter.1 h).1
theorem flatI_one{UV:Nat→Value}{t:Kt}{l:List Nat}(h:∀i,i∈l→(UV i).oneCell'=true):∀u∈flatI UV t l,u.oneCell'=true:=by
 intro u hu;unfold flatI at hu;obtain⟨i,hi,hu⟩:=List.mem_flatMap.1 hu;simp only[List.mem_cons,List.not_mem_nil,or_false]at hu;rcases hu with rfl|rfl|rfl;·rfl
 ·rfl
 exact h i hi
theorem cloneT{w:World}{v:Value}{m:Nat}{UV:Nat→Value}{t:Kt}(h:KeSl w w.heap.size v m UV t)(hn:m≤1000):
 Calls Tryz.prog 60 #[v] w fun e w'=>∃v',e=.returned v'∧OwnT w w' v' UV t (List.range m):=by
 obtain⟨ad,cap,rfl,⟨hc,hr⟩,hx⟩:=h
 have q34:∀(w:World) (a:Option Addr) (n c:Nat),(binOp .eql 39 (.slice a n c) (.slice none 0 0)).run Tryz.prog w=.ok (.bool a.isNone) w:=fun w a n c=>Lib.run_eql_slice_nil w _ _ a n c 0 0 Tryz.underlying39
 cases ad with
 |none =>
  have h0:m=0:=by
   rcases hx with h0|⟨bl,off,e,_⟩;·exact h0
   cases e
  subst h0;clear hx;go_enter Tryz.func60,Tryz.ntmps60;go_wp2;go_ret;exact⟨_,rfl,OwnT.nil _ _ _⟩
 |some a =>
  have hrg:∀j,j<m→(List.range m).getD j 0=j:=fun j hj=>by simp[List.getD_eq_getElem?_getD,hj]
  have hnews:∀j u,(flatI UV t (List.range m))[j]?=some u→w.cell? (Addr.add a j)=some u:=by
   intro j u hu;have hj:j<m*3:=by
    have:=(List.getElem?_eq_some_iff.1 hu).1;rw[flatI_len]at this;simpa using this
   rcases hx with h0|⟨bl,off,e,hbl,hx⟩;·omega
   injection e with e;subst e;obtain⟨g1,g2,g3,_⟩:=hx (j/3) (by omega);obtain⟨q1,q2,q3⟩:=flatI_get UV t (List.range m) (j/3) (by simp;omega);rw[hrg _ (by omega)]at q1 q2 q3;rw[Addr.add_lit];rcases(show j=j/3*3∨j=j/3*3+1∨j=j/3*3+2 by omega)with e|e|e
   ·rw[e]at hu ⊢
    rw[q1]at hu;rw[g1,←hu]
   ·rw[e]at hu ⊢
    rw[q2]at hu;rw[←Nat.add_assoc,g2,←hu]
   rw[e]at hu ⊢;rw[q3]at hu;rw[←Nat.add_assoc,g3,←hu]
  have h1:∀u∈flatI UV t (List.range m),u.oneCell'=true:=flatI_one fun i hi=>by
   rcases hx with h0|⟨bl,off,e,hbl,hx⟩;·have:=List.mem_range.1 hi;omega
   obtain⟨ap,cp,e2,_⟩:=(hx i (List.mem_range.1 hi)).2.2.2;rw[e2];rfl
  have HNw:=hid hnews;have H1:=hid h1;obtain⟨ii,hi,hz0,hz1,hz2⟩:=info_parts Tryz.infoKept;have HLn:Hid ((flatI UV t (List.range m)).length=m*3):=by show _=_;rw[flatI_len];simp
  obtain⟨F,hF⟩:∃F,flatI UV t (List.range m)=F:=⟨_,rfl⟩;rw[hF]at HNw H1 HLn;have HF:=hid hF;clear hx hnews h1 hrg hF;go_enter Tryz.func60,Tryz.ntmps60;go_wp2_with(at_builtin;go_must(refine wpList_append_own _ rfl _ _ 39 rfl w.heap.size 83 ii (.agg #[.int .i64 0,.int .i64 0,.slice none 0 0]) 3 40 Tryz.underlying39 hi hz0 hz1 hz2 rfl (by decide) _ _ _ rfl (World.ownsRow_made w #[] 0 (Nat.le_refl _) (Nat.zero_le _) (by simp)) a m cap F rfl HLn.out (fun j u hu=>Lib.cell?_alloc_some _ (HNw.out j u hu)) H1.out (by unfold maxLen;omega) (by omega) (by simp) ?_;intro v1 w2 ho hg _;have HO:=hid ho;have HG:=hid hg;clear ho hg))
  go_ret;refine⟨_,rfl,?_,?_⟩
  ·have h:=HO.out
   rw[Nat.zero_add,List.nil_append,←HF.out]at h;simpa using h
  exact((Below.refl _ _).alloc (Nat.le_refl _) _).grown HG.out (by simp) (fun k hk=>by cases hk;exact Nat.le_refl _)
def cmpK(a c:Int):Int:=if a<c then -1 else 1
theorem cmpKept_any(v1 v2 N1 N2:Int)(pv qv:Value)(w:World)(h1:∃a n c,pv=.slice a n c)(h2:∃a n c,qv=.slice a n c):
 Calls Tryz.prog 157 #[keptV v1 N1 pv,keptV v2 N2 qv] w fun e w'=>e=.returned (.int .i64 (cmpK v1 v2))∧w'=(w.alloc (.cells #[.int .i64 v1,.int .i64 N1,pv] 83)).alloc (.cells #[.int .i64 v2,.int .i64 N2,qv] 83):=by
 obtain⟨a1,n1,c1,rfl⟩:=h1
 obtain⟨a2,n2,c2,rfl⟩:=h2
 unfold keptV cmpK
 by_cases h:v1<v2
 ·rw[if_pos h]
  go_enter Tryz.func157,Tryz.ntmps157;go_wp2;go_ret;exact⟨rfl,rfl⟩
 ·rw[if_neg h]
  go_enter Tryz.func157,Tryz.ntmps157;go_wp2;go_ret;exact⟨rfl,rfl⟩
end Go.Proofs.YtajmnlhfnhbleaaGreat
namespace Go.Proofs
open Go.Shelf
set_option linter.unusedVariables false
def Tryz.sortKept_ren:Go.Shelf.Ren:=⟨fun|6=>156|15=>166|14=>173|28=>184|29=>185|20=>192|21=>193|22=>194|23=>195|24=>196|25=>197|26=>198|27=>199|46=>216|47=>209|48=>210|49=>217|50=>218|57=>225|n=>n,fun|22=>39|24=>83|25=>176|3=>3|39=>186|0=>0|53=>202|55=>204|4=>4|46=>194|45=>193|50=>199|5=>5|9=>9|66=>217|70=>221|76=>227|77=>228|n=>n,fun|n=>n⟩
theorem Tryz.sortKept:Go.Proofs.SlLaysF0.n6 Tryz.prog Tryz.sortKept_ren:={
 mixed:=by kernel_rfl
 f6:=⟨Tryz.f156.name,by decide,Tryz.func156.trans (congrArg some (by kernel_rfl))⟩
 f14:=⟨Tryz.f173.name,by decide,Tryz.func173.trans (congrArg some (by kernel_rfl))⟩
 f15:=Tryz.func166.trans (congrArg some (by kernel_rfl))
 f20:=⟨Tryz.f192.name,by decide,Tryz.func192.trans (congrArg some (by kernel_rfl))⟩
 f21:=⟨Tryz.f193.name,by decide,Tryz.func193.trans (congrArg some (by kernel_rfl))⟩
 f22:=⟨Tryz.f194.name,by decide,Tryz.func194.trans (congrArg some (by kernel_rfl))⟩
 f23:=⟨Tryz.f195.name,by decide,Tryz.func195.trans (congrArg some (by kernel_rfl))⟩
 f24:=⟨Tryz.f196.name,by decide,Tryz.func196.trans (congrArg some (by kernel_rfl))⟩
 f25:=⟨Tryz.f197.name,by decide,Tryz.func197.trans (congrArg some (by kernel_rfl))⟩
 f26:=⟨Tryz.f198.name,by decide,Tryz.func198.trans (congrArg some (by kernel_rfl))⟩
 f27:=⟨Tryz.f199.name,by decide,Tryz.func199.trans (congrArg some (by kernel_rfl))⟩
 f28:=Tryz.func184.trans (congrArg some (by kernel_rfl))
 f29:=Tryz.func185.trans (congrArg some (by kernel_rfl))
 f46:=⟨Tryz.f216.name,by decide,Tryz.func216.trans (congrArg some (by kernel_rfl))⟩
 f47:=Tryz.func209.trans (congrArg some (by kernel_rfl))
 f48:=Tryz.func210.trans (congrArg some (by kernel_rfl))
 f49:=⟨Tryz.f217.name,by decide,Tryz.func217.trans (congrArg some (by kernel_rfl))⟩
 f50:=⟨Tryz.f218.name,by decide,Tryz.func218.trans (congrArg some (by kernel_rfl))⟩
 f57:=⟨Tryz.f225.name,by decide,Tryz.func225.trans (congrArg some (by kernel_rfl))⟩
 t0:=Tryz.underlying0
 a0:=Tryz.isAgg0
 z0:=Tryz.sizeOf0
 v0:=Tryz.zeroValue0
 t3:=Tryz.underlying3
 a3:=Tryz.isAgg3
 z3:=Tryz.sizeOf3
 v3:=Tryz.zeroValue3
 t4:=Tryz.underlying4
 a4:=Tryz.isAgg4
 z4:=Tryz.sizeOf4
 v4:=Tryz.zeroValue4
 t5:=Tryz.underlying5
 a5:=Tryz.isAgg5
 z5:=Tryz.sizeOf5
 v5:=Tryz.zeroValue5
 t9:=Tryz.underlying9
 a9:=Tryz.isAgg9
 z9:=Tryz.sizeOf9
 v9:=Tryz.zeroValue9
 t22:=Tryz.underlying39
 a22:=Tryz.isAgg39
 z22:=Tryz.sizeOf39
 v22:=Tryz.zeroValue39
 t25:=Tryz.underlying176
 a25:=Tryz.isAgg176
 z25:=Tryz.sizeOf176
 v25:=Tryz.zeroValue176
 t39:=Tryz.underlying186
 a39:=Tryz.isAgg186
 z39:=Tryz.sizeOf186
 v39:=Tryz.zeroValue186
 t45:=Tryz.underlying193
 a45:=Tryz.isAgg193
 z45:=Tryz.sizeOf193
 v45:=Tryz.zeroValue193
 t46:=Tryz.underlying194
 a46:=Tryz.isAgg194
 z46:=Tryz.sizeOf194
 v46:=Tryz.zeroValue194
 t50:=Tryz.underlying199
 a50:=Tryz.isAgg199
 z50:=Tryz.sizeOf199
 v50:=Tryz.zeroValue199
 t53:=Tryz.underlying202
 a53:=Tryz.isAgg202
 z53:=Tryz.sizeOf202
 v53:=Tryz.zeroValue202
 t55:=Tryz.underlying204
 a55:=Tryz.isAgg204
 z55:=Tryz.sizeOf204
 v55:=Tryz.zeroValue204
 t66:=Tryz.underlying217
 a66:=Tryz.isAgg217
 z66:=Tryz.sizeOf217
 v66:=Tryz.zeroValue217
 t70:=Tryz.underlying221
 a70:=Tryz.isAgg221
 z70:=Tryz.sizeOf221
 v70:=Tryz.zeroValue221
 t76:=Tryz.underlying227
 a76:=Tryz.isAgg227
 z76:=Tryz.sizeOf227
 v76:=Tryz.zeroValue227
 t77:=Tryz.underlying228
 a77:=Tryz.isAgg228
 z77:=Tryz.sizeOf228
 v77:=Tryz.zeroValue228 }
end Go.Proofs
