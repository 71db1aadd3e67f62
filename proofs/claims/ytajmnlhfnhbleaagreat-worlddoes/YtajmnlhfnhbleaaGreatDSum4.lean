/- Several texts of one proof, in their order. -/
import Derived.Test.YtajmnlhfnhbleaaGreatDSum3
import Derived.Test.YtajmnlhfnhbleaaGreatDSum2
namespace Go.Proofs.YtajmnlhfnhbleaaGreat
open Go.RowKit
set_option linter.unusedVariables false
set_option maxHeartbeats 4000000
def cellV(PV:Nat→Value)(b:Bk)(i:Nat):Value :=
 if i%4=0 then PV (i/4)else if i%4=1 then .int .i64 (b.nd (i/4))else if i%4=2 then .int .i64 (b.of (i/4))else .int .i64 (b.sz (i/4))
def flatV(n:Nat)(PV:Nat→Value)(b:Bk):List Value:=(List.range (n*4)).map (cellV PV b)
theorem flatV_len(n:Nat)(PV:Nat→Value)(b:Bk):(flatV n PV b).length=n*4:=by simp[flatV]
theorem flatV_get(n:Nat)(PV:Nat→Value)(b:Bk)(i:Nat):(flatV n PV b)[i]?=if i<n*4 then some (cellV PV b i)else none:=by
 unfold flatV;by_cases h:i<n*4;·simp[h]
 simp[h]
theorem flatV_one{n:Nat}{PV:Nat→Value}{b:Bk}(hV:∀j,j<n→(PV j).oneCell'=true):∀u∈flatV n PV b,u.oneCell'=true:=by
 intro u hu;obtain⟨i,hi,rfl⟩:=List.mem_map.1 hu;have hi':=List.mem_range.1 hi;unfold cellV;split;·exact hV _ (by omega)
 split;·rfl
 split<;>rfl
theorem flatV_congr{n:Nat}{PV PV':Nat→Value}{b b':Bk}(h:∀j,j<n→PV' j=PV j∧b'.nd j=b.nd j∧b'.of j=b.of j∧b'.sz j=b.sz j):flatV n PV' b'=flatV n PV b:=by
 refine List.map_congr_left fun i hi=>?_;have hi':=List.mem_range.1 hi;obtain⟨h1,h2,h3,h4⟩:=h (i/4) (by omega);unfold cellV;rw[h1,h2,h3,h4]
theorem flatV_succ(n:Nat)(PV:Nat→Value)(b:Bk):flatV (n+1) PV b=flatV n PV b++[PV n,.int .i64 (b.nd n),.int .i64 (b.of n),.int .i64 (b.sz n)]:=by
 have e:(n+1)*4=n*4+1+1+1+1:=by omega
 unfold flatV;rw[e,List.range_succ,List.range_succ,List.range_succ,List.range_succ];simp only[List.map_append,List.map_cons,List.map_nil,List.append_assoc,List.cons_append,List.nil_append];have c0:cellV PV b (n*4)=PV n:=by unfold cellV;rw[if_pos (by omega),show n*4/4=n by omega]
 have c1:cellV PV b (n*4+1)=.int .i64 (b.nd n):=by unfold cellV;rw[if_neg (by omega),if_pos (by omega),show(n*4+1)/4=n by omega]
 have c2:cellV PV b (n*4+1+1)=.int .i64 (b.of n):=by unfold cellV;rw[if_neg (by omega),if_neg (by omega),if_pos (by omega),show(n*4+1+1)/4=n by omega]
 have c3:cellV PV b (n*4+1+1+1)=.int .i64 (b.sz n):=by unfold cellV;rw[if_neg (by omega),if_neg (by omega),if_neg (by omega),show(n*4+1+1+1)/4=n by omega]
 rw[c0,c1,c2,c3]
def OwnV(w0 wr:World)(v:Value)(n:Nat)(PV:Nat→Value)(b:Bk):Prop:=wr.ownsRow w0.heap.size 61 4 v n (flatV n PV b)∧Below w0.heap.size w0 wr
theorem OwnV.nil(w:World)(PV:Nat→Value)(b:Bk):OwnV w w (.slice none 0 0) 0 PV b:=⟨World.ownsRow_nil _ _ _ _,Below.refl _ _⟩
theorem OwnV.up{w0 wr w':World}{v:Value}{n:Nat}{PV:Nat→Value}{b:Bk}(h:OwnV w0 wr v n PV b)(hb:Below wr.heap.size wr w'):OwnV w0 w' v n PV b:=⟨owns_below h.1 hb,h.2.trans (hb.mono h.2.size)⟩
theorem Tryz.infoVer:(Tryz.prog.info? 61).map (fun i=>(i.zero,i.size,i.bytes))=some (some (.agg #[.slice none 0 0,.int .i64 0,.int .i64 0,.int .i64 0]),4,48):=by kernel_rfl
theorem cloneV{w:World}{v:Value}{n:Nat}{PV:Nat→Value}{b:Bk}(h:VeSl w w.heap.size v n PV b)(hn:n≤1000):
 Calls Tryz.prog 127 #[v] w fun e w'=>∃v',e=.returned v'∧OwnV w w' v' n PV b:=by
 obtain⟨ad,cap,rfl,⟨hc,hr⟩,hx⟩:=h
 have q34:∀(w:World) (a:Option Addr) (n c:Nat),(binOp .eql 22 (.slice a n c) (.slice none 0 0)).run Tryz.prog w=.ok (.bool a.isNone) w:=fun w a n c=>Lib.run_eql_slice_nil w _ _ a n c 0 0 Tryz.underlying22
 cases ad with
 |none =>
  have h0:n=0:=by
   rcases hx with h0|⟨bl,off,e,_⟩;·exact h0
   cases e
  subst h0;clear hx;go_enter Tryz.func127,Tryz.ntmps127;go_wp2;go_ret;exact⟨_,rfl,OwnV.nil _ _ _⟩
 |some a =>
  have hnews:∀j u,(flatV n PV b)[j]?=some u→w.cell? (Addr.add a j)=some u:=by
   intro j u hu;rw[flatV_get]at hu;by_cases hj:j<n*4
   ·rw[if_pos hj]at hu
    injection hu with hu;rcases hx with h0|⟨bl,off,e,hbl,hx⟩;·omega
    injection e with e;subst e;obtain⟨g1,g2,g3,g4,_⟩:=hx (j/4) (by omega);rw[Addr.add_lit,←hu];unfold cellV;by_cases m0:j%4=0;·rw[if_pos m0,←g1,show off+j/4*4=off+j by omega]
    rw[if_neg m0];by_cases m1:j%4=1;·rw[if_pos m1,←g2,show off+j/4*4+1=off+j by omega]
    rw[if_neg m1];by_cases m2:j%4=2;·rw[if_pos m2,←g3,show off+j/4*4+2=off+j by omega]
    rw[if_neg m2,←g4,show off+j/4*4+3=off+j by omega]
   rw[if_neg hj]at hu;cases hu
  have h1:∀u∈flatV n PV b,u.oneCell'=true:=flatV_one fun j hj=>by
   rcases hx with h0|⟨bl,off,e,hbl,hx⟩;·omega
   obtain⟨ap,cp,e2,_⟩:=(hx j hj).2.2.2.2;rw[e2];rfl
  have HNw:=hid hnews;have H1:=hid h1;obtain⟨ii,hi,hz0,hz1,hz2⟩:=info_parts Tryz.infoVer;clear hx hnews h1;go_enter Tryz.func127,Tryz.ntmps127;go_wp2_with(at_builtin;go_must(refine wpList_append_own _ rfl _ _ 22 rfl w.heap.size 61 ii (.agg #[.slice none 0 0,.int .i64 0,.int .i64 0,.int .i64 0]) 4 48 Tryz.underlying22 hi hz0 hz1 hz2 rfl (by decide) _ _ _ rfl (World.ownsRow_made w #[] 0 (Nat.le_refl _) (Nat.zero_le _) (by simp)) a n cap (flatV n PV b) rfl (flatV_len _ _ _) (fun j u hu=>Lib.cell?_alloc_some _ (HNw.out j u hu)) H1.out (by unfold maxLen;omega) (by omega) (by simp) ?_;intro v1 w2 ho hg _;have HO:=hid ho;have HG:=hid hg;clear ho hg))
  go_ret;refine⟨_,rfl,?_,?_⟩
  ·have h:=HO.out
   rw[Nat.zero_add,List.nil_append]at h;exact h
  exact((Below.refl _ _).alloc (Nat.le_refl _) _).grown HG.out (by simp) (fun k hk=>by cases hk;exact Nat.le_refl _)
def snocB(n:Nat)(b:Bk)(l:Nat)(X:Nat→Int)(nd of sz:Int):Bk :=
 ⟨fun j=>if j=n then l else b.PL j,fun j=>if j=n then X else b.PX j,fun j=>if j=n then nd else b.nd j,fun j=>if j=n then of else b.of j,fun j=>if j=n then sz else b.sz j⟩
def snocP(n:Nat)(PV:Nat→Value)(pv:Value)(j:Nat):Value:=if j=n then pv else PV j
def addE(n:Nat)(b b':Bk):Int:=if bookE n b=0 then bookE (n+1) b' else bookE n b
theorem cells_four(w:World)(v0 v1 v2 v3:Value)(T:TypeId):∀j u,([v0,v1,v2,v3]:List Value)[j]?=some u→(w.alloc (.cells #[v0,v1,v2,v3] T)).cell? (Addr.add ⟨w.heap.size,0,none⟩ j)=some u:=by
 intro j u hj;rw[Addr.add_lit];match j,hj with
 |0,hj=>simp at hj;subst hj;exact cell_at (heap_alloc_new _ _) rfl
 |1,hj=>simp at hj;subst hj;exact cell_at (heap_alloc_new _ _) rfl
 |2,hj=>simp at hj;subst hj;exact cell_at (heap_alloc_new _ _) rfl
 |3,hj=>simp at hj;subst hj;exact cell_at (heap_alloc_new _ _) rfl
theorem owns_ne{w:World}{base:Nat}{e t:TypeId}{size:Nat}{v:Value}{n:Nat}{xs:List Value}{bm:Nat}{cs:Array Value}(h:w.ownsRow base e size v n xs)(hm:w.heap[bm]?=some (.cells cs t (0,0)))(ht:e≠t):v.ownBlock≠some bm:=by
 obtain⟨_,h2⟩:=h;rcases h2 with⟨rfl,_⟩|⟨g,cap,cur,rfl,_,hh,_⟩;·intro e;cases e
 intro e1;injection e1 with e1;have e2:g=bm:=e1;subst e2;rw[hm]at hh;injection hh with hh;injection hh with _ h3 _;exact ht h3.symm
theorem owns_sliceV{w:World}{base:Nat}{e:TypeId}{size:Nat}{v:Value}{n:Nat}{xs:List Value}(h:w.ownsRow base e size v n xs):∃a c,v=.slice a n c:=by
 obtain⟨_,h2⟩:=h;rcases h2 with⟨h1,h0⟩|⟨g,cap,cur,h1,_⟩;·exact⟨none,0,by rw[h0];exact h1⟩
 exact⟨_,_,h1⟩
theorem owns_set_other{w:World}{base:Nat}{e:TypeId}{size:Nat}{v:Value}{n:Nat}{xs:List Value}{g o:Nat}(h:w.ownsRow base e size v n xs)(hne:v.ownBlock≠some g)(u:Value):(w.setCell ⟨g,o,none⟩ u).ownsRow base e size v n xs:=by
 obtain⟨h1,h2⟩:=h;refine⟨h1,?_⟩;rcases h2 with h2|⟨g',cap,cur,rfl,hg,hh,hr⟩;·exact Or.inl h2
 refine Or.inr ⟨g',cap,cur,rfl,hg,?_,hr⟩;rw[Below.heap_setCell _ _ _ _ (fun e=>hne (by rw[←show g'=g from e];rfl))];exact hh
theorem OwnV.pushV{w0 wr w1:World}{v v':Value}{n:Nat}{PV:Nat→Value}{b:Bk}{pv:Value}{l:Nat}{X:Nat→Int}{nd of sz:Int}(h:OwnV w0 wr v n PV b)
 (ho:w1.ownsRow w0.heap.size 61 4 v' (n+1) (flatV n PV b++[pv,.int .i64 nd,.int .i64 of,.int .i64 sz])) (hg:wr.grownBy w1 v.ownBlock):OwnV w0 w1 v' (n+1) (snocP n PV pv) (snocB n b l X nd of sz):=by
 refine⟨?_,h.2.grown hg h.2.size (fun g hgg=>(h.1.lt g hgg).1)⟩
 rw[flatV_succ]
 have e:flatV n (snocP n PV pv) (snocB n b l X nd of sz)=flatV n PV b:=flatV_congr fun j hj=>by
  have hne:j≠n:=by omega
  simp[snocP,snocB,hne]
 rw[e]
 simp only[snocP,snocB,if_true]
 exact ho
theorem rowV_shl{wr:World}{base:Nat}{v:Value}{n:Nat}{PV:Nat→Value}{b:Bk}(h:wr.ownsRow base 61 4 v n (flatV n PV b))(hr:n*48≤140737488351232)(hi:∀j,j<n→IntSl wr wr.heap.size (PV j) (b.PL j) (b.PX j)):VeSl wr wr.heap.size v n PV b:=by
 obtain⟨hl,h2⟩:=h;rcases h2 with⟨rfl,h0⟩|⟨g,cap,cur,rfl,hg,hh,hc1,hc2,hsz,hcur⟩;·subst h0;exact⟨none,0,rfl,⟨Nat.le_refl _,by omega⟩,Or.inl rfl⟩
 refine⟨_,cap,rfl,⟨hc1,hr⟩,Or.inr ⟨g,0,rfl,(Array.getElem?_eq_some_iff.1 hh).1,fun j hj=>?_⟩⟩;have key:∀i,i<n*4→wr.cell? ⟨g,i,none⟩=some (cellV PV b i):=fun i hi=>by
  have h3:=flatV_get n PV b i;rw[if_pos hi,←hcur,List.getElem?_take,if_pos hi]at h3;exact cell_at hh (by simpa using h3)
 rw[Nat.zero_add];refine⟨?_,?_,?_,?_,hi j hj⟩;·rw[key (j*4) (by omega)];unfold cellV;rw[if_pos (by omega),show j*4/4=j by omega]
 ·rw[key (j*4+1) (by omega)];unfold cellV;rw[if_neg (by omega),if_pos (by omega),show(j*4+1)/4=j by omega]
 ·rw[key (j*4+2) (by omega)];unfold cellV;rw[if_neg (by omega),if_neg (by omega),if_pos (by omega),show(j*4+2)/4=j by omega]
 rw[key (j*4+3) (by omega)];unfold cellV;rw[if_neg (by omega),if_neg (by omega),if_neg (by omega),show(j*4+3)/4=j by omega]
theorem set_one{w:World}{g:Nat}{v:Value}{T:TypeId}(h:w.heap[g]?=some (.cells #[v] T (0,0)))(u:Value):(w.setCell ⟨g,0,none⟩ u).heap[g]?=some (.cells #[u] T (0,0)):=by
 simp[World.setCell,Array.getElem?_modify,h]
theorem results_cell2{P:Program}{fn:Func}{p u:Tmp}{ty:TypeId}(h:fn.results=#[.cell p ty,.tmp u])(tmps:Array Value)(w:World)(g:Nat)(t:TypeId)(cs:Array Value)(fr:Nat×Nat)(d:TypeDesc)
 (hp:tmps.getD p undef=.pointer (some ⟨g,0,none⟩)) (hg:w.heap[g]?=some (.cells cs t fr))
 (hu:P.underlying ty=some d) (hd:(match d with | .struct _ | .array _ _=>true|_=>false)=true) (hi:(P.info? ty).map (·.size)=some cs.size) :
 (results fn tmps).run P w=.ok (.tuple #[.agg cs,tmps.getD u undef]) w:=by
 rw[results_cell_tmp h,hp]
 simp[asAddr,run_loadVar_row w g t ty cs fr d hg hu hd hi]
theorem ret2{P:Program}{fn:Func}{R:Ending→World→Prop}{a:Act}{w:World}{p u:Tmp}{ty:TypeId}{g:Nat}{t:TypeId}{cs:Array Value}{fr:Nat×Nat}{d:TypeDesc}
 (hg:w.heap[g]?=some (.cells cs t fr)) (hu:P.underlying ty=some d) (hR:R (.returned (.tuple #[.agg cs,a.tmps.getD u undef])) w)
 (h:fn.results=#[.cell p ty,.tmp u]:=by rfl) (hp:a.tmps.getD p undef=.pointer (some ⟨g,0,none⟩):=by rfl)
 (hd:(match d with | .struct _ | .array _ _=>true|_=>false)=true:=by rfl) (hi:(P.info? ty).map (·.size)=some cs.size:=by kernel_rfl) (hf:a.defers=[]:=by rfl) :
 bodyPost P fn R .ret a w :=
 bodyPost_ret (results_cell2 h _ w g t cs fr d hp hg hu hd hi) hf hR
theorem three_at{w:World}{g:Nat}{T:TypeId}{u0 u1 u2:Value}(h:w.heap[g]?=some (.cells #[u0,u1,u2] T (0,0))):
 w.cell? ⟨g,0,none⟩=some u0∧w.cell? ⟨g,1,none⟩=some u1∧w.cell? ⟨g,2,none⟩=some u2:=⟨cell_at h rfl,cell_at h rfl,cell_at h rfl⟩
theorem atPeer_any(th:Bool)(room:Int)(v:Value)(m:Nat)(UV:Nat→Value)(t:Kt)(ver:Int)(w:World)(h:KeSl w w.heap.size v m UV t):
 Calls Tryz.prog 95 #[peerV th room v,.int .i64 ver] w fun e w'=>e=.returned (.int .i64 (fstAt t.V ver m 0))∧Below w.heap.size w w':=by
 obtain⟨ad,cap,rfl,⟨hcap,hbig⟩,hx⟩:=h
 have hbx:=below_alloc w (.cells #[.bool th,.int .i64 room,.slice ad m cap] 41)
 have HBx:=hid hbx
 have HX:=hid hx
 obtain⟨ans,hans⟩:∃a,fstAt t.V ver m 0=a:=⟨_,rfl⟩
 rw[hans]
 have HA:=hid hans
 clear hbx hx hans
 unfold peerV
 go_enter Tryz.func95,Tryz.ntmps95
 go_wp2
 go_loopw [10] (fun iv wr=>∃k:Nat,k≤m∧iv=.int .i64 k∧Hid (Below w.heap.size w wr)∧Hid (fstAt t.V ver (m-k) k=ans)) (fun iv _=>m-(intOf iv).toNat)
 case atStart=>exact⟨0,Nat.zero_le _,rfl,HBx,HA⟩
 case round =>
  obtain⟨k,hk,rfl,HB,HS⟩:=hrel;by_cases hlt:k<m
  ·have hki:(k:Int)<(m:Int):=by omega
   rcases HX.out with h0|⟨bl,off,rfl,hbl,hx⟩;·omega
   obtain⟨x0,x1,x2,x3⟩:=hx k hlt;have hstep:=HS.out;rw[show m-k=(m-(k+1))+1 by omega]at hstep;simp only[fstAt]at hstep;obtain⟨ap,cp,hpe,_,_⟩:=x3;rw[hpe]at x2;have g0:wr.cell? ⟨bl,off+k*3,none⟩=some (.int .i64 (t.V k)):=by rw[HB.out.cell hbl];exact x0
   have g1:wr.cell? ⟨bl,off+k*3+1,none⟩=some (.int .i64 (t.N k)):=by rw[HB.out.cell hbl];exact x1
   have g2:wr.cell? ⟨bl,off+k*3+2,none⟩=some (.slice ap (t.L k) cp):=by rw[HB.out.cell hbl];exact x2
   have hbA:=below_alloc wr (.cells #[.int .i64 (t.V k),.int .i64 (t.N k),.slice ap (t.L k) cp] 83);have HBW:=hid (HB.out.trans (hbA.mono HB.out.size));obtain⟨x,hxx⟩:∃x,t.V k=x:=⟨_,rfl⟩;rw[hxx]at g0 hstep HBW;clear x0 x1 x2 hx hpe hbA hxx;by_cases hv:ver=x
   ·rw[if_pos hv]at hstep
    have hve:(x==ver)=true:=by rw[beq_iff_eq];exact hv.symm
    have HFin:=hid hstep;clear hstep hv;go_wp2;go_ret;exact⟨by rw[←HFin.out];rfl,HBW.out⟩
   rw[if_neg hv]at hstep;have hve:(x==ver)=false:=by rw[beq_eq_false_iff_ne];exact fun h=>hv h.symm
   have HNx:=hid hstep;clear hstep hv;go_wp2;go_roundw
   case rel=>exact⟨k+1,by omega,by go_num,HBW,HNx⟩
   case measure=>simp only[intOf];omega
  have hke:m=k:=by omega
  subst hke;have hst:=HS.out;rw[Nat.sub_self]at hst;have HFin:Hid ((-1:Int)=ans):=hst;clear hst;go_wp2;go_ret;exact⟨by rw[←HFin.out];rfl,HB.out⟩
theorem checkPeer_any(vb:Value)(n:Nat)(PV:Nat→Value)(b:Bk)(th:Bool)(room:Int)(vk:Value)(m:Nat)(UV:Nat→Value)(t:Kt)(w:World)(hv:VeSl w w.heap.size vb n PV b)(hk:KeSl w w.heap.size vk m UV t):
 Calls Tryz.prog 87 #[bookV vb,peerV th room vk] w fun e w'=>e=.returned (.int .i64 (peerE n b room m t))∧Below w.heap.size w w':=by
 have HV:=hid hv
 have HKe:=hid hk
 obtain⟨ad,cap,rfl,⟨hcap,hbig⟩,hx⟩:=hv
 obtain⟨ak,capk,rfl,⟨hcapk,hbigk⟩,hxk⟩:=hk
 have hb0:=((Below.refl w.heap.size w).alloc (Nat.le_refl _) (.cells #[.slice ad n cap] 24)).alloc (by simp) (.cells #[.bool th,.int .i64 room,.slice ak m capk] 41)
 have k1:=heap_two_old w (.cells #[.slice ad n cap] 24) (.cells #[.bool th,.int .i64 room,.slice ak m capk] 41)
 have k2:=heap_two_new w (.cells #[.slice ad n cap] 24) (.cells #[.bool th,.int .i64 room,.slice ak m capk] 41)
 obtain⟨U,hU⟩:∃U,(w.alloc (.cells #[.slice ad n cap] 24)).alloc (.cells #[.bool th,.int .i64 room,.slice ak m capk] 41)=U:=⟨_,rfl⟩
 rw[hU]at hb0 k1 k2
 have B0:=hid hb0
 have K1:=hid k1
 have K2:=hid k2
 have HX:=hid hx
 have HXk:=hid hxk
 obtain⟨ans,hans⟩:∃a,peerE n b room m t=a:=⟨_,rfl⟩
 rw[hans]
 unfold peerE at hans
 obtain⟨c,hc⟩:∃c,bookE n b=c:=⟨_,rfl⟩
 have CK:=hid (checkBook_any _ n PV b U (HV.out.up hb0))
 rw[hc]at CK hans
 have HA:=hid hans
 have c1:=cell_at (i:=0) k1 rfl
 clear hb0 k1 k2 hx hxk hans
 unfold bookV at CK
 unfold bookV peerV
 go_enter Tryz.func87,Tryz.ntmps87
 go_wp2_with fail
 refine Calls.mono CK.out ?_
 rintro e W ⟨rfl,hbW⟩
 have B1:=hid (B0.out.trans (hbW.mono B0.out.size))
 have k1:W.heap[w.heap.size]?=some (.cells #[.slice ad n cap] 24 (0,0)):=by rw[hbW.block _ (Array.getElem?_eq_some_iff.1 K1.out).1];exact K1.out
 have k2:W.heap[w.heap.size+1]?=some (.cells #[.bool th,.int .i64 room,.slice ak m capk] 41 (0,0)):=by rw[hbW.block _ (Array.getElem?_eq_some_iff.1 K2.out).1];exact K2.out
 have KW1:=hid k1
 have KW2:=hid k2
 obtain⟨p0,p1,p2⟩:=three_at k2
 clear hbW B0 K1 K2 k1 k2 c1 CK
 by_cases hc0:c=0
 ·subst hc0
  have hA:=HA.out;rw[if_pos rfl]at hA;have CI:=hid (in_any room 0 20 W);by_cases hr:0≤room∧room≤20
  ·rw[if_pos hr]at hA
   rw[decide_eq_true hr]at CI;by_cases hm:(m:Int)≤room
   ·rw[if_pos hm]at hA
    have HA2:=hid hA;clear hA;go_wp2_with fail
    refine Calls.mono CI.out ?_;rintro e w2 ⟨rfl,hw2⟩;subst w2;go_wp2;clear p0 p1 p2 CI;go_loopw [6,28] (fun lv iv wr=>∃(k:Nat) (last:Int),k≤m∧iv=.int .i64 k∧lv=.int .i64 last∧Hid (Below W.heap.size W wr)∧Hid (scanK n b t (m-k) k last=ans)) (fun _ iv _=>m-(intOf iv).toNat)
    case atStart=>exact⟨0,-1,Nat.zero_le _,rfl,rfl,Below.refl _ _,HA2⟩
    case round =>
     obtain⟨k,last,hk,rfl,rfl,HB,HS⟩:=hrel;by_cases hlt:k<m
     ·have hki:(k:Int)<(m:Int):=by omega
      rcases HXk.out with h0|⟨bl,off,rfl,hbl,hxk⟩;·omega
      obtain⟨x0,x1,x2,x3⟩:=hxk k hlt;have hstep:=HS.out;rw[show m-k=(m-(k+1))+1 by omega]at hstep;simp only[scanK]at hstep;have BR:=hid (B1.out.trans (HB.out.mono B1.out.size));have HIs:Hid (∀u,Below w.heap.size w u→IntSl u u.heap.size (UV k) (t.L k) (t.X k)):=fun u hb=>x3.up hb;obtain⟨ap,cp,hpe,_,_⟩:=x3;rw[hpe]at x2 HIs;have g0:wr.cell? ⟨bl,off+k*3,none⟩=some (.int .i64 (t.V k)):=by rw[BR.out.cell hbl];exact x0
      have g1:wr.cell? ⟨bl,off+k*3+1,none⟩=some (.int .i64 (t.N k)):=by rw[BR.out.cell hbl];exact x1
      have g2:wr.cell? ⟨bl,off+k*3+2,none⟩=some (.slice ap (t.L k) cp):=by rw[BR.out.cell hbl];exact x2
      obtain⟨Z,hZ⟩:∃Z,wr.alloc (.cells #[.int .i64 (t.V k),.int .i64 (t.N k),.slice ap (t.L k) cp] 83)=Z:=⟨_,rfl⟩;have hbZ:Below wr.heap.size wr Z:=by rw[←hZ];exact below_alloc _ _
      have hWZ:=HB.out.trans (hbZ.mono HB.out.size);have HBZ:=hid hWZ;have BZ:=hid (B1.out.trans (hWZ.mono B1.out.size));obtain⟨z0,z1,z2⟩:Z.cell? ⟨wr.heap.size,0,none⟩=_∧Z.cell? ⟨wr.heap.size,1,none⟩=_∧Z.cell? ⟨wr.heap.size,2,none⟩=_:=three_at (by rw[←hZ];exact heap_alloc_new wr _);have zb:Z.cell? ⟨w.heap.size,0,none⟩=some (.slice ad n cap):=by rw[hWZ.cell (Array.getElem?_eq_some_iff.1 KW1.out).1];exact cell_at KW1.out rfl
      obtain⟨x,hxx⟩:∃x,t.V k=x:=⟨_,rfl⟩;rw[hxx]at g0 z0 hstep hZ;have HOk:Hid (oneK b t k=oneE (b.nd x.toNat) (b.of x.toNat) (b.sz x.toNat) (t.N k) (t.L k) (t.X k)):=by show _=_;unfold oneK;rw[hxx]
      clear x0 x1 x2 hxk hpe hbZ hWZ hxx;by_cases c1:x<0∨(n:Int)≤x
      ·rw[if_pos c1]at hstep
       have HFin:=hid hstep;clear hstep;by_cases c2:x<0
       ·go_wp2
        go_ret;exact⟨by rw[←HFin.out];rfl,BZ.out⟩
       have c3:(n:Int)≤x:=by omega
       go_wp2;go_ret;exact⟨by rw[←HFin.out];rfl,BZ.out⟩
      rw[if_neg c1]at hstep;have c2:¬x<0:=fun h=>c1 (Or.inl h);have c3:¬(n:Int)≤x:=fun h=>c1 (Or.inr h);by_cases c4:x≤last
      ·rw[if_pos c4]at hstep
       have HFin:=hid hstep;clear hstep c1;go_wp2;go_ret;exact⟨by rw[←HFin.out];rfl,BZ.out⟩
      rw[if_neg c4]at hstep;rw[HOk.out]at hstep;obtain⟨y,rfl⟩:∃y:Nat,x=y:=⟨x.toNat,by omega⟩;rw[Int.toNat_natCast]at hstep;have hyn:y<n:=by omega
      have hyi:(y:Int)<(n:Int):=by omega
      rcases HX.out with h0|⟨bv,ov,rfl,hbv,hxv⟩;·omega
      obtain⟨_,v1,v2,v3,_⟩:=hxv y hyn;have q1:Z.cell? ⟨bv,ov+y*4+1,none⟩=some (.int .i64 (b.nd y)):=by rw[BZ.out.cell hbv];exact v1
      have q2:Z.cell? ⟨bv,ov+y*4+2,none⟩=some (.int .i64 (b.of y)):=by rw[BZ.out.cell hbv];exact v2
      have q3:Z.cell? ⟨bv,ov+y*4+3,none⟩=some (.int .i64 (b.sz y)):=by rw[BZ.out.cell hbv];exact v3
      have hne:Nonempty (Of (Below Z.heap.size Z)):=⟨⟨Z,Below.refl _ _⟩⟩;have F0:∀u:Of (Below Z.heap.size Z),u.val.cell? ⟨wr.heap.size,0,none⟩=some (.int .i64 (y:Int)):=fun u=>by rw[u.is.cell (cell_lt z0)];exact z0
      have F1:∀u:Of (Below Z.heap.size Z),u.val.cell? ⟨wr.heap.size,1,none⟩=some (.int .i64 (t.N k)):=fun u=>by rw[u.is.cell (cell_lt z1)];exact z1
      have F2:∀u:Of (Below Z.heap.size Z),u.val.cell? ⟨wr.heap.size,2,none⟩=some (.slice ap (t.L k) cp):=fun u=>by rw[u.is.cell (cell_lt z2)];exact z2
      have F3:∀u:Of (Below Z.heap.size Z),u.val.cell? ⟨w.heap.size,0,none⟩=some (.slice (some ⟨bv,ov,none⟩) n cap):=fun u=>by rw[u.is.cell (cell_lt zb)];exact zb
      have F4:∀u:Of (Below Z.heap.size Z),u.val.cell? ⟨bv,ov+y*4+1,none⟩=some (.int .i64 (b.nd y)):=fun u=>by rw[u.is.cell (cell_lt q1)];exact q1
      have F5:∀u:Of (Below Z.heap.size Z),u.val.cell? ⟨bv,ov+y*4+2,none⟩=some (.int .i64 (b.of y)):=fun u=>by rw[u.is.cell (cell_lt q2)];exact q2
      have F6:∀u:Of (Below Z.heap.size Z),u.val.cell? ⟨bv,ov+y*4+3,none⟩=some (.int .i64 (b.sz y)):=fun u=>by rw[u.is.cell (cell_lt q3)];exact q3
      have HD1:Hid (Below Z.heap.size Z Z.drew):=⟨rfl,rfl,rfl,Nat.le_refl _,fun _ _=>rfl⟩;have CS:=hid (checkShare_any (b.nd y) (b.of y) (b.sz y) (t.N k) _ (t.L k) (t.X k) Z.drew (HIs.out _ (BZ.out.trans (HD1.out.mono BZ.out.size))));obtain⟨er,her⟩:∃er,oneE (b.nd y) (b.of y) (b.sz y) (t.N k) (t.L k) (t.X k)=er:=⟨_,rfl⟩;rw[her]at CS hstep;have HSt:=hid hstep;unfold planV shareV at CS;clear hxv hstep her c1 v1 v2 v3 q1 q2 q3;go_wp2_with fail
      refine region_mixed (Below Z.heap.size Z) [([0,1,2,3,4,5,6,7,8],9)] [10] (by kernel_rfl) (by kernel_rfl) HD1.out ?_;refine mixO_cons ?_;repeat(go_big_quiet_step (fail))
      refine wpQuiet_nil ?_;intro K hK;go_wp2_with fail
      refine Calls.mono CS.out ?_;rintro e w5 ⟨rfl,hb5⟩;have H5:Hid (Below Z.heap.size Z w5):=HD1.out.trans (hb5.mono HD1.out.size);clear hb5;go_wp2;refine⟨rfl,hK _ _ H5.out ?_⟩;clear hK K;refine mixO_nil ?_;repeat(go_big_quiet_step (fail))
      refine wpQuiet_nil ?_;have B5:=hid (HBZ.out.trans (H5.out.mono HBZ.out.size));clear F0 F1 F2 F3 F4 F5 F6 hne;by_cases he0:er=0
      ·subst he0
       have hs:=HSt.out;rw[if_pos rfl]at hs;have HNx:=hid hs;clear hs;go_wp2;go_roundw
       case rel=>exact⟨k+1,(y:Int),by omega,by go_num,rfl,B5,HNx⟩
       case measure=>simp only[intOf];omega
      have hs:=HSt.out;rw[if_neg he0]at hs;have heb:(er != 0)=true:=by simpa using he0
      have HFin:=hid hs;clear hs he0;go_wp2;go_ret;exact⟨by rw[←HFin.out];rfl,B1.out.trans (B5.out.mono B1.out.size)⟩
     have hke:m=k:=by omega
     subst hke;have hst:=HS.out;rw[Nat.sub_self]at hst;have HFin:Hid ((0:Int)=ans):=hst;clear hst;go_wp2;go_ret;exact⟨by rw[←HFin.out];rfl,B1.out.trans (HB.out.mono B1.out.size)⟩
   rw[if_neg hm]at hA;have HFin:=hid hA;have hmr:room<(m:Int):=by omega
   clear hA hm;go_wp2_with fail
   refine Calls.mono CI.out ?_;rintro e w2 ⟨rfl,hw2⟩;subst w2;go_wp2;go_ret;exact⟨by rw[←HFin.out];rfl,B1.out⟩
  rw[if_neg hr]at hA;rw[decide_eq_false hr]at CI;have HFin:=hid hA;clear hA;go_wp2_with fail
  refine Calls.mono CI.out ?_;rintro e w2 ⟨rfl,hw2⟩;subst w2;go_wp2;go_ret;exact⟨by rw[←HFin.out];rfl,B1.out⟩
 ·have hA:=HA.out
  rw[if_neg hc0]at hA;have hcb:(c != 0)=true:=by simpa using hc0
  have HFin:=hid hA;clear hA hc0;go_wp2;go_ret;exact⟨by rw[←HFin.out];rfl,B1.out⟩
theorem set_three{w:World}{g:Nat}{v0 v1 v2:Value}{T:TypeId}(h:w.heap[g]?=some (.cells #[v0,v1,v2] T (0,0)))(u:Value):(w.setCell ⟨g,2,none⟩ u).heap[g]?=some (.cells #[v0,v1,u] T (0,0)):=by
 simp[World.setCell,Array.getElem?_modify,h]
def put3(w:World)(g:Nat)(u0 u1 u2:Value):World:=((w.setCell ⟨g,0,none⟩ u0).setCell ⟨g,1,none⟩ u1).setCell ⟨g,2,none⟩ u2
theorem put3_whole{w:World}{g:Nat}{T:TypeId}{v0 v1 v2:Value}(h:w.heap[g]?=some (.cells #[v0,v1,v2] T (0,0)))(u0 u1 u2:Value):(put3 w g u0 u1 u2).heap[g]?=some (.cells #[u0,u1,u2] T (0,0)):=by
 simp[put3,World.setCell,Array.getElem?_modify,h]
theorem put3_below{B:Nat}{w w5:World}{g:Nat}{u0 u1 u2:Value}(hb:Below B w w5)(hg:B≤g):Below B w (put3 w5 g u0 u1 u2) :=
 ((hb.setCell (p:=⟨g,0,none⟩) hg _).setCell (p:=⟨g,1,none⟩) hg _).setCell (p:=⟨g,2,none⟩) hg _
theorem put3_other{w5:World}{g k:Nat}{u0 u1 u2:Value}(h:k≠g):(put3 w5 g u0 u1 u2).heap[k]?=w5.heap[k]?:=by
 unfold put3;rw[Below.heap_setCell _ _ _ _ h,Below.heap_setCell _ _ _ _ h,Below.heap_setCell _ _ _ _ h]
theorem drewK_below(w:World)(k:Nat):Below w.heap.size w (w.drewN k):=⟨rfl,rfl,rfl,Nat.le_refl _,fun _ _=>rfl⟩
theorem drew_below(w:World):Below w.heap.size w w.drew:=⟨rfl,rfl,rfl,Nat.le_refl _,fun _ _=>rfl⟩
theorem stayB{w w':World}{g:Nat}{o:Obj}(h:w.heap[g]?=some o)(hb:Below w.heap.size w w'):w'.heap[g]?=some o:=by
 rw[hb.block _ (Array.getElem?_eq_some_iff.1 h).1];exact h
end Go.Proofs.YtajmnlhfnhbleaaGreat
