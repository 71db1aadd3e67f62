/- Several texts of one proof, in their order. -/
import Derived.Test.YtajmnlhfnhbleaaGreatKw17
namespace Go.Proofs.YtajmnlhfnhbleaaGreat
open Go.RowKit Go.Maps CurveMath
set_option linter.unusedVariables false
set_option maxHeartbeats 16000000
set_option maxRecDepth 10000
section
theorem set_size{w:World}{a:Addr}{u:Value}:(w.setCell a u).heap.size=w.heap.size:=by simp[World.setCell]
def FpPost(w:World)(th:Bool)(room:Int)(m:Nat)(t:Kt)(e:Ending)(w':World):Prop :=
 Below w.heap.size w w'∧∃(gk:Nat) (f:Nat→Nat),e=.returned (peerV th room (.slice (some ⟨gk,0,none⟩) m m))∧w.heap.size≤gk∧gk<w'.heap.size ∧
  KeSl w' w'.heap.size (.slice (some ⟨gk,0,none⟩) m m) m (fun i=>.slice (some ⟨f i,0,none⟩) (t.L i) (t.L i)) t∧NewV w.heap.size w' (.slice (some ⟨gk,0,none⟩) m m) ∧
  (∀i,i<m→gk<f i∧NewV w.heap.size w' (.slice (some ⟨f i,0,none⟩) (t.L i) (t.L i)))∧∀i j,i<j→j<m→f i<f j
structure FpInv(w wr:World)(th:Bool)(room:Int)(ak:Option Addr)(m ck gk gc:Nat)(t:Kt)(k:Nat)(f:Nat→Nat):Prop where
 below:Below w.heap.size w wr
 box:wr.heap[w.heap.size]?=some (.cells #[.bool th,.int .i64 room,.slice ak m ck] 41 (0,0))
 out:wr.heap[w.heap.size+1]?=some (.cells #[.bool false,.int .i64 0,.slice none 0 0] 41 (0,0))
 cc:wr.heap[gc]?=some (.cells #[.bool th,.int .i64 room,.slice (some ⟨gk,0,none⟩) m m] 41 (0,0))
 ge:w.heap.size+1<gk∧w.heap.size+1<gc∧gk≠gc
 row:CRow wr gk 83 (m*3) (k*3) (cellK (fun i=>.slice (some ⟨f i,0,none⟩) (t.L i) (t.L i)) t)
 lists:∀i,i<k→gk<f i∧gc<f i∧f i<wr.heap.size∧IntSl wr wr.heap.size (.slice (some ⟨f i,0,none⟩) (t.L i) (t.L i)) (t.L i) (t.X i)∧NewV w.heap.size wr (.slice (some ⟨f i,0,none⟩) (t.L i) (t.L i))
 ord:∀i j,i<j→j<k→f i<f j
 top:gc<wr.heap.size
section
variable {w wr w' : World} {th : Bool} {room : Int} {ak : Option Addr} {m ck gk gc : Nat} {t : Kt} {k : Nat} {f : Nat → Nat}
theorem FpInv.up(h:FpInv w wr th room ak m ck gk gc t k f)(hb:Below wr.heap.size wr w'):FpInv w w' th room ak m ck gk gc t k f :=
 ⟨h.below.trans (hb.mono h.below.size),stayB h.box hb,stayB h.out hb,stayB h.cc hb,h.ge,h.row.up hb,fun i hi=>by
  obtain⟨x1,x2,x3,x4,x5⟩:=h.lists i hi;exact⟨x1,x2,Nat.lt_of_lt_of_le x3 hb.size,x4.up hb,x5.up hb⟩,h.ord,Nat.lt_of_lt_of_le h.top hb.size⟩
theorem FpInv.push(h:FpInv w wr th room ak m ck gk gc t k f)(hk:k<m){p:Nat}(hp:gk<p∧gc<p∧p<wr.heap.size)(ho:∀i,i<k→f i<p)(hl:IntSl wr wr.heap.size (.slice (some ⟨p,0,none⟩) (t.L k) (t.L k)) (t.L k) (t.X k))(hn:NewV w.heap.size wr (.slice (some ⟨p,0,none⟩) (t.L k) (t.L k))):
 FpInv w (((wr.setCell ⟨gk,k*3,none⟩ (.int .i64 (t.V k))).setCell ⟨gk,k*3+1,none⟩ (.int .i64 (t.N k))).setCell ⟨gk,k*3+2,none⟩ (.slice (some ⟨p,0,none⟩) (t.L k) (t.L k))) th room ak m ck gk gc t (k+1) (fun j=>if j=k then p else f j):=by
 obtain⟨g1,g2,g3⟩:=h.ge
 have hr:CRow wr gk 83 (m*3) (k*3) (cellK (fun i=>.slice (some ⟨if i=k then p else f i,0,none⟩) (t.L i) (t.L i)) t):=h.row.congr (cellK_cong fun j hj=>by rw[if_neg (by omega)])
 obtain⟨e0,e1,e2⟩:=cellK_at (UV:=fun i=>.slice (some ⟨if i=k then p else f i,0,none⟩) (t.L i) (t.L i)) (t:=t) (k:=k)
 have hz:(((wr.setCell ⟨gk,k*3,none⟩ (.int .i64 (t.V k))).setCell ⟨gk,k*3+1,none⟩ (.int .i64 (t.N k))).setCell ⟨gk,k*3+2,none⟩ (.slice (some ⟨p,0,none⟩) (t.L k) (t.L k))).heap.size=wr.heap.size:=by rw[set_size,set_size,set_size]
 have hb:∀q,q≠gk→(((wr.setCell ⟨gk,k*3,none⟩ (.int .i64 (t.V k))).setCell ⟨gk,k*3+1,none⟩ (.int .i64 (t.N k))).setCell ⟨gk,k*3+2,none⟩ (.slice (some ⟨p,0,none⟩) (t.L k) (t.L k))).heap[q]?=wr.heap[q]?:=fun q hq=>by
  rw[Below.heap_setCell _ _ _ _ hq,Below.heap_setCell _ _ _ _ hq,Below.heap_setCell _ _ _ _ hq]
 have hi3:∀ {v:Value} {l:Nat} {X:Nat→Int},IntSl wr wr.heap.size v l X→Above (gk+1) v→IntSl (((wr.setCell ⟨gk,k*3,none⟩ (.int .i64 (t.V k))).setCell ⟨gk,k*3+1,none⟩ (.int .i64 (t.N k))).setCell ⟨gk,k*3+2,none⟩ (.slice (some ⟨p,0,none⟩) (t.L k) (t.L k))) wr.heap.size v l X:=fun hx ha=>((hx.set ha _ _).set ha _ _).set ha _ _
 have hab:∀q l,gk<q→Above (gk+1) (.slice (some ⟨q,0,none⟩) l l):=fun q l hq ad n' c' e=>by injection e with e;injection e with e;subst e;exact hq
 have hB:=h.below
 refine⟨((hB.setCell (p:=⟨gk,k*3,none⟩) (by show w.heap.size≤gk;omega) _).setCell (p:=⟨gk,k*3+1,none⟩) (by show w.heap.size≤gk;omega) _).setCell (p:=⟨gk,k*3+2,none⟩) (by show w.heap.size≤gk;omega) _,by rw[hb _ (by omega)];exact h.box,by rw[hb _ (by omega)];exact h.out,by rw[hb _ (by omega)];exact h.cc,h.ge,hr.three (by omega) e0.symm e1.symm (by rw[e2];simp),fun i hi=>?_,fun i j hij hj=>?_,by rw[hz];exact h.top⟩
 ·rw[hz]
  by_cases e:i=k
  ·subst e
   simp only[if_true];exact⟨hp.1,hp.2.1,hp.2.2,hi3 hl (hab _ _ hp.1),((hn.set _ _).set _ _).set _ _⟩
  simp only[if_neg e];obtain⟨x1,x2,x3,x4,x5⟩:=h.lists i (by omega);exact⟨x1,x2,x3,hi3 x4 (hab _ _ x1),((x5.set _ _).set _ _).set _ _⟩
 ·by_cases e:j=k
  ·subst e
   simp only[if_true,if_neg (show ¬i=j by omega)];exact ho i hij
  simp only[if_neg e,if_neg (show ¬i=k by omega)];exact h.ord i j hij (by omega)
theorem FpInv.fin(h:FpInv w wr th room ak m ck gk gc t m f)(hm:m*40≤140737488351232):FpPost w th room m t (.returned (.agg #[.bool th,.int .i64 room,.slice (some ⟨gk,0,none⟩) m m])) (put3 wr (w.heap.size+1) (.bool th) (.int .i64 room) (.slice (some ⟨gk,0,none⟩) m m)):=by
 obtain⟨g1,g2,g3⟩:=h.ge;have hz:(put3 wr (w.heap.size+1) (.bool th) (.int .i64 room) (.slice (some ⟨gk,0,none⟩) m m)).heap.size=wr.heap.size:=by unfold put3;rw[set_size,set_size,set_size]
 have hr:CRow (put3 wr (w.heap.size+1) (.bool th) (.int .i64 room) (.slice (some ⟨gk,0,none⟩) m m)) gk 83 (m*3) (m*3) (cellK (fun i=>.slice (some ⟨f i,0,none⟩) (t.L i) (t.L i)) t):=by
  unfold put3;exact((h.row.other (by omega) _).other (by omega) _).other (by omega) _
 refine⟨put3_below h.below (by omega),gk,f,rfl,by omega,by rw[hz];exact h.row.lt,hr.kel hm fun i hi=>?_,hr.newV (by omega),fun i hi=>?_,h.ord⟩
 ·obtain⟨x1,x2,x3,x4,x5⟩:=h.lists i hi
  exact x4.put3N (fun ad n' c' e=>by injection e with e;injection e with e;subst e;show w.heap.size+1+1≤f i;omega) _ _ _
 obtain⟨x1,x2,x3,x4,x5⟩:=h.lists i hi;unfold put3;exact⟨x1,((x5.set _ _).set _ _).set _ _⟩
end
def OffT(T:Nat)(n:Nat)(QV:Nat→Value)(b:Bk):Prop:=∀j,j<n→b.PL j=0∨∀ad n' c,QV j=.slice (some ad) n' c→ad.block<T
theorem ltV_off{w:World}{B m:Nat}{v:Value}{X:Nat→Int}(h:IntSl w B v m X):m=0∨∀ad n' c,v=.slice (some ad) n' c→ad.block<B:=by
 obtain⟨ad,cap,rfl,_,h2⟩:=h;rcases h2 with h2|⟨b,off,rfl,h4,_⟩;·exact Or.inl h2
 refine Or.inr fun a n c e=>?_;injection e with e1;injection e1 with e1;subst e1;exact h4
def FmSep(T0 n:Nat)(QV:Nat→Value)(b:Bk)(np:Nat)(LV:Nat→Value)(VV:Nat→Nat→Value)(P:Ps)(gk:Nat→Nat)(f:Nat→Nat→Nat):Prop :=
 OffT T0 n QV b∧(∀j,j<np→LV j=.slice (some ⟨gk j,0,none⟩) (P.m j) (P.m j)∧T0≤gk j∧∀i,i<P.m j→gk j<f j i) ∧
 (∀j,j<np→(∀i,i<P.m j→VV j i=.slice (some ⟨f j i,0,none⟩) ((P.t j).L i) ((P.t j).L i))∧∀i i',i<i'→i'<P.m j→f j i<f j i') ∧
 ∀j j',j<j'→j'<np→gk j<gk j'∧∀i,i<P.m j→f j i<gk j'
theorem own_at{w:World}{B:Nat}{T:TypeId}{size n m c g:Nat}{xs:List Value}(h:w.ownsRow B T size (.slice (some ⟨g,0,none⟩) n c) m xs):B≤g∧g<w.heap.size:=by
 rcases h.2 with⟨e,_⟩|⟨g',cap,cur,e,hg,hh,_⟩;·cases e
 injection e with e;injection e with e;injection e with e;subst e;exact⟨hg,(Array.getElem?_eq_some_iff.1 hh).1⟩
structure FpMade(W w':World)(m gk gc:Nat):Prop where
 below:Below W.heap.size W w'
 row:CRow w' gk 83 (m*3) 0 (fun _=>undef)
 cc:w'.heap[gc]?=some (.cells #[.bool false,.int .i64 0,.slice none 0 0] 41 (0,0))
 ge:W.heap.size≤gk∧W.heap.size≤gc∧gk≠gc
theorem FpMade.start{w W w':World}{th:Bool}{room:Int}{ak:Option Addr}{m ck gk gc:Nat}{t:Kt}(h:FpMade W w' m gk gc)(hb:Below w.heap.size w W)
 (k1:W.heap[w.heap.size]?=some (.cells #[.bool th,.int .i64 room,.slice ak m ck] 41 (0,0))) (k2:W.heap[w.heap.size+1]?=some (.cells #[.bool false,.int .i64 0,.slice none 0 0] 41 (0,0))) :
 FpInv w (put3 w' gc (.bool th) (.int .i64 room) (.slice (some ⟨gk,0,none⟩) m m)) th room ak m ck gk gc t 0 (fun _=>0):=by
 obtain⟨g1,g2,g3⟩:=h.ge
 have l2:w.heap.size+1<W.heap.size:=(Array.getElem?_eq_some_iff.1 k2).1
 have lc:gc<w'.heap.size:=(Array.getElem?_eq_some_iff.1 h.cc).1
 have hB:Below W.heap.size W (put3 w' gc (.bool th) (.int .i64 room) (.slice (some ⟨gk,0,none⟩) m m)):=put3_below h.below g2
 have hz:(put3 w' gc (.bool th) (.int .i64 room) (.slice (some ⟨gk,0,none⟩) m m)).heap.size=w'.heap.size:=by unfold put3;rw[set_size,set_size,set_size]
 refine⟨hb.trans (hB.mono hb.size),stayB k1 hB,stayB k2 hB,put3_whole h.cc _ _ _,⟨by omega,by omega,g3⟩,?_,fun i hi=>by omega,fun i j _ hj=>by omega,by rw[hz];exact lc⟩
 unfold put3
 exact(((h.row.other g3 _).other g3 _).other g3 _).congr fun i hi=>by omega
theorem frPeer(th:Bool)(room:Int)(v:Value)(m:Nat)(UV:Nat→Value)(t:Kt)(w:World)(h:KeSl w w.heap.size v m UV t):
 Calls Tryz.prog 103 #[peerV th room v] w (FpPost w th room m t):=by
 have hb0:=((Below.refl w.heap.size w).alloc (Nat.le_refl _) (.cells #[.bool th,.int .i64 room,v] 41)).alloc (by simp) (.cells #[.bool false,.int .i64 0,.slice none 0 0] 41)
 have k1:=heap_two_old w (.cells #[.bool th,.int .i64 room,v] 41) (.cells #[.bool false,.int .i64 0,.slice none 0 0] 41)
 have k2:=heap_two_new w (.cells #[.bool th,.int .i64 room,v] 41) (.cells #[.bool false,.int .i64 0,.slice none 0 0] 41)
 have HK:=hid h
 obtain⟨ak,ck,rfl,⟨_,hbk⟩,hx⟩:=h
 obtain⟨W,hW⟩:∃W,(w.alloc (.cells #[.bool th,.int .i64 room,.slice ak m ck] 41)).alloc (.cells #[.bool false,.int .i64 0,.slice none 0 0] 41)=W:=⟨_,rfl⟩
 rw[hW]at hb0 k1 k2
 obtain⟨ik,hik,hkz0,hkz1,hkz2⟩:=info_parts Tryz.infoKept
 obtain⟨m0,m1,m2⟩:=three_at k1
 have B0:=hid hb0
 have K1:=hid k1
 have K2:=hid k2
 have HX:=hid hx
 have HW:=hid hW
 clear hb0 k1 k2 hx hW
 unfold peerV
 go_enter Tryz.func103,Tryz.ntmps103
 go_wp2_with fail
 rw[HW.out]
 refine region_tree_to (Below W.heap.size W) 10 #[true,true,true,true,true,true,true,true,true,true,false] 10 (fun a' w'=>∃gk gc:Nat,(∃j6 j7 j8 j9 j10 j11 j12 j13:Value,a'=⟨#[.agg #[.bool th,.int .i64 room,.slice ak m ck],.pointer (some ⟨w.heap.size,0,none⟩),.pointer (some ⟨w.heap.size+1,0,none⟩),.pointer (some ⟨gc,0,none⟩),undef,undef,j6,j7,j8,j9,j10,j11,j12,j13,.agg #[.bool th,.int .i64 room,.slice (some ⟨gk,0,none⟩) m m],undef,undef,undef,undef,undef,undef,undef,undef,undef,undef,undef,undef,undef,undef,undef,undef],[]⟩)∧FpMade W w' m gk gc) (by kernel_rfl) (by kernel_rfl) (by kernel_rfl) rfl (by simp only[pickO,List.getElem?_cons_zero,List.getElem?_cons_succ];exact rfl) rfl ?_ ?_
 ·obtain⟨U0,hU0⟩:∃u,W.drew=u:=⟨_,rfl⟩
  have HD:Hid (Below W.heap.size W U0):=by rw[←hU0];exact drew_below W
  rw[hU0];clear hU0;have hne:Nonempty (Of (Below W.heap.size W)):=⟨⟨W,Below.refl _ _⟩⟩;have F0:∀u:Of (Below W.heap.size W),u.val.cell? ⟨w.heap.size,0,none⟩=some (.bool th):=fun u=>by rw[u.is.cell (cell_lt m0)];exact m0
  have F1:∀u:Of (Below W.heap.size W),u.val.cell? ⟨w.heap.size,1,none⟩=some (.int .i64 room):=fun u=>by rw[u.is.cell (cell_lt m1)];exact m1
  have F2:∀u:Of (Below W.heap.size W),u.val.cell? ⟨w.heap.size,2,none⟩=some (.slice ak m ck):=fun u=>by rw[u.is.cell (cell_lt m2)];exact m2
  refine anyL_readsO (f:=3) (c:=10) (q:=[0,1,2,3,4,5,6]) HD.out ?_;repeat(go_big_quiet_step (fail))
  refine wpQuiet_nil ?_;clear m0 m1 m2;refine anyL_pick (f:=2) [7,9] (by kernel_rfl) (by decide) ?_;intro i hi;simp only[List.mem_cons,List.not_mem_nil,or_false]at hi;rcases hi with rfl|rfl
  ·refine⟨_,rfl,?_⟩
   intro K hK;go_wp2_with(at_make;refine wpList_make_full _ rfl (.tmp 12) (.tmp 12) 39 rfl _ 83 ik (.agg #[.int .i64 0,.int .i64 0,.slice none 0 0]) 3 Tryz.underlying39 hik hkz0 hkz1 _ _ _ _ m rfl rfl rfl rfl (by rw[hkz2];omega) (by unfold maxLen;omega) (Nat.le_refl _) ?_;intro U1 ho1 hg1;have hb:=below_of_grown hg1;have RK:=hid (CRow.made ho1 (fun _=>undef));have HB1:=hid hb;clear ho1 hg1 hb)
   have hb:=HB1.out;have LK:W.heap.size≤U0.heap.size:=HD.out.size;have Z0:U0.heap.size<U1.heap.size:=RK.out.lt;replace HD:=hid (HD.out.trans (hb.mono HD.out.size));clear hb HB1;refine⟨rfl,hK _ _ HD.out ?_⟩;clear hK K;refine anyL_readsO (f:=1) (c:=10) (q:=[8]) HD.out ?_;repeat(go_big_quiet_step (fail))
   refine wpQuiet_nil ?_;refine anyL_pick (f:=0) [9] (by kernel_rfl) (by decide) ?_;intro i hi;simp only[List.mem_cons,List.not_mem_nil,or_false]at hi;subst hi;refine⟨_,rfl,?_⟩;intro K hK;go_wp2;have hb:=below_alloc U1 (.cells #[.bool false,.int .i64 0,.slice none 0 0] 41);have KC:=hid (heap_alloc_new U1 (.cells #[.bool false,.int .i64 0,.slice none 0 0] 41));obtain⟨U2,hV⟩:∃v,World.alloc U1 (.cells #[.bool false,.int .i64 0,.slice none 0 0] 41)=v:=⟨_,rfl⟩;rw[hV]at hb KC;have LC:W.heap.size≤U1.heap.size:=HD.out.size;have Z1:U1.heap.size<U2.heap.size:=(Array.getElem?_eq_some_iff.1 KC.out).1;replace RK:=hid (RK.out.up hb);have HD1:=hid (HD.out.trans (hb.mono HD.out.size));refine⟨rfl,hK _ _ (by rw[hV];exact HD1.out) ?_⟩;rw[hV];replace HD:=HD1;clear hK K hb hV HD1;refine anyL_end (by kernel_rfl) ?_
   exact⟨U0.heap.size,U1.heap.size,⟨_,_,_,_,_,_,_,_,rfl⟩,⟨HD.out,RK.out,KC.out,⟨LK,LC,by omega⟩⟩⟩
  refine⟨_,rfl,?_⟩;intro K hK;go_wp2;have hb:=below_alloc U0 (.cells #[.bool false,.int .i64 0,.slice none 0 0] 41);have KC:=hid (heap_alloc_new U0 (.cells #[.bool false,.int .i64 0,.slice none 0 0] 41));obtain⟨U1,hV⟩:∃v,World.alloc U0 (.cells #[.bool false,.int .i64 0,.slice none 0 0] 41)=v:=⟨_,rfl⟩;rw[hV]at hb KC;have LC:W.heap.size≤U0.heap.size:=HD.out.size;have Z0:U0.heap.size<U1.heap.size:=(Array.getElem?_eq_some_iff.1 KC.out).1;have HD1:=hid (HD.out.trans (hb.mono HD.out.size));refine⟨rfl,hK _ _ (by rw[hV];exact HD1.out) ?_⟩;rw[hV];replace HD:=HD1;clear hK K hb hV HD1;refine anyL_pick (f:=1) [7] (by kernel_rfl) (by decide) ?_;intro i hi;simp only[List.mem_cons,List.not_mem_nil,or_false]at hi;subst hi;refine⟨_,rfl,?_⟩;intro K hK
  go_wp2_with(at_make;refine wpList_make_full _ rfl (.tmp 12) (.tmp 12) 39 rfl _ 83 ik (.agg #[.int .i64 0,.int .i64 0,.slice none 0 0]) 3 Tryz.underlying39 hik hkz0 hkz1 _ _ _ _ m rfl rfl rfl rfl (by rw[hkz2];omega) (by unfold maxLen;omega) (Nat.le_refl _) ?_;intro U2 ho1 hg1;have hb:=below_of_grown hg1;have RK:=hid (CRow.made ho1 (fun _=>undef));have HB1:=hid hb;clear ho1 hg1 hb)
  have hb:=HB1.out;have LK:W.heap.size≤U1.heap.size:=HD.out.size;have Z1:U1.heap.size<U2.heap.size:=RK.out.lt;replace KC:=hid (stayB KC.out hb);replace HD:=hid (HD.out.trans (hb.mono HD.out.size));clear hb HB1;refine⟨rfl,hK _ _ HD.out ?_⟩;clear hK K;refine anyL_readsO (f:=0) (c:=10) (q:=[8]) HD.out ?_;repeat(go_big_quiet_step (fail))
  refine wpQuiet_nil ?_;refine anyL_end (by kernel_rfl) ?_;exact⟨U1.heap.size,U0.heap.size,⟨_,_,_,_,_,_,_,_,rfl⟩,⟨HD.out,RK.out,KC.out,⟨LK,LC,by omega⟩⟩⟩
 ·rintro a' w1 ⟨gk,gc,⟨j6,j7,j8,j9,j10,j11,j12,j13,rfl⟩,hM⟩
  obtain⟨q0,q1,q2⟩:=three_at hM.cc;have f0:=frozen_at (i:=0) hM.cc;have f1:=frozen_at (i:=1) hM.cc;have f2:=frozen_at (i:=2) hM.cc;have J1:=hid (hM.start (t:=t) B0.out K1.out K2.out);unfold put3 at J1;obtain⟨b0,b1,b2⟩:=three_at J1.out.box;clear hM m0 m1 m2;go_wp2;clear b0 b1 b2 q0 q1 q2 f0 f1 f2;obtain⟨Y0,hY0⟩:∃y,((w1.setCell ⟨gc,0,none⟩ (.bool th)).setCell ⟨gc,1,none⟩ (.int .i64 room)).setCell ⟨gc,2,none⟩ (.slice (some ⟨gk,0,none⟩) m m)=y:=⟨_,rfl⟩;rw[hY0]at J1;rw[hY0];clear hY0;go_loopw [18] (fun iv wr=>∃(k:Nat) (f:Nat→Nat),k≤m∧iv=.int .i64 k∧Hid (FpInv w wr th room ak m ck gk gc t k f)) (fun iv _=>m-(intOf iv).toNat)
  case atStart=>exact⟨0,_,Nat.zero_le _,rfl,J1⟩
  case round =>
   obtain⟨k,f,hk,rfl,J⟩:=hrel;by_cases hlt:k<m
   ·have hki:(k:Int)<(m:Int):=by omega
    rcases HX.out with h0|⟨bl,off,rfl,hbl,hx⟩;·omega
    obtain⟨x0,x1,x2,x3⟩:=hx k hlt;have HI:Hid (∀w',Below w.heap.size w w'→IntSl w' w'.heap.size (UV k) (t.L k) (t.X k)):=fun w' hb=>x3.up hb;obtain⟨au,cu,hpe,_,_⟩:=x3;rw[hpe]at x2 HI;have g0:wr.cell? ⟨bl,off+k*3,none⟩=some (.int .i64 (t.V k)):=by rw[J.out.below.cell hbl];exact x0
    have g1:wr.cell? ⟨bl,off+k*3+1,none⟩=some (.int .i64 (t.N k)):=by rw[J.out.below.cell hbl];exact x1
    have g2:wr.cell? ⟨bl,off+k*3+2,none⟩=some (.slice au (t.L k) cu):=by rw[J.out.below.cell hbl];exact x2
    obtain⟨U,hU⟩:∃U,wr.alloc (.cells #[.int .i64 (t.V k),.int .i64 (t.N k),.slice au (t.L k) cu] 83)=U:=⟨_,rfl⟩;have hbU:Below wr.heap.size wr U:=by rw[←hU];exact below_alloc _ _
    have hUh:U.heap[wr.heap.size]?=some (.cells #[.int .i64 (t.V k),.int .i64 (t.N k),.slice au (t.L k) cu] 83 (0,0)):=by rw[←hU];exact heap_alloc_new _ _
    have JU:=hid (J.out.up hbU);obtain⟨y0,y1,y2⟩:=three_at hUh;obtain⟨_,_,yc⟩:=three_at JU.out.cc;have hne:Nonempty (Of (Below U.heap.size U)):=⟨⟨U,Below.refl _ _⟩⟩;have F0:∀u:Of (Below U.heap.size U),u.val.cell? ⟨wr.heap.size,0,none⟩=some (.int .i64 (t.V k)):=fun u=>by rw[u.is.cell (cell_lt y0)];exact y0
    have F1:∀u:Of (Below U.heap.size U),u.val.cell? ⟨wr.heap.size,1,none⟩=some (.int .i64 (t.N k)):=fun u=>by rw[u.is.cell (cell_lt y1)];exact y1
    have F2:∀u:Of (Below U.heap.size U),u.val.cell? ⟨wr.heap.size,2,none⟩=some (.slice au (t.L k) cu):=fun u=>by rw[u.is.cell (cell_lt y2)];exact y2
    have F3:∀u:Of (Below U.heap.size U),u.val.cell? ⟨gc,2,none⟩=some (.slice (some ⟨gk,0,none⟩) m m):=fun u=>by rw[u.is.cell (cell_lt yc)];exact yc
    have HD0:Hid (Below U.heap.size U U.drew):=drew_below U;have HwU:Hid (w.heap.size≤U.heap.size):=JU.out.below.size;have HGU:Hid (gk<U.heap.size∧gc<U.heap.size):=⟨JU.out.row.lt,JU.out.top⟩;have HFU:Hid (∀i,i<k→f i<U.heap.size):=fun i hi=>(JU.out.lists i hi).2.2.1;clear x0 x1 x2 hx hpe hbU hUh y0 y1 y2 yc;go_wp2_with fail
    refine region_mixed_last (Below U.heap.size U) [([0,1,2,3],4)] [5] 6 (by kernel_rfl) (by kernel_rfl) HD0.out ?_;refine mixO_cons ?_;repeat(go_big_quiet_step (fail))
    refine wpQuiet_nil ?_;intro K hK;go_wp2_with fail
    refine Calls.mono (peOwnX _ _ _ (t.V k) (t.N k) _ (HI.out _ (JU.out.below.trans (HD0.out.mono JU.out.below.size)))) ?_;rintro e w2 ⟨hb2,pq,hp1,hp2,rfl,hl2,ha2⟩;have hbb:Below U.heap.size U w2:=HD0.out.trans (hb2.mono HD0.out.size);have HBb:=hid hbb;have J2:=hid (JU.out.up hbb);have HL2:=hid hl2;have HP:Hid (U.heap.size≤pq∧pq<w2.heap.size):=⟨Nat.le_trans HD0.out.size hp1,hp2⟩;have HA2:Hid (NewV w.heap.size w2 (.slice (some ⟨pq,0,none⟩) (t.L k) (t.L k))):=ha2.mono (Nat.le_trans HwU.out HD0.out.size);clear hb2 hl2 ha2 hbb hp1 hp2;unfold keptV;go_wp2;refine⟨rfl,hK _ _ HBb.out ?_⟩;clear hK K;refine mixO_last ?_;repeat(go_big_quiet_step (fail))
    refine wpQuiet_nil ?_;obtain⟨⟨u0,c0⟩,f0⟩:=J2.out.row.room (i:=k*3) (by omega);obtain⟨⟨u1,c1⟩,f1⟩:=J2.out.row.room (i:=k*3+1) (by omega);obtain⟨⟨u2,c2⟩,f2⟩:=J2.out.row.room (i:=k*3+2) (by omega);clear F0 F1 F2 F3 hne;go_wp2;go_roundw
    case rel=>exact⟨k+1,_,by omega,by go_num,J2.out.push hlt ⟨Nat.lt_of_lt_of_le HGU.out.1 HP.out.1,Nat.lt_of_lt_of_le HGU.out.2 HP.out.1,HP.out.2⟩ (fun i hi=>Nat.lt_of_lt_of_le (HFU.out i hi) HP.out.1) HL2.out HA2.out⟩
    case measure=>simp only[intOf];omega
   have hke:m=k:=by omega
   subst hke;obtain⟨m0,m1,m2⟩:=three_at J.out.cc;obtain⟨r0,r1,r2⟩:=three_at J.out.out;have f0:=frozen_at (i:=0) J.out.out;have f1:=frozen_at (i:=1) J.out.out;have f2:=frozen_at (i:=2) J.out.out;go_wp2;refine bodyPost_ret (results_cell_row rfl _ _ (w.heap.size+1) 41 #[.bool th,.int .i64 room,.slice (some ⟨gk,0,none⟩) m m] (0,0) _ rfl (put3_whole J.out.out _ _ _) Tryz.underlying41 rfl (by kernel_rfl)) rfl ?_;exact J.out.fin hbk
def WmPost(w:World)(n:Nat)(b:Bk)(np:Nat)(P:Ps)(e:Ending)(w':World):Prop :=
 Below w.heap.size w w'∧∃(gv gp:Nat) (QV LV:Nat→Value) (VV:Nat→Nat→Value),e=.returned (meshV (.slice (some ⟨gv,0,none⟩) n n) (.slice (some ⟨gp,0,none⟩) np np))∧w.heap.size≤gv∧w.heap.size≤gp∧gv≠gp ∧
  VeSl w' w'.heap.size (.slice (some ⟨gv,0,none⟩) n n) n QV b∧RowP w' gp np LV P∧NewV w.heap.size w' (.slice (some ⟨gp,0,none⟩) np np) ∧
  (∀k,k<np→KeSl w' w'.heap.size (LV k) (P.m k) (VV k) (P.t k)∧NewV w.heap.size w' (LV k)∧∀i,i<P.m k→NewV w.heap.size w' (VV k i))∧(∀j,j<n→Above w.heap.size (QV j)) ∧
  ∃(T0:Nat) (gk:Nat→Nat) (f:Nat→Nat→Nat),FmSep T0 n QV b np LV VV P gk f∧gv<T0∧gp<T0
structure FmMade(W w':World)(n np gv gp gc:Nat)(QV:Nat→Value)(b:Bk):Prop where
 below:Below W.heap.size W w'
 ver:VeSl w' w'.heap.size (.slice (some ⟨gv,0,none⟩) n n) n QV b
 verA:∀j,j<n→Above W.heap.size (QV j)
 verO:∀j,j<n→OfB gp (b.PL j) (QV j)
 prow:CRow w' gp 41 (np*3) 0 (fun _=>undef)
 cc:w'.heap[gc]?=some (.cells #[.slice none 0 0,.slice none 0 0] 27 (0,0))
 ge:W.heap.size≤gv∧W.heap.size≤gp∧W.heap.size≤gc
 ne:gv≠gp∧gp≠gc
 lt:gv<w'.heap.size
structure FmInv(w wr:World)(ab:Option Addr)(n cb:Nat)(al:Option Addr)(np cl gv gp gc T0:Nat)(b:Bk)(P:Ps)(QV:Nat→Value)(k:Nat)(LV:Nat→Value)(VV:Nat→Nat→Value)(gk:Nat→Nat)(f:Nat→Nat→Nat):Prop where
 below:Below w.heap.size w wr
 box:wr.heap[w.heap.size]?=some (.cells #[.slice ab n cb,.slice al np cl] 27 (0,0))
 out:wr.heap[w.heap.size+1]?=some (.cells #[.slice none 0 0,.slice none 0 0] 27 (0,0))
 cc:wr.heap[gc]?=some (.cells #[.slice (some ⟨gv,0,none⟩) n n,.slice (some ⟨gp,0,none⟩) np np] 27 (0,0))
 ge:w.heap.size+1<gv∧w.heap.size+1<gp∧w.heap.size+1<gc
 ne:gv≠gp∧gp≠gc
 top:gv<T0∧gp<T0∧T0≤wr.heap.size
 ver:VeSl wr wr.heap.size (.slice (some ⟨gv,0,none⟩) n n) n QV b
 verA:∀j,j<n→Above (w.heap.size+2) (QV j)
 verO:∀j,j<n→OfB gp (b.PL j) (QV j)
 row:CRow wr gp 41 (np*3) (k*3) (cellP LV P)
 kept:∀j,j<k→KeSl wr wr.heap.size (LV j) (P.m j) (VV j) (P.t j)∧NewV w.heap.size wr (LV j)∧∀i,i<P.m j→NewV w.heap.size wr (VV j i)
 sep:FmSep T0 n QV b k LV VV P gk f
 ends:∀j,j<k→gk j<wr.heap.size∧∀i,i<P.m j→f j i<wr.heap.size
section
variable {w wr w' W : World} {ab : Option Addr} {n cb : Nat} {al : Option Addr} {np cl gv gp gc T0 : Nat} {b : Bk} {P : Ps} {QV : Nat → Value} {k : Nat} {LV : Nat → Value} {VV : Nat → Nat → Value} {gk : Nat → Nat} {f : Nat → Nat → Nat}
theorem FmMade.start(h:FmMade W w' n np gv gp gc QV b)(hb:Below w.heap.size w W)
 (k1:W.heap[w.heap.size]?=some (.cells #[.slice ab n cb,.slice al np cl] 27 (0,0))) (k2:W.heap[w.heap.size+1]?=some (.cells #[.slice none 0 0,.slice none 0 0] 27 (0,0))) :
 FmInv w (put2 w' gc (.slice (some ⟨gv,0,none⟩) n n) (.slice (some ⟨gp,0,none⟩) np np)) ab n cb al np cl gv gp gc w'.heap.size b P QV 0 (fun _=>undef) (fun _ _=>undef) (fun _=>0) (fun _ _=>0):=by
 obtain⟨g1,g2,g3⟩:=h.ge
 obtain⟨n1,n2⟩:=h.ne
 have l2:w.heap.size+1<W.heap.size:=(Array.getElem?_eq_some_iff.1 k2).1
 have hB:Below W.heap.size W (put2 w' gc (.slice (some ⟨gv,0,none⟩) n n) (.slice (some ⟨gp,0,none⟩) np np)):=put2_below h.below g3
 have hT:OffT w'.heap.size n QV b:=fun j hj=>by
  obtain⟨ad,cap,e,_,h2⟩:=h.ver;rcases h2 with h2|⟨bl,off,_,_,h5⟩;·omega
  exact ltV_off (h5 j hj).2.2.2.2
 refine⟨hb.trans (hB.mono hb.size),stayB k1 hB,stayB k2 hB,put2_whole h.cc _ _,by omega,⟨n1,n2⟩,⟨h.lt,h.prow.lt,by rw[put2_size];exact Nat.le_refl _⟩,ve_put2 h.cc h.ver _,fun j hj=>(h.verA j hj).mono' (by omega),h.verO,((h.prow.other n2 _).other n2 _).congr fun i hi=>by omega,fun j hj=>by omega,⟨hT,fun j hj=>by omega,fun j hj=>by omega,fun j hj=>by omega⟩,fun j hj=>by omega⟩
theorem FmInv.up(h:FmInv w wr ab n cb al np cl gv gp gc T0 b P QV k LV VV gk f)(hb:Below wr.heap.size wr w'):FmInv w w' ab n cb al np cl gv gp gc T0 b P QV k LV VV gk f :=
 ⟨h.below.trans (hb.mono h.below.size),stayB h.box hb,stayB h.out hb,stayB h.cc hb,h.ge,h.ne,⟨h.top.1,h.top.2.1,Nat.le_trans h.top.2.2 hb.size⟩,h.ver.up hb,h.verA,h.verO,h.row.up hb,fun j hj=>⟨(h.kept j hj).1.up hb,(h.kept j hj).2.1.up hb,fun i hi=>((h.kept j hj).2.2 i hi).up hb⟩,h.sep,fun j hj=>⟨Nat.lt_of_lt_of_le (h.ends j hj).1 hb.size,fun i hi=>Nat.lt_of_lt_of_le ((h.ends j hj).2 i hi) hb.size⟩⟩
theorem FmInv.push{B:Nat}{g:Nat}{fk:Nat→Nat}(h:FmInv w wr ab n cb al np cl gv gp gc T0 b P QV k LV VV gk f)(hk:k<np)(hB:T0≤B)(hg:B≤g)(hgl:g<wr.heap.size)(hlow:∀j,j<k→gk j<B∧∀i,i<P.m j→f j i<B)
 (hke:KeSl wr wr.heap.size (.slice (some ⟨g,0,none⟩) (P.m k) (P.m k)) (P.m k) (fun i=>.slice (some ⟨fk i,0,none⟩) ((P.t k).L i) ((P.t k).L i)) (P.t k)) (hn:NewV w.heap.size wr (.slice (some ⟨g,0,none⟩) (P.m k) (P.m k)))
 (hf:∀i,i<P.m k→g<fk i∧NewV w.heap.size wr (.slice (some ⟨fk i,0,none⟩) ((P.t k).L i) ((P.t k).L i))) (ho:∀i j,i<j→j<P.m k→fk i<fk j) :
 FmInv w (((wr.setCell ⟨gp,k*3,none⟩ (.bool (P.th k))).setCell ⟨gp,k*3+1,none⟩ (.int .i64 (P.rm k))).setCell ⟨gp,k*3+2,none⟩ (.slice (some ⟨g,0,none⟩) (P.m k) (P.m k))) ab n cb al np cl gv gp gc T0 b P QV (k+1)
  (fun j=>if j=k then .slice (some ⟨g,0,none⟩) (P.m k) (P.m k)else LV j) (fun j=>if j=k then fun i=>.slice (some ⟨fk i,0,none⟩) ((P.t k).L i) ((P.t k).L i)else VV j) (fun j=>if j=k then g else gk j) (fun j=>if j=k then fk else f j):=by
 obtain⟨g1,g2,g3⟩:=h.ge
 obtain⟨n1,n2⟩:=h.ne
 obtain⟨t1,t2,t3⟩:=h.top
 obtain⟨s1,s2,s3,s4⟩:=h.sep
 have hr:CRow wr gp 41 (np*3) (k*3) (cellP (fun j=>if j=k then .slice (some ⟨g,0,none⟩) (P.m k) (P.m k)else LV j) P):=h.row.congr (cellP_cong fun j hj=>by rw[if_neg (by omega)])
 obtain⟨e0,e1,e2⟩:=cellP_at (KV:=fun j=>if j=k then Value.slice (some ⟨g,0,none⟩) (P.m k) (P.m k)else LV j) (P:=P) (k:=k)
 have hz:(((wr.setCell ⟨gp,k*3,none⟩ (.bool (P.th k))).setCell ⟨gp,k*3+1,none⟩ (.int .i64 (P.rm k))).setCell ⟨gp,k*3+2,none⟩ (.slice (some ⟨g,0,none⟩) (P.m k) (P.m k))).heap.size=wr.heap.size:=by rw[set_size,set_size,set_size]
 have hb:∀q,q≠gp→(((wr.setCell ⟨gp,k*3,none⟩ (.bool (P.th k))).setCell ⟨gp,k*3+1,none⟩ (.int .i64 (P.rm k))).setCell ⟨gp,k*3+2,none⟩ (.slice (some ⟨g,0,none⟩) (P.m k) (P.m k))).heap[q]?=wr.heap[q]?:=fun q hq=>by
  rw[Below.heap_setCell _ _ _ _ hq,Below.heap_setCell _ _ _ _ hq,Below.heap_setCell _ _ _ _ hq]
 have hvo:VeOff gp (.slice (some ⟨gv,0,none⟩) n n) n QV b:=⟨Or.inr fun ad n' c' e=>by injection e with e;injection e with e;subst e;exact n1,h.verO⟩
 have hko:∀ {v:Value} {m:Nat} {UV:Nat→Value} {t:Kt} {q:Nat} {l c:Nat},v=.slice (some ⟨q,0,none⟩) l c→gp<q→(∀i,i<m→∃p l c,UV i=.slice (some ⟨p,0,none⟩) l c∧gp<p)→KeOff gp v m UV t:=fun e hq hu=>⟨Or.inr fun ad n' c' e'=>by
  rw[e]at e';injection e' with e';injection e' with e';subst e';show _≠gp;exact Nat.ne_of_gt hq,fun i hi=>by
  obtain⟨p,l,c,e9,hp⟩:=hu i hi;rw[e9];exact Or.inr fun ad n' c' e'=>by injection e' with e';injection e' with e';subst e';exact Nat.ne_of_gt hp⟩
 refine⟨((h.below.setCell (p:=⟨gp,k*3,none⟩) (by show w.heap.size≤gp;omega) _).setCell (p:=⟨gp,k*3+1,none⟩) (by show w.heap.size≤gp;omega) _).setCell (p:=⟨gp,k*3+2,none⟩) (by show w.heap.size≤gp;omega) _,by rw[hb _ (by omega)];exact h.box,by rw[hb _ (by omega)];exact h.out,by rw[hb _ (by omega)];exact h.cc,h.ge,h.ne,⟨t1,t2,by rw[hz];exact t3⟩,?_,h.verA,h.verO,hr.three (by omega) e0.symm e1.symm (by rw[e2];simp),fun j hj=>?_,⟨s1,fun j hj=>?_,fun j hj=>?_,fun j j' hjj hj=>?_⟩,fun j hj=>?_⟩
 ·rw[hz]
  exact((h.ver.off hvo _).off hvo _).off hvo _
 ·rw[hz]
  by_cases e:j=k
  ·subst e
   simp only[if_true];have hk9:KeOff gp (.slice (some ⟨g,0,none⟩) (P.m j) (P.m j)) (P.m j) (fun i=>.slice (some ⟨fk i,0,none⟩) ((P.t j).L i) ((P.t j).L i)) (P.t j):=hko rfl (by omega) fun i hi=>⟨_,_,_,rfl,by have:=(hf i hi).1;omega⟩;exact⟨((hke.off hk9 _).off hk9 _).off hk9 _,((hn.set _ _).set _ _).set _ _,fun i hi=>(((hf i hi).2.set _ _).set _ _).set _ _⟩
  simp only[if_neg e];obtain⟨x1,x2,x3⟩:=h.kept j (by omega);obtain⟨y1,y2,y3⟩:=s2 j (by omega);have hk9:KeOff gp (LV j) (P.m j) (VV j) (P.t j):=hko y1 (by omega) fun i hi=>⟨_,_,_,(s3 j (by omega)).1 i hi,by have:=(y3 i hi);omega⟩;exact⟨((x1.off hk9 _).off hk9 _).off hk9 _,((x2.set _ _).set _ _).set _ _,fun i hi=>(((x3 i hi).set _ _).set _ _).set _ _⟩
 ·by_cases e:j=k
  ·subst e
   simp only[if_true];exact⟨trivial,by omega,fun i hi=>(hf i hi).1⟩
  simp only[if_neg e];exact s2 j (by omega)
 ·by_cases e:j=k
  ·subst e
   simp only[if_true];exact⟨fun i hi=>trivial,ho⟩
  simp only[if_neg e];exact s3 j (by omega)
 ·by_cases e:j'=k
  ·subst e
   simp only[if_true,if_neg (show ¬j=j' by omega)];obtain⟨l1,l2⟩:=hlow j hjj;exact⟨by omega,fun i hi=>by have:=l2 i hi;omega⟩
  simp only[if_neg e,if_neg (show ¬j=k by omega)];exact s4 j j' hjj (by omega)
 ·rw[hz]
  by_cases e:j=k
  ·subst e
   simp only[if_true];exact⟨hgl,fun i hi=>((hf i hi).2 _ _ _ rfl).2.1⟩
  simp only[if_neg e];exact h.ends j (by omega)
theorem FmInv.fin(h:FmInv w wr ab n cb al np cl gv gp gc T0 b P QV np LV VV gk f):
 WmPost w n b np P (.returned (.agg #[.slice (some ⟨gv,0,none⟩) n n,.slice (some ⟨gp,0,none⟩) np np])) (put2 wr (w.heap.size+1) (.slice (some ⟨gv,0,none⟩) n n) (.slice (some ⟨gp,0,none⟩) np np)):=by
 obtain⟨g1,g2,g3⟩:=h.ge
 obtain⟨n1,n2⟩:=h.ne
 obtain⟨t1,t2,t3⟩:=h.top
 obtain⟨s1,s2,s3,s4⟩:=h.sep
 have hr:CRow (put2 wr (w.heap.size+1) (.slice (some ⟨gv,0,none⟩) n n) (.slice (some ⟨gp,0,none⟩) np np)) gp 41 (np*3) (np*3) (cellP LV P):=(h.row.other (by omega) _).other (by omega) _
 refine⟨put2_below h.below (by omega),gv,gp,QV,LV,VV,rfl,by omega,by omega,n1,ve_put2 h.out h.ver _,hr.rowP,hr.newV (by omega),fun k hk=>?_,fun j hj=>(h.verA j hj).mono' (by omega),T0,gk,f,h.sep,t1,t2⟩
 obtain⟨x1,x2,x3⟩:=h.kept k hk
 exact⟨kel_put2 h.out x1 _ _,(x2.set _ _).set _ _,fun i hi=>((x3 i hi).set _ _).set _ _⟩
end
theorem frMesh(vb:Value)(n:Nat)(PV:Nat→Value)(b:Bk)(vl:Value)(np:Nat)(KV:Nat→Value)(UV:Nat→Nat→Value)(P:Ps)(w:World)(hv:VeSl w w.heap.size vb n PV b)(hl:PsSl w w.heap.size vl np KV UV P)(hn:n≤1000)(hnp:np≤1000):
 Calls Tryz.prog 68 #[meshV vb vl] w (WmPost w n b np P):=by
 have hb0:=((Below.refl w.heap.size w).alloc (Nat.le_refl _) (.cells #[vb,vl] 27)).alloc (by simp) (.cells #[.slice none 0 0,.slice none 0 0] 27)
 have k1:=heap_two_old w (.cells #[vb,vl] 27) (.cells #[.slice none 0 0,.slice none 0 0] 27)
 have k2:=heap_two_new w (.cells #[vb,vl] 27) (.cells #[.slice none 0 0,.slice none 0 0] 27)
 obtain⟨W,hW⟩:∃W,(w.alloc (.cells #[vb,vl] 27)).alloc (.cells #[.slice none 0 0,.slice none 0 0] 27)=W:=⟨_,rfl⟩
 rw[hW]at hb0 k1 k2
 have HV:=hid hv
 have HL:=hid hl
 obtain⟨ad,cap0,rfl,_,_⟩:=hv
 obtain⟨al,cl,rfl,_,_⟩:=hl
 obtain⟨ip,hip,hpz0,hpz1,hpz2⟩:=info_parts Tryz.infoPeer
 obtain⟨m0,m1⟩:=two_at k1
 have B0:=hid hb0
 have K1:=hid k1
 have K2:=hid k2
 have HW:=hid hW
 clear hb0 k1 k2 hW
 unfold meshV
 go_enter Tryz.func68,Tryz.ntmps68
 go_wp2_with fail
 rw[HW.out]
 refine region_tree_to (Below W.heap.size W) 9 #[true,true,true,true,true,true,true,true,true,false] 9 (fun a' w'=>∃(gv gp gc:Nat) (QV:Nat→Value),(∃j6 j7 j8 j9 j10 j11 j12:Value,a'=⟨#[.agg #[.slice ad n cap0,.slice al np cl],.pointer (some ⟨w.heap.size,0,none⟩),.pointer (some ⟨w.heap.size+1,0,none⟩),.pointer (some ⟨gc,0,none⟩),undef,undef,j6,j7,j8,j9,j10,j11,j12,.agg #[.slice (some ⟨gv,0,none⟩) n n,.slice (some ⟨gp,0,none⟩) np np],undef,undef,undef,undef,undef,undef,undef,undef,undef,undef,undef,undef,undef,undef,undef,undef],[]⟩)∧FmMade W w' n np gv gp gc QV b) (by kernel_rfl) (by kernel_rfl) (by kernel_rfl) rfl (by simp only[pickO,List.getElem?_cons_zero,List.getElem?_cons_succ];exact rfl) rfl ?_ ?_
 ·obtain⟨U0,hU0⟩:∃u,W.drew=u:=⟨_,rfl⟩
  have HD:Hid (Below W.heap.size W U0):=by rw[←hU0];exact drew_below W
  rw[hU0];clear hU0;have hne:Nonempty (Of (Below W.heap.size W)):=⟨⟨W,Below.refl _ _⟩⟩;have F0:∀u:Of (Below W.heap.size W),u.val.cell? ⟨w.heap.size,0,none⟩=some (.slice ad n cap0):=fun u=>by rw[u.is.cell (cell_lt m0)];exact m0
  have F1:∀u:Of (Below W.heap.size W),u.val.cell? ⟨w.heap.size,1,none⟩=some (.slice al np cl):=fun u=>by rw[u.is.cell (cell_lt m1)];exact m1
  refine anyL_readsO (f:=4) (c:=9) (q:=[0,1,3,4,5]) HD.out ?_;repeat(go_big_quiet_step (fail))
  refine wpQuiet_nil ?_;clear m0 m1;refine anyL_pick (f:=3) [2,6,8] (by kernel_rfl) (by decide) ?_;intro i hi;simp only[List.mem_cons,List.not_mem_nil,or_false]at hi;rcases hi with rfl|rfl|rfl
  ·refine⟨_,rfl,?_⟩
   intro K hK;have CB:=hid (bkWhole _ n PV b hn U0 (HV.out.up (B0.out.trans (HD.out.mono B0.out.size))));unfold bookV at CB;go_wp2_with fail
   refine Calls.mono CB.out ?_;rintro e U1 ⟨gv,QV,rfl,ho,hq⟩;have hb:=ho.2;have BV:=hid (rowV_shl ho.1 (by omega) fun j hj=>(hq j hj).1);have HG:U0.heap.size≤gv∧gv<U1.heap.size:=own_at ho.1;have BA:Hid (∀j,j<n→Above U0.heap.size (QV j)):=fun j hj=>(hq j hj).2.mono' (by omega);have LV:W.heap.size≤U0.heap.size:=HD.out.size;replace HD:=hid (HD.out.trans (hb.mono HD.out.size));have BL:Hid (∀s,U1.heap.size≤s→∀j,j<n→OfB s (b.PL j) (QV j)):=fun s hs j hj=>offB_isl (hq j hj).1 hs;clear ho hq hb CB;unfold bookV;go_wp2;refine⟨rfl,hK _ _ HD.out ?_⟩;clear hK K;refine anyL_pick (f:=2) [6,8] (by kernel_rfl) (by decide) ?_;intro i hi;simp only[List.mem_cons,List.not_mem_nil,or_false]at hi;rcases hi with rfl|rfl
   ·refine⟨_,rfl,?_⟩
    intro K hK;go_wp2_with(at_make;refine wpList_make_full _ rfl (.tmp 11) (.tmp 11) 25 rfl _ 41 ip (.agg #[.bool false,.int .i64 0,.slice none 0 0]) 3 Tryz.underlying25 hip hpz0 hpz1 _ _ _ _ np rfl rfl rfl rfl (by rw[hpz2];omega) (by unfold maxLen;omega) (Nat.le_refl _) ?_;intro U2 ho1 hg1;have hb:=below_of_grown hg1;have RP:=hid (CRow.made ho1 (fun _=>undef));have HB1:=hid hb;clear ho1 hg1 hb)
    have hb:=HB1.out;have LP:W.heap.size≤U1.heap.size:=HD.out.size;have Z1:U1.heap.size<U2.heap.size:=RP.out.lt;replace BV:=hid (BV.out.up hb);replace HD:=hid (HD.out.trans (hb.mono HD.out.size));clear hb HB1;refine⟨rfl,hK _ _ HD.out ?_⟩;clear hK K;refine anyL_readsO (f:=1) (c:=9) (q:=[7]) HD.out ?_;repeat(go_big_quiet_step (fail))
    refine wpQuiet_nil ?_;refine anyL_pick (f:=0) [8] (by kernel_rfl) (by decide) ?_;intro i hi;simp only[List.mem_cons,List.not_mem_nil,or_false]at hi;subst hi;refine⟨_,rfl,?_⟩;intro K hK;go_wp2;have hb:=below_alloc U2 (.cells #[.slice none 0 0,.slice none 0 0] 27);have KC:=hid (heap_alloc_new U2 (.cells #[.slice none 0 0,.slice none 0 0] 27));obtain⟨U3,hV⟩:∃v,World.alloc U2 (.cells #[.slice none 0 0,.slice none 0 0] 27)=v:=⟨_,rfl⟩;rw[hV]at hb KC;have LC:W.heap.size≤U2.heap.size:=HD.out.size;have Z2:U2.heap.size<U3.heap.size:=(Array.getElem?_eq_some_iff.1 KC.out).1;replace BV:=hid (BV.out.up hb);replace RP:=hid (RP.out.up hb);have HD1:=hid (HD.out.trans (hb.mono HD.out.size));refine⟨rfl,hK _ _ (by rw[hV];exact HD1.out) ?_⟩;rw[hV];replace HD:=HD1;clear hK K hb hV HD1;refine anyL_end (by kernel_rfl) ?_
    have Z0:U0.heap.size<U1.heap.size:=by omega
    exact⟨gv,U1.heap.size,U2.heap.size,QV,⟨_,_,_,_,_,_,_,rfl⟩,⟨HD.out,BV.out,fun j hj=>(BA.out j hj).mono' LV,fun j hj=>BL.out _ (by omega) j hj,RP.out,KC.out,⟨by omega,LP,LC⟩,⟨by omega,by omega⟩,by omega⟩⟩
   refine⟨_,rfl,?_⟩;intro K hK;go_wp2;have hb:=below_alloc U1 (.cells #[.slice none 0 0,.slice none 0 0] 27);have KC:=hid (heap_alloc_new U1 (.cells #[.slice none 0 0,.slice none 0 0] 27));obtain⟨U2,hV⟩:∃v,World.alloc U1 (.cells #[.slice none 0 0,.slice none 0 0] 27)=v:=⟨_,rfl⟩;rw[hV]at hb KC;have LC:W.heap.size≤U1.heap.size:=HD.out.size;have Z1:U1.heap.size<U2.heap.size:=(Array.getElem?_eq_some_iff.1 KC.out).1;replace BV:=hid (BV.out.up hb);have HD1:=hid (HD.out.trans (hb.mono HD.out.size));refine⟨rfl,hK _ _ (by rw[hV];exact HD1.out) ?_⟩;rw[hV];replace HD:=HD1;clear hK K hb hV HD1;refine anyL_pick (f:=1) [6] (by kernel_rfl) (by decide) ?_;intro i hi;simp only[List.mem_cons,List.not_mem_nil,or_false]at hi;subst hi;refine⟨_,rfl,?_⟩;intro K hK
   go_wp2_with(at_make;refine wpList_make_full _ rfl (.tmp 11) (.tmp 11) 25 rfl _ 41 ip (.agg #[.bool false,.int .i64 0,.slice none 0 0]) 3 Tryz.underlying25 hip hpz0 hpz1 _ _ _ _ np rfl rfl rfl rfl (by rw[hpz2];omega) (by unfold maxLen;omega) (Nat.le_refl _) ?_;intro U3 ho1 hg1;have hb:=below_of_grown hg1;have RP:=hid (CRow.made ho1 (fun _=>undef));have HB1:=hid hb;clear ho1 hg1 hb)
   have hb:=HB1.out;have LP:W.heap.size≤U2.heap.size:=HD.out.size;have Z2:U2.heap.size<U3.heap.size:=RP.out.lt;replace BV:=hid (BV.out.up hb);replace KC:=hid (stayB KC.out hb);replace HD:=hid (HD.out.trans (hb.mono HD.out.size));clear hb HB1;refine⟨rfl,hK _ _ HD.out ?_⟩;clear hK K;refine anyL_readsO (f:=0) (c:=9) (q:=[7]) HD.out ?_;repeat(go_big_quiet_step (fail))
   refine wpQuiet_nil ?_;refine anyL_end (by kernel_rfl) ?_;have Z0:U0.heap.size<U1.heap.size:=by omega
   exact⟨gv,U2.heap.size,U1.heap.size,QV,⟨_,_,_,_,_,_,_,rfl⟩,⟨HD.out,BV.out,fun j hj=>(BA.out j hj).mono' LV,fun j hj=>BL.out _ (by omega) j hj,RP.out,KC.out,⟨by omega,LP,LC⟩,⟨by omega,by omega⟩,by omega⟩⟩
  ·refine⟨_,rfl,?_⟩
   intro K hK;go_wp2_with(at_make;refine wpList_make_full _ rfl (.tmp 11) (.tmp 11) 25 rfl _ 41 ip (.agg #[.bool false,.int .i64 0,.slice none 0 0]) 3 Tryz.underlying25 hip hpz0 hpz1 _ _ _ _ np rfl rfl rfl rfl (by rw[hpz2];omega) (by unfold maxLen;omega) (Nat.le_refl _) ?_;intro U1 ho1 hg1;have hb:=below_of_grown hg1;have RP:=hid (CRow.made ho1 (fun _=>undef));have HB1:=hid hb;clear ho1 hg1 hb)
   have hb:=HB1.out;have LP:W.heap.size≤U0.heap.size:=HD.out.size;have Z0:U0.heap.size<U1.heap.size:=RP.out.lt;replace HD:=hid (HD.out.trans (hb.mono HD.out.size));clear hb HB1;refine⟨rfl,hK _ _ HD.out ?_⟩;clear hK K;refine anyL_pick (f:=2) [2,8] (by kernel_rfl) (by decide) ?_;intro i hi;simp only[List.mem_cons,List.not_mem_nil,or_false]at hi;rcases hi with rfl|rfl
   ·refine⟨_,rfl,?_⟩
    intro K hK;have CB:=hid (bkWhole _ n PV b hn U1 (HV.out.up (B0.out.trans (HD.out.mono B0.out.size))));unfold bookV at CB;go_wp2_with fail
    refine Calls.mono CB.out ?_;rintro e U2 ⟨gv,QV,rfl,ho,hq⟩;have hb:=ho.2;have BV:=hid (rowV_shl ho.1 (by omega) fun j hj=>(hq j hj).1);have HG:U1.heap.size≤gv∧gv<U2.heap.size:=own_at ho.1;have BA:Hid (∀j,j<n→Above U1.heap.size (QV j)):=fun j hj=>(hq j hj).2.mono' (by omega);have LV:W.heap.size≤U1.heap.size:=HD.out.size;replace RP:=hid (RP.out.up hb);replace HD:=hid (HD.out.trans (hb.mono HD.out.size));have BL:Hid (∀s,U2.heap.size≤s→∀j,j<n→OfB s (b.PL j) (QV j)):=fun s hs j hj=>offB_isl (hq j hj).1 hs;clear ho hq hb CB;unfold bookV;go_wp2;refine⟨rfl,hK _ _ HD.out ?_⟩;clear hK K;refine anyL_readsO (f:=1) (c:=9) (q:=[7]) HD.out ?_;repeat(go_big_quiet_step (fail))
    refine wpQuiet_nil ?_;refine anyL_pick (f:=0) [8] (by kernel_rfl) (by decide) ?_;intro i hi;simp only[List.mem_cons,List.not_mem_nil,or_false]at hi;subst hi;refine⟨_,rfl,?_⟩;intro K hK;go_wp2;have hb:=below_alloc U2 (.cells #[.slice none 0 0,.slice none 0 0] 27);have KC:=hid (heap_alloc_new U2 (.cells #[.slice none 0 0,.slice none 0 0] 27));obtain⟨U3,hV⟩:∃v,World.alloc U2 (.cells #[.slice none 0 0,.slice none 0 0] 27)=v:=⟨_,rfl⟩;rw[hV]at hb KC;have LC:W.heap.size≤U2.heap.size:=HD.out.size;have Z2:U2.heap.size<U3.heap.size:=(Array.getElem?_eq_some_iff.1 KC.out).1;replace RP:=hid (RP.out.up hb);replace BV:=hid (BV.out.up hb);have HD1:=hid (HD.out.trans (hb.mono HD.out.size));refine⟨rfl,hK _ _ (by rw[hV];exact HD1.out) ?_⟩;rw[hV];replace HD:=HD1;clear hK K hb hV HD1;refine anyL_end (by kernel_rfl) ?_
    have Z1:U1.heap.size<U2.heap.size:=by omega
    exact⟨gv,U0.heap.size,U2.heap.size,QV,⟨_,_,_,_,_,_,_,rfl⟩,⟨HD.out,BV.out,fun j hj=>(BA.out j hj).mono' LV,fun j hj=>OfB.above ((BA.out j hj).mono' (by omega)),RP.out,KC.out,⟨by omega,LP,LC⟩,⟨by omega,by omega⟩,by omega⟩⟩
   refine⟨_,rfl,?_⟩;intro K hK;go_wp2;have hb:=below_alloc U1 (.cells #[.slice none 0 0,.slice none 0 0] 27);have KC:=hid (heap_alloc_new U1 (.cells #[.slice none 0 0,.slice none 0 0] 27));obtain⟨U2,hV⟩:∃v,World.alloc U1 (.cells #[.slice none 0 0,.slice none 0 0] 27)=v:=⟨_,rfl⟩;rw[hV]at hb KC;have LC:W.heap.size≤U1.heap.size:=HD.out.size;have Z1:U1.heap.size<U2.heap.size:=(Array.getElem?_eq_some_iff.1 KC.out).1;replace RP:=hid (RP.out.up hb);have HD1:=hid (HD.out.trans (hb.mono HD.out.size));refine⟨rfl,hK _ _ (by rw[hV];exact HD1.out) ?_⟩;rw[hV];replace HD:=HD1;clear hK K hb hV HD1;refine anyL_pick (f:=1) [2] (by kernel_rfl) (by decide) ?_;intro i hi;simp only[List.mem_cons,List.not_mem_nil,or_false]at hi;subst hi;refine⟨_,rfl,?_⟩;intro K hK;have CB:=hid (bkWhole _ n PV b hn U2 (HV.out.up (B0.out.trans (HD.out.mono B0.out.size))))
   unfold bookV at CB;go_wp2_with fail
   refine Calls.mono CB.out ?_;rintro e U3 ⟨gv,QV,rfl,ho,hq⟩;have hb:=ho.2;have BV:=hid (rowV_shl ho.1 (by omega) fun j hj=>(hq j hj).1);have HG:U2.heap.size≤gv∧gv<U3.heap.size:=own_at ho.1;have BA:Hid (∀j,j<n→Above U2.heap.size (QV j)):=fun j hj=>(hq j hj).2.mono' (by omega);have LV:W.heap.size≤U2.heap.size:=HD.out.size;replace RP:=hid (RP.out.up hb);replace KC:=hid (stayB KC.out hb);replace HD:=hid (HD.out.trans (hb.mono HD.out.size));have BL:Hid (∀s,U3.heap.size≤s→∀j,j<n→OfB s (b.PL j) (QV j)):=fun s hs j hj=>offB_isl (hq j hj).1 hs;clear ho hq hb CB;unfold bookV;go_wp2;refine⟨rfl,hK _ _ HD.out ?_⟩;clear hK K;refine anyL_readsO (f:=0) (c:=9) (q:=[7]) HD.out ?_;repeat(go_big_quiet_step (fail))
   refine wpQuiet_nil ?_;refine anyL_end (by kernel_rfl) ?_;have Z2:U2.heap.size<U3.heap.size:=by omega
   exact⟨gv,U0.heap.size,U1.heap.size,QV,⟨_,_,_,_,_,_,_,rfl⟩,⟨HD.out,BV.out,fun j hj=>(BA.out j hj).mono' LV,fun j hj=>OfB.above ((BA.out j hj).mono' (by omega)),RP.out,KC.out,⟨by omega,LP,LC⟩,⟨by omega,by omega⟩,by omega⟩⟩
  refine⟨_,rfl,?_⟩;intro K hK;go_wp2;have hb:=below_alloc U0 (.cells #[.slice none 0 0,.slice none 0 0] 27);have KC:=hid (heap_alloc_new U0 (.cells #[.slice none 0 0,.slice none 0 0] 27));obtain⟨U1,hV⟩:∃v,World.alloc U0 (.cells #[.slice none 0 0,.slice none 0 0] 27)=v:=⟨_,rfl⟩;rw[hV]at hb KC;have LC:W.heap.size≤U0.heap.size:=HD.out.size;have Z0:U0.heap.size<U1.heap.size:=(Array.getElem?_eq_some_iff.1 KC.out).1;have HD1:=hid (HD.out.trans (hb.mono HD.out.size));refine⟨rfl,hK _ _ (by rw[hV];exact HD1.out) ?_⟩;rw[hV];replace HD:=HD1;clear hK K hb hV HD1;refine anyL_pick (f:=2) [2,6] (by kernel_rfl) (by decide) ?_;intro i hi;simp only[List.mem_cons,List.not_mem_nil,or_false]at hi;rcases hi with rfl|rfl
  ·refine⟨_,rfl,?_⟩
   intro K hK;have CB:=hid (bkWhole _ n PV b hn U1 (HV.out.up (B0.out.trans (HD.out.mono B0.out.size))));unfold bookV at CB;go_wp2_with fail
   refine Calls.mono CB.out ?_;rintro e U2 ⟨gv,QV,rfl,ho,hq⟩;have hb:=ho.2;have BV:=hid (rowV_shl ho.1 (by omega) fun j hj=>(hq j hj).1);have HG:U1.heap.size≤gv∧gv<U2.heap.size:=own_at ho.1;have BA:Hid (∀j,j<n→Above U1.heap.size (QV j)):=fun j hj=>(hq j hj).2.mono' (by omega);have LV:W.heap.size≤U1.heap.size:=HD.out.size;replace KC:=hid (stayB KC.out hb);replace HD:=hid (HD.out.trans (hb.mono HD.out.size));have BL:Hid (∀s,U2.heap.size≤s→∀j,j<n→OfB s (b.PL j) (QV j)):=fun s hs j hj=>offB_isl (hq j hj).1 hs;clear ho hq hb CB;unfold bookV;go_wp2;refine⟨rfl,hK _ _ HD.out ?_⟩;clear hK K;refine anyL_pick (f:=1) [6] (by kernel_rfl) (by decide) ?_;intro i hi;simp only[List.mem_cons,List.not_mem_nil,or_false]at hi;subst hi;refine⟨_,rfl,?_⟩;intro K hK
   go_wp2_with(at_make;refine wpList_make_full _ rfl (.tmp 11) (.tmp 11) 25 rfl _ 41 ip (.agg #[.bool false,.int .i64 0,.slice none 0 0]) 3 Tryz.underlying25 hip hpz0 hpz1 _ _ _ _ np rfl rfl rfl rfl (by rw[hpz2];omega) (by unfold maxLen;omega) (Nat.le_refl _) ?_;intro U3 ho1 hg1;have hb:=below_of_grown hg1;have RP:=hid (CRow.made ho1 (fun _=>undef));have HB1:=hid hb;clear ho1 hg1 hb)
   have hb:=HB1.out;have LP:W.heap.size≤U2.heap.size:=HD.out.size;have Z2:U2.heap.size<U3.heap.size:=RP.out.lt;replace KC:=hid (stayB KC.out hb);replace BV:=hid (BV.out.up hb);replace HD:=hid (HD.out.trans (hb.mono HD.out.size));clear hb HB1;refine⟨rfl,hK _ _ HD.out ?_⟩;clear hK K;refine anyL_readsO (f:=0) (c:=9) (q:=[7]) HD.out ?_;repeat(go_big_quiet_step (fail))
   refine wpQuiet_nil ?_;refine anyL_end (by kernel_rfl) ?_;have Z1:U1.heap.size<U2.heap.size:=by omega
   exact⟨gv,U2.heap.size,U0.heap.size,QV,⟨_,_,_,_,_,_,_,rfl⟩,⟨HD.out,BV.out,fun j hj=>(BA.out j hj).mono' LV,fun j hj=>BL.out _ (by omega) j hj,RP.out,KC.out,⟨by omega,LP,LC⟩,⟨by omega,by omega⟩,by omega⟩⟩
  refine⟨_,rfl,?_⟩;intro K hK;go_wp2_with(at_make;refine wpList_make_full _ rfl (.tmp 11) (.tmp 11) 25 rfl _ 41 ip (.agg #[.bool false,.int .i64 0,.slice none 0 0]) 3 Tryz.underlying25 hip hpz0 hpz1 _ _ _ _ np rfl rfl rfl rfl (by rw[hpz2];omega) (by unfold maxLen;omega) (Nat.le_refl _) ?_;intro U2 ho1 hg1;have hb:=below_of_grown hg1;have RP:=hid (CRow.made ho1 (fun _=>undef));have HB1:=hid hb;clear ho1 hg1 hb)
  have hb:=HB1.out;have LP:W.heap.size≤U1.heap.size:=HD.out.size;have Z1:U1.heap.size<U2.heap.size:=RP.out.lt;replace KC:=hid (stayB KC.out hb);replace HD:=hid (HD.out.trans (hb.mono HD.out.size));clear hb HB1;refine⟨rfl,hK _ _ HD.out ?_⟩;clear hK K;refine anyL_pick (f:=1) [2] (by kernel_rfl) (by decide) ?_;intro i hi;simp only[List.mem_cons,List.not_mem_nil,or_false]at hi;subst hi;refine⟨_,rfl,?_⟩;intro K hK;have CB:=hid (bkWhole _ n PV b hn U2 (HV.out.up (B0.out.trans (HD.out.mono B0.out.size))));unfold bookV at CB;go_wp2_with fail
  refine Calls.mono CB.out ?_;rintro e U3 ⟨gv,QV,rfl,ho,hq⟩;have hb:=ho.2;have BV:=hid (rowV_shl ho.1 (by omega) fun j hj=>(hq j hj).1);have HG:U2.heap.size≤gv∧gv<U3.heap.size:=own_at ho.1;have BA:Hid (∀j,j<n→Above U2.heap.size (QV j)):=fun j hj=>(hq j hj).2.mono' (by omega);have LV:W.heap.size≤U2.heap.size:=HD.out.size;replace KC:=hid (stayB KC.out hb);replace RP:=hid (RP.out.up hb);replace HD:=hid (HD.out.trans (hb.mono HD.out.size));have BL:Hid (∀s,U3.heap.size≤s→∀j,j<n→OfB s (b.PL j) (QV j)):=fun s hs j hj=>offB_isl (hq j hj).1 hs;clear ho hq hb CB;unfold bookV;go_wp2;refine⟨rfl,hK _ _ HD.out ?_⟩;clear hK K;refine anyL_readsO (f:=0) (c:=9) (q:=[7]) HD.out ?_;repeat(go_big_quiet_step (fail))
  refine wpQuiet_nil ?_;refine anyL_end (by kernel_rfl) ?_;have Z2:U2.heap.size<U3.heap.size:=by omega
  exact⟨gv,U1.heap.size,U0.heap.size,QV,⟨_,_,_,_,_,_,_,rfl⟩,⟨HD.out,BV.out,fun j hj=>(BA.out j hj).mono' LV,fun j hj=>OfB.above ((BA.out j hj).mono' (by omega)),RP.out,KC.out,⟨by omega,LP,LC⟩,⟨by omega,by omega⟩,by omega⟩⟩
 ·rintro a' w1 ⟨gv,gp,gc,QV,⟨j6,j7,j8,j9,j10,j11,j12,rfl⟩,hM⟩
  obtain⟨q0,q1⟩:=two_at hM.cc;have f0:=frozen_at (i:=0) hM.cc;have f1:=frozen_at (i:=1) hM.cc;have J1:=hid (hM.start (P:=P) B0.out K1.out K2.out);unfold put2 at J1;obtain⟨b0,b1⟩:=two_at J1.out.box;clear hM m0 m1;go_wp2;clear b0 b1 q0 q1 f0 f1;obtain⟨Y0,hY0⟩:∃y,(w1.setCell ⟨gc,0,none⟩ (.slice (some ⟨gv,0,none⟩) n n)).setCell ⟨gc,1,none⟩ (.slice (some ⟨gp,0,none⟩) np np)=y:=⟨_,rfl⟩;rw[hY0]at J1;rw[hY0];obtain⟨T0,hT0⟩:∃t,w1.heap.size=t:=⟨_,rfl⟩;rw[hT0]at J1;clear hY0 hT0;go_loopw [17] (fun iv wr=>∃(k:Nat) (LV:Nat→Value) (VV:Nat→Nat→Value) (gk:Nat→Nat) (f:Nat→Nat→Nat),k≤np∧iv=.int .i64 k∧Hid (FmInv w wr ad n cap0 al np cl gv gp gc T0 b P QV k LV VV gk f)) (fun iv _=>np-(intOf iv).toNat)
  case atStart=>exact⟨0,_,_,_,_,Nat.zero_le _,rfl,J1⟩
  case round =>
   obtain⟨k,LV,VV,gk,f,hk,rfl,J⟩:=hrel;by_cases hlt:k<np
   ·have hki:(k:Int)<(np:Int):=by omega
    obtain⟨bl,off,rfl,hbl,g0,g1,g2,g3⟩:=(HL.out.up J.out.below).at hlt;obtain⟨ak,ck,hke,_,_⟩:=g3;rw[hke]at g2;have HKe:Hid (∀u,Below w.heap.size w u→KeSl u u.heap.size (.slice ak (P.m k) ck) (P.m k) (UV k) (P.t k)):=fun u hbu=>by
     obtain⟨_,_,_,_,_,_,_,h3⟩:=(HL.out.up hbu).at hlt;rw[hke]at h3;exact h3
    obtain⟨U,hU⟩:∃U,wr.alloc (.cells #[.bool (P.th k),.int .i64 (P.rm k),.slice ak (P.m k) ck] 41)=U:=⟨_,rfl⟩;have hbU:Below wr.heap.size wr U:=by rw[←hU];exact below_alloc _ _
    have hUh:U.heap[wr.heap.size]?=some (.cells #[.bool (P.th k),.int .i64 (P.rm k),.slice ak (P.m k) ck] 41 (0,0)):=by rw[←hU];exact heap_alloc_new _ _
    have JU:=hid (J.out.up hbU);obtain⟨y0,y1,y2⟩:=three_at hUh;obtain⟨_,yc⟩:=two_at JU.out.cc;have hne:Nonempty (Of (Below U.heap.size U)):=⟨⟨U,Below.refl _ _⟩⟩;have F0:∀u:Of (Below U.heap.size U),u.val.cell? ⟨wr.heap.size,0,none⟩=some (.bool (P.th k)):=fun u=>by rw[u.is.cell (cell_lt y0)];exact y0
    have F1:∀u:Of (Below U.heap.size U),u.val.cell? ⟨wr.heap.size,1,none⟩=some (.int .i64 (P.rm k)):=fun u=>by rw[u.is.cell (cell_lt y1)];exact y1
    have F2:∀u:Of (Below U.heap.size U),u.val.cell? ⟨wr.heap.size,2,none⟩=some (.slice ak (P.m k) ck):=fun u=>by rw[u.is.cell (cell_lt y2)];exact y2
    have F3:∀u:Of (Below U.heap.size U),u.val.cell? ⟨gc,1,none⟩=some (.slice (some ⟨gp,0,none⟩) np np):=fun u=>by rw[u.is.cell (cell_lt yc)];exact yc
    have HD0:Hid (Below U.heap.size U U.drew):=drew_below U;have CP:=hid (frPeer (P.th k) (P.rm k) _ (P.m k) (UV k) (P.t k) U.drew (HKe.out _ (JU.out.below.trans (HD0.out.mono JU.out.below.size))));unfold peerV at CP;clear hke hbU hUh y0 y1 y2 yc J;go_wp2_with fail
    refine region_mixed_last (Below U.heap.size U) [([0,1,2,3],4)] [5] 6 (by kernel_rfl) (by kernel_rfl) HD0.out ?_;clear hU;refine mixO_cons ?_;repeat(go_big_quiet_step (fail))
    refine wpQuiet_nil ?_;intro K hK;go_wp2_with fail
    refine Calls.mono CP.out ?_;rintro e w2 ⟨hb2,g,fk,rfl,hg1,hg2,hke,hnk,hfk,hok⟩;have hbb:Below U.heap.size U w2:=HD0.out.trans (hb2.mono HD0.out.size);have HBb:=hid hbb;have hwU:w.heap.size≤U.drew.heap.size:=Nat.le_trans JU.out.below.size HD0.out.size;have J2:=hid (JU.out.up hbb);have JX:=hid (J2.out.push (B:=U.drew.heap.size) (fk:=fk) hlt (Nat.le_trans JU.out.top.2.2 HD0.out.size) hg1 hg2 (fun j hj=>⟨Nat.lt_of_lt_of_le (JU.out.ends j hj).1 HD0.out.size,fun i hi=>Nat.lt_of_lt_of_le ((JU.out.ends j hj).2 i hi) HD0.out.size⟩) hke (hnk.mono hwU) (fun i hi=>⟨(hfk i hi).1,(hfk i hi).2.mono hwU⟩) hok);clear hb2 hg1 hg2 hke hnk hfk hok hbb hwU CP;unfold peerV;go_wp2;refine⟨rfl,hK _ _ HBb.out ?_⟩;clear hK K;refine mixO_last ?_;repeat(go_big_quiet_step (fail))
    refine wpQuiet_nil ?_;obtain⟨⟨u0,c0⟩,f0⟩:=J2.out.row.room (i:=k*3) (by omega);obtain⟨⟨u1,c1⟩,f1⟩:=J2.out.row.room (i:=k*3+1) (by omega);obtain⟨⟨u2,c2⟩,f2⟩:=J2.out.row.room (i:=k*3+2) (by omega);clear F0 F1 F2 F3 hne;go_wp2;go_roundw
    case rel=>exact⟨k+1,_,_,_,_,by omega,by go_num,JX⟩
    case measure=>simp only[intOf];omega
   have hke:np=k:=by omega
   subst hke;obtain⟨m0,m1⟩:=two_at J.out.cc;obtain⟨r0,r1⟩:=two_at J.out.out;have f0:=frozen_at (i:=0) J.out.out;have f1:=frozen_at (i:=1) J.out.out;go_wp2;refine bodyPost_ret (results_cell_row rfl _ _ (w.heap.size+1) 27 #[.slice (some ⟨gv,0,none⟩) n n,.slice (some ⟨gp,0,none⟩) np np] (0,0) _ rfl (put2_whole J.out.out _ _) Tryz.underlying27 rfl (by kernel_rfl)) rfl ?_;exact J.out.fin
end
end Go.Proofs.YtajmnlhfnhbleaaGreat
