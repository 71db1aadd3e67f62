/- Several texts of one proof, in their order. -/
import Derived.Test.YtajmnlhfnhbleaaGreatKw16
namespace Go.Proofs.YtajmnlhfnhbleaaGreat
open Go.RowKit
set_option linter.unusedVariables false
set_option maxHeartbeats 2000000
theorem IntSl.put3N{w:World}{g:Nat}{v:Value}{m:Nat}{X:Nat→Int}(h:IntSl w w.heap.size v m X)(ha:Above (g+1) v)(u0 u1 u2:Value):IntSl (put3 w g u0 u1 u2) (put3 w g u0 u1 u2).heap.size v m X:=by
 have hz:(put3 w g u0 u1 u2).heap.size=w.heap.size:=by simp[put3,World.setCell]
 rw[hz];unfold put3;exact((h.set ha _ _).set ha _ _).set ha _ _
theorem peOwnX(uv:Value)(m:Nat)(X:Nat→Int)(ver N:Int)(w:World)(h:IntSl w w.heap.size uv m X):
 Calls Tryz.prog 137 #[keptV ver N uv] w fun e w'=>Below w.heap.size w w'∧∃pq:Nat,w.heap.size≤pq∧pq<w'.heap.size∧e=.returned (keptV ver N (.slice (some ⟨pq,0,none⟩) m m))∧IntSl w' w'.heap.size (.slice (some ⟨pq,0,none⟩) m m) m X∧NewV w.heap.size w' (.slice (some ⟨pq,0,none⟩) m m):=by
 have hbA:=((Below.refl w.heap.size w).alloc (Nat.le_refl _) (.cells #[.int .i64 ver,.int .i64 N,uv] 83)).alloc (by simp) (.cells #[.int .i64 0,.int .i64 0,.slice none 0 0] 83)
 have HI:=hid h
 obtain⟨ap,cp,rfl,_,_⟩:=h
 obtain⟨W,hW⟩:∃W,(w.alloc (.cells #[.int .i64 ver,.int .i64 N,.slice ap m cp] 83)).alloc (.cells #[.int .i64 0,.int .i64 0,.slice none 0 0] 83)=W:=⟨_,rfl⟩
 rw[hW]at hbA
 have k0:W.heap[w.heap.size]?=some (.cells #[.int .i64 ver,.int .i64 N,.slice ap m cp] 83 (0,0)):=by rw[←hW];exact heap_two_old w _ _
 have k1:W.heap[w.heap.size+1]?=some (.cells #[.int .i64 0,.int .i64 0,.slice none 0 0] 83 (0,0)):=by rw[←hW];exact heap_two_new w _ _
 obtain⟨s0,s1,s2⟩:=three_at k0
 have hne:Nonempty (Of (Below W.heap.size W)):=⟨⟨W,Below.refl _ _⟩⟩
 have F0:∀u:Of (Below W.heap.size W),u.val.cell? ⟨w.heap.size,0,none⟩=some (.int .i64 ver):=fun u=>by rw[u.is.cell (cell_lt s0)];exact s0
 have F1:∀u:Of (Below W.heap.size W),u.val.cell? ⟨w.heap.size,1,none⟩=some (.int .i64 N):=fun u=>by rw[u.is.cell (cell_lt s1)];exact s1
 have F2:∀u:Of (Below W.heap.size W),u.val.cell? ⟨w.heap.size,2,none⟩=some (.slice ap m cp):=fun u=>by rw[u.is.cell (cell_lt s2)];exact s2
 have HD0:Hid (Below W.heap.size W W.drew):=drew_belowB W
 have CN:=hid (frNumbers _ m X W.drew (HI.out.up (hbA.trans (HD0.out.mono hbA.size))))
 have HBW:=hid hbA
 have HK1:=hid k1
 clear hbA k0 k1 s0 s1 s2
 unfold keptV
 go_enter Tryz.func137,Tryz.ntmps137
 go_wp2_with fail
 refine region_mixed_last (Below W.heap.size W) [([0,1,2,3,4,5,6,7],8)] [9,10] 11 (by kernel_rfl) (by kernel_rfl) HD0.out ?_
 clear hW
 obtain⟨D0,hD0⟩:∃d,W.drew=d:=⟨_,rfl⟩
 rw[hD0]at HD0 CN ⊢
 clear hD0
 refine mixO_cons ?_
 repeat(go_big_quiet_step (fail))
 refine wpQuiet_nil ?_
 intro K hK
 go_wp2_with fail
 refine Calls.mono CN.out ?_
 rintro e w2 ⟨hb2,rfl,hl2,ha2⟩
 have HB2:=hid (HD0.out.trans (hb2.mono HD0.out.size))
 have HL2:=hid hl2
 have HA2:Hid (NewV W.heap.size w2 (.slice (some ⟨D0.heap.size,0,none⟩) m m)):=ha2.mono HD0.out.size
 obtain⟨pq,hpq⟩:∃q,D0.heap.size=q:=⟨_,rfl⟩
 rw[hpq]at HL2 HA2 ⊢
 clear hb2 hl2 ha2 hpq
 go_wp2
 refine⟨rfl,hK _ _ HB2.out ?_⟩
 clear hK K
 refine mixO_last ?_
 repeat(go_big_quiet_step (fail))
 refine wpQuiet_nil ?_
 have hsz:w.heap.size+1<W.heap.size:=(Array.getElem?_eq_some_iff.1 HK1.out).1
 obtain⟨d0,d1,d2⟩:=three_at ((HB2.out.block _ hsz).trans HK1.out)
 have f0:=frozen_at (i:=0) ((HB2.out.block _ hsz).trans HK1.out)
 have f1:=frozen_at (i:=1) ((HB2.out.block _ hsz).trans HK1.out)
 have f2:=frozen_at (i:=2) ((HB2.out.block _ hsz).trans HK1.out)
 clear F0 F1 F2 hne
 go_wp2
 have hB3:Below w.heap.size w (put3 w2 (w.heap.size+1) (.int .i64 ver) (.int .i64 N) (.slice (some ⟨pq,0,none⟩) m m)):=put3_below (HBW.out.trans (HB2.out.mono HBW.out.size)) (by omega)
 have hH:=put3_whole ((HB2.out.block _ hsz).trans HK1.out) (.int .i64 ver) (.int .i64 N) (.slice (some ⟨pq,0,none⟩) m m)
 have hpl:=HA2.out _ _ _ rfl
 have hz:(put3 w2 (w.heap.size+1) (.int .i64 ver) (.int .i64 N) (.slice (some ⟨pq,0,none⟩) m m)).heap.size=w2.heap.size:=by simp[put3,World.setCell]
 refine bodyPost_ret (results_cell_row rfl _ _ (w.heap.size+1) 83 #[.int .i64 ver,.int .i64 N,.slice (some ⟨pq,0,none⟩) m m] (0,0) _ rfl hH Tryz.underlying83 rfl (by kernel_rfl)) rfl ?_
 have h1:W.heap.size≤pq:=hpl.1
 have h2:pq<w2.heap.size:=hpl.2.1
 have h9:pq<(put3 w2 (w.heap.size+1) (.int .i64 ver) (.int .i64 N) (.slice (some ⟨pq,0,none⟩) m m)).heap.size:=by rw[hz];exact h2
 exact⟨hB3,pq,by omega,h9,rfl,HL2.out.put3N (HA2.out.above.mono' (by omega)) _ _ _,((((HA2.out.mono (by omega:w.heap.size≤W.heap.size)).set _ _).set _ _).set _ _)⟩
theorem peOwn(uv:Value)(m:Nat)(X:Nat→Int)(ver N:Int)(w:World)(h:IntSl w w.heap.size uv m X):
 Calls Tryz.prog 137 #[keptV ver N uv] w fun e w'=>Below w.heap.size w w'∧∃uv',e=.returned (keptV ver N uv')∧IntSl w' w'.heap.size uv' m X∧NewV w.heap.size w' uv':=by
 refine Calls.mono (peOwnX uv m X ver N w h) ?_
 rintro e w' ⟨h1,pq,_,_,h4,h5,h6⟩
 exact⟨h1,_,h4,h5,h6⟩
section
structure WhInv(w wr:World)(ad:Option Addr)(n cap:Nat)(b:Bk)(g gc k:Nat)(PV:Nat→Value):Prop where
 below:Below w.heap.size w wr
 bb:wr.heap[w.heap.size]?=some (.cells #[.slice ad n cap] 24 (0,0))
 rr:wr.heap[w.heap.size+1]?=some (.cells #[.slice none 0 0] 24 (0,0))
 cc:wr.heap[gc]?=some (.cells #[.slice (some ⟨g,0,none⟩) n n] 24 (0,0))
 row:∃cs:Array Value,wr.heap[g]?=some (.cells cs 61 (0,0))∧cs.size=n*4∧∀i,i<k*4→cs[i]?=some (cellV PV b i)
 og:w.heap.size+1<g
 oc:g<gc
 lists:∀j,j<k→IntSl wr wr.heap.size (PV j) (b.PL j) (b.PX j)∧Above (g+1) (PV j)
section
variable {w wr w' : World} {ad : Option Addr} {n cap : Nat} {b : Bk} {g gc k : Nat} {PV : Nat → Value}
theorem WhInv.up(h:WhInv w wr ad n cap b g gc k PV)(hb:Below wr.heap.size wr w'):WhInv w w' ad n cap b g gc k PV:=by
 have lt:∀ {i o},wr.heap[i]?=some o→i<wr.heap.size:=fun h=>(Array.getElem?_eq_some_iff.1 h).1;obtain⟨cs,h1,h2,h3⟩:=h.row;exact⟨h.below.trans (hb.mono h.below.size),by rw[hb.block _ (lt h.bb)];exact h.bb,by rw[hb.block _ (lt h.rr)];exact h.rr,by rw[hb.block _ (lt h.cc)];exact h.cc,⟨cs,by rw[hb.block _ (lt h1)];exact h1,h2,h3⟩,h.og,h.oc,fun j hj=>⟨(h.lists j hj).1.up hb,(h.lists j hj).2⟩⟩
theorem put4_block{w:World}{g o:Nat}{T:TypeId}{cs:Array Value}(h:w.heap[g]?=some (.cells cs T (0,0)))(u0 u1 u2 u3:Value):
 (put4 w g o u0 u1 u2 u3).heap[g]?=some (.cells ((((cs.setIfInBounds o u0).setIfInBounds (o+1) u1).setIfInBounds (o+2) u2).setIfInBounds (o+3) u3) T (0,0)):=by
 simp[put4,World.setCell,Array.getElem?_modify,h]
theorem put4_heap{w:World}{g o i:Nat}(hi:i≠g)(u0 u1 u2 u3:Value):(put4 w g o u0 u1 u2 u3).heap[i]?=w.heap[i]?:=by
 unfold put4;rw[Below.heap_setCell _ _ _ _ hi,Below.heap_setCell _ _ _ _ hi,Below.heap_setCell _ _ _ _ hi,Below.heap_setCell _ _ _ _ hi]
theorem WhInv.push{pv:Value}(h:WhInv w wr ad n cap b g gc k PV)(hk:k<n)(hl:IntSl wr wr.heap.size pv (b.PL k) (b.PX k))(ha:Above (g+1) pv):
 WhInv w (put4 wr g (k*4) pv (.int .i64 (b.nd k)) (.int .i64 (b.of k)) (.int .i64 (b.sz k))) ad n cap b g gc (k+1) (fun j=>if j=k then pv else PV j):=by
 have hog:=h.og
 have hoc:=h.oc
 obtain⟨cs,h1,h2,h3⟩:=h.row
 refine⟨below_put4 h.below (by omega) _ _ _ _ _,by rw[put4_heap (by omega)];exact h.bb,by rw[put4_heap (by omega)];exact h.rr,by rw[put4_heap (by omega)];exact h.cc,⟨_,put4_block h1 _ _ _ _,by simpa using h2,fun i hi=>?_⟩,h.og,h.oc,fun j hj=>?_⟩
 ·have e4:i/4<k∨i/4=k:=by omega
  simp only[Array.getElem?_setIfInBounds,Array.size_setIfInBounds];by_cases c3:k*4+3=i
  ·rw[if_pos c3,if_pos (by omega)]
   unfold cellV;rw[if_neg (by omega),if_neg (by omega),if_neg (by omega),show i/4=k by omega]
  rw[if_neg c3];by_cases c2:k*4+2=i
  ·rw[if_pos c2,if_pos (by omega)]
   unfold cellV;rw[if_neg (by omega),if_neg (by omega),if_pos (by omega),show i/4=k by omega]
  rw[if_neg c2];by_cases c1:k*4+1=i
  ·rw[if_pos c1,if_pos (by omega)]
   unfold cellV;rw[if_neg (by omega),if_pos (by omega),show i/4=k by omega]
  rw[if_neg c1];by_cases c0:k*4=i
  ·rw[if_pos c0,if_pos (by omega)]
   unfold cellV;rw[if_pos (by omega),show i/4=k by omega];simp only[if_true]
  rw[if_neg c0,h3 i (by omega)];unfold cellV;simp only[if_neg (by omega:¬i/4=k)]
 ·by_cases e:j=k
  ·subst e
   simp only[if_true];exact⟨hl.put4 ha _ _ _ _,ha⟩
  simp only[if_neg e];obtain⟨g1,g2⟩:=h.lists j (by omega);exact⟨g1.put4 g2 _ _ _ _,g2⟩
theorem WhInv.room(h:WhInv w wr ad n cap b g gc k PV)(i:Nat)(hi:i<n*4):(∃u,wr.cell? ⟨g,i,none⟩=some u)∧wr.frozen? ⟨g,i,none⟩=false:=by
 obtain⟨cs,h1,h2,h3⟩:=h.row;exact⟨⟨cs[i]'(by omega),cell_at h1 (by simp[show i<cs.size by omega])⟩,frozen_at h1⟩
theorem WhInv.own(h:WhInv w wr ad n cap b g gc n PV)(hn:n≤1000):OwnV w wr (.slice (some ⟨g,0,none⟩) n n) n PV b:=by
 obtain⟨cs,h1,h2,h3⟩:=h.row;have hog:=h.og;refine⟨⟨flatV_len _ _ _,Or.inr ⟨g,n,cs,rfl,by omega,h1,Nat.le_refl _,by unfold maxLen;omega,h2,?_⟩⟩,h.below⟩;apply List.ext_getElem?;intro i;rw[flatV_get,List.getElem?_take];by_cases hi:i<n*4
 ·rw[if_pos hi,if_pos hi]
  have:=h3 i hi;simpa using this
 rw[if_neg hi,if_neg hi]
end
theorem OwnV.set{w wr:World}{n g gs:Nat}{PV:Nat→Value}{b:Bk}(h:OwnV w wr (.slice (some ⟨g,0,none⟩) n n) n PV b)(hg:gs≠g)(hs:w.heap.size≤gs)(u:Value):OwnV w (wr.setCell ⟨gs,0,none⟩ u) (.slice (some ⟨g,0,none⟩) n n) n PV b :=
 ⟨owns_set_other h.1 (by intro e;injection e with e;exact hg e.symm) _,h.2.setCell (p:=⟨gs,0,none⟩) hs _⟩
def WhPost(w:World)(n:Nat)(b:Bk)(e:Ending)(w':World):Prop :=
 ∃(g:Nat) (PV:Nat→Value),e=.returned (bookV (.slice (some ⟨g,0,none⟩) n n))∧OwnV w w' (.slice (some ⟨g,0,none⟩) n n) n PV b∧∀j,j<n→IntSl w' w'.heap.size (PV j) (b.PL j) (b.PX j)∧Above (g+1) (PV j)
theorem made_row{w w':World}{n:Nat}{b:Bk}(ho:w'.ownsRow w.heap.size 61 4 (.slice (some ⟨w.heap.size,0,none⟩) n n) n (madeCells (Value.agg #[.slice none 0 0,.int .i64 0,.int .i64 0,.int .i64 0]).cells (n*4)).toList):
 ∃cs:Array Value,w'.heap[w.heap.size]?=some (.cells cs 61 (0,0))∧cs.size=n*4∧∀i,i<0*4→cs[i]?=some (cellV (fun _=>undef) b i):=by
 obtain⟨hl,h2⟩:=ho
 rcases h2 with⟨h1,_⟩|⟨g',cap,cur,hv,_,hh,hc1,hc2,hsz,hcur⟩
 ·cases h1
 ·injection hv with e1 _ e3
  injection e1 with e1;injection e1 with e1;subst e1 e3;exact⟨cur,hh,hsz,fun i hi=>by omega⟩
theorem bkWhole(v:Value)(n:Nat)(PV:Nat→Value)(b:Bk)(hn:n≤1000)(w:World)(h:VeSl w w.heap.size v n PV b):
 Calls Tryz.prog 102 #[bookV v] w (WhPost w n b):=by
 obtain⟨ad,cap,rfl,⟨hcap,hbig⟩,hx⟩:=h
 have hbA:=((Below.refl w.heap.size w).alloc (Nat.le_refl _) (.cells #[.slice ad n cap] 24)).alloc (by simp) (.cells #[.slice none 0 0] 24)
 obtain⟨W,hW⟩:∃W,(w.alloc (.cells #[.slice ad n cap] 24)).alloc (.cells #[.slice none 0 0] 24)=W:=⟨_,rfl⟩
 rw[hW]at hbA
 have k0:W.heap[w.heap.size]?=some (.cells #[.slice ad n cap] 24 (0,0)):=by rw[←hW];exact heap_two_old w _ _
 have k1:W.heap[w.heap.size+1]?=some (.cells #[.slice none 0 0] 24 (0,0)):=by rw[←hW];exact heap_two_new w _ _
 have s0:W.cell? ⟨w.heap.size,0,none⟩=some (.slice ad n cap):=cell_at k0 rfl
 have HX:=hid hx
 obtain⟨ii,hii,hz0,hz1,hz2⟩:=info_parts Tryz.infoVer
 have HBW:=hid hbA
 have HK0:=hid k0
 have HK1:=hid k1
 clear hbA k0 k1 hx
 unfold bookV
 go_enter Tryz.func102,Tryz.ntmps102
 go_wp2_with(at_make;refine wpList_make_full _ rfl (.tmp 8) (.tmp 8) 22 rfl _ 61 ii (.agg #[.slice none 0 0,.int .i64 0,.int .i64 0,.int .i64 0]) 4 Tryz.underlying22 hii hz0 hz1 _ _ _ _ n rfl rfl rfl rfl (by rw[hz2];omega) (by unfold maxLen;omega) (Nat.le_refl _) ?_;intro w1 ho1 hg1;have HM1:=hid (made_row (b:=b) ho1);have HB1:=hid (below_of_grown hg1);have t0:w1.cell? ⟨w.heap.size,0,none⟩=some (.slice ad n cap):=(HB1.out.cell (cell_lt s0)).trans s0;have l0:w.heap.size<w1.heap.size:=cell_lt t0;clear ho1 hg1)
 have J0:Hid (WhInv w (w1.alloc (.cells #[.slice (some ⟨W.heap.size,0,none⟩) n n] 24)) ad n cap b W.heap.size w1.heap.size 0 (fun _=>undef)):=by
  have hbz:Below W.heap.size W (w1.alloc (.cells #[.slice (some ⟨W.heap.size,0,none⟩) n n] 24)):=HB1.out.alloc HB1.out.size _;obtain⟨cs,h1,h2,h3⟩:=HM1.out;have l1:=(Array.getElem?_eq_some_iff.1 h1).1;have l2:=(Array.getElem?_eq_some_iff.1 HK1.out).1;exact⟨HBW.out.trans (hbz.mono HBW.out.size),by rw[hbz.block _ (Nat.lt_of_succ_lt l2)];exact HK0.out,by rw[hbz.block _ l2];exact HK1.out,heap_alloc_new _ _,⟨cs,by rw[Below.heap_alloc _ _ _ l1];exact h1,h2,h3⟩,l2,l1,fun j hj=>by omega⟩
 generalize W.heap.size=g at *
 generalize w1.heap.size=gc at *
 clear hW s0 HM1 HB1 t0 HK0 HK1 l0
 go_loopw [14] (fun iv wr=>∃(k:Nat) (QV:Nat→Value),k≤n∧iv=.int .i64 k∧Hid (WhInv w wr ad n cap b g gc k QV)) (fun iv _=>n-(intOf iv).toNat)
 case atStart=>exact⟨0,_,Nat.zero_le _,rfl,J0⟩
 case round =>
  obtain⟨k,QV,hk,rfl,J⟩:=hrel;by_cases hlt:k<n
  ·have hki:(k:Int)<(n:Int):=by omega
   rcases HX.out with h0|⟨bl,off,rfl,hbl,hx⟩;·omega
   obtain⟨x0,x1,x2,x3,x4⟩:=hx k hlt;have HI:Hid (∀w',Below w.heap.size w w'→IntSl w' w'.heap.size (PV k) (b.PL k) (b.PX k)):=fun w' hb=>x4.up hb;obtain⟨ap,cp,hpe,_,_⟩:=x4;rw[hpe]at x0 HI;have g0:wr.cell? ⟨bl,off+k*4,none⟩=some (.slice ap (b.PL k) cp):=by rw[J.out.below.cell hbl];exact x0
   have g1:wr.cell? ⟨bl,off+k*4+1,none⟩=some (.int .i64 (b.nd k)):=by rw[J.out.below.cell hbl];exact x1
   have g2:wr.cell? ⟨bl,off+k*4+2,none⟩=some (.int .i64 (b.of k)):=by rw[J.out.below.cell hbl];exact x2
   have g3:wr.cell? ⟨bl,off+k*4+3,none⟩=some (.int .i64 (b.sz k)):=by rw[J.out.below.cell hbl];exact x3
   obtain⟨U,hU⟩:∃U,wr.alloc (.cells #[.slice ap (b.PL k) cp,.int .i64 (b.nd k),.int .i64 (b.of k),.int .i64 (b.sz k)] 61)=U:=⟨_,rfl⟩;have hbU:Below wr.heap.size wr U:=by rw[←hU];exact below_alloc _ _
   have hUh:U.heap[wr.heap.size]?=some (.cells #[.slice ap (b.PL k) cp,.int .i64 (b.nd k),.int .i64 (b.of k),.int .i64 (b.sz k)] 61 (0,0)):=by rw[←hU];exact heap_alloc_new _ _
   have JU:=hid (J.out.up hbU);obtain⟨y0,y1,y2,y3⟩:=four_at hUh;have yc:U.cell? ⟨gc,0,none⟩=some (.slice (some ⟨g,0,none⟩) n n):=cell_at JU.out.cc rfl;have hne:Nonempty (Of (Below U.heap.size U)):=⟨⟨U,Below.refl _ _⟩⟩;have F0:∀u:Of (Below U.heap.size U),u.val.cell? ⟨wr.heap.size,0,none⟩=some (.slice ap (b.PL k) cp):=fun u=>by rw[u.is.cell (cell_lt y0)];exact y0
   have F1:∀u:Of (Below U.heap.size U),u.val.cell? ⟨wr.heap.size,1,none⟩=some (.int .i64 (b.nd k)):=fun u=>by rw[u.is.cell (cell_lt y1)];exact y1
   have F2:∀u:Of (Below U.heap.size U),u.val.cell? ⟨wr.heap.size,2,none⟩=some (.int .i64 (b.of k)):=fun u=>by rw[u.is.cell (cell_lt y2)];exact y2
   have F3:∀u:Of (Below U.heap.size U),u.val.cell? ⟨wr.heap.size,3,none⟩=some (.int .i64 (b.sz k)):=fun u=>by rw[u.is.cell (cell_lt y3)];exact y3
   have F4:∀u:Of (Below U.heap.size U),u.val.cell? ⟨gc,0,none⟩=some (.slice (some ⟨g,0,none⟩) n n):=fun u=>by rw[u.is.cell (cell_lt yc)];exact yc
   have HD0:Hid (Below U.heap.size U U.drew):=⟨rfl,rfl,rfl,Nat.le_refl _,fun _ _=>rfl⟩;have hgU:g<U.heap.size:=by
    obtain⟨cs,h1,_⟩:=JU.out.row;exact(Array.getElem?_eq_some_iff.1 h1).1
   clear x0 x1 x2 x3 hx hpe hbU hUh y0 y1 y2 y3 yc;go_wp2_with fail
   refine region_mixed_last (Below U.heap.size U) [([0,1,2,3],4)] [5] 6 (by kernel_rfl) (by kernel_rfl) HD0.out ?_;refine mixO_cons ?_;repeat(go_big_quiet_step (fail))
   refine wpQuiet_nil ?_;intro K hK;go_wp2_with fail
   refine Calls.mono (bkOwn _ _ _ (b.nd k) (b.of k) (b.sz k) _ (HI.out _ (JU.out.below.trans (HD0.out.mono JU.out.below.size)))) ?_;rintro e w2 ⟨hb2,pv,rfl,hl2,ha2⟩;have hbb:Below U.heap.size U w2:=HD0.out.trans (hb2.mono HD0.out.size);have HBb:=hid hbb;have J2:=hid (JU.out.up hbb);have HL2:=hid hl2;have HA2:Hid (Above (g+1) pv):=ha2.mono' hgU;clear hb2 hl2 ha2 hbb;unfold verV;go_wp2;refine⟨rfl,hK _ _ HBb.out ?_⟩;clear hK K;refine mixO_last ?_;repeat(go_big_quiet_step (fail))
   refine wpQuiet_nil ?_;obtain⟨⟨u0,c0⟩,f0⟩:=J2.out.room (k*4) (by omega);obtain⟨⟨u1,c1⟩,f1⟩:=J2.out.room (k*4+1) (by omega);obtain⟨⟨u2,c2⟩,f2⟩:=J2.out.room (k*4+2) (by omega);obtain⟨⟨u3,c3⟩,f3⟩:=J2.out.room (k*4+3) (by omega);obtain⟨aq,cq,hpv,_,_⟩:=HL2.out;subst hpv;clear F0 F1 F2 F3 F4;go_wp2;go_roundw
   case rel=>exact⟨k+1,_,by omega,by go_num,J2.out.push hlt HL2.out HA2.out⟩
   case measure=>simp only[intOf];omega
  have hke:n=k:=by omega
  subst hke;have r1:=cell_at (i:=0) J.out.rr rfl;have q1:=frozen_at (i:=0) J.out.rr;have c1:=cell_at (i:=0) J.out.cc rfl;go_wp2;have hJ:=J.out;have hog:=hJ.og;have hH:=set_one hJ.rr (.slice (some ⟨g,0,none⟩) n n);refine bodyPost_ret (results_cell_row rfl _ _ (w.heap.size+1) 24 #[.slice (some ⟨g,0,none⟩) n n] (0,0) _ rfl hH Tryz.underlying24 rfl (by kernel_rfl)) rfl ?_;exact⟨g,QV,rfl,(hJ.own hn).set (by omega) (by omega) _,fun j hj=>⟨by have:=(hJ.lists j hj).1.set (bs:=w.heap.size+1) ((hJ.lists j hj).2.mono' (by omega)) 0 (.slice (some ⟨g,0,none⟩) n n);simpa[World.setCell]using this,(hJ.lists j hj).2⟩⟩
end
end Go.Proofs.YtajmnlhfnhbleaaGreat
