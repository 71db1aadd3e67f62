/- Several texts of one proof, in their order. -/
import Derived.Test.YtajmnlhfnhbleaaGreatKw32
import Derived.Test.YtajmnlhfnhbleaaGreatKw34
namespace Go.Proofs.YtajmnlhfnhbleaaGreat
open Go.RowKit Go.Maps CurveMath
set_option linter.unusedVariables false
set_option maxHeartbeats 4000000
set_option maxRecDepth 10000
theorem msCheck(vb:Value)(n:Nat)(PV:Nat→Value)(b:Bk)(vl:Value)(np:Nat)(KV:Nat→Value)(UV:Nat→Nat→Value)(P:Ps)(w:World)(hv:VeSl w w.heap.size vb n PV b)(hl:PsSl w w.heap.size vl np KV UV P):
 Calls Tryz.prog 17 #[meshV vb vl] w fun e w'=>e=.returned (.int .i64 (peersE n b np P))∧Below w.heap.size w w':=by
 have hb:=below_alloc w (.cells #[vb,vl] 27)
 have CK:=hid (plCheck _ n PV b _ np KV UV P _ (hv.up hb) (hl.up hb))
 have HB:=hid hb
 obtain⟨c0,c1⟩:=two_at (heap_alloc_new w (.cells #[vb,vl] 27))
 obtain⟨ad,cap,rfl,_,_⟩:=hv
 obtain⟨al,cl,rfl,_,_⟩:=hl
 unfold bookV at CK
 unfold meshV
 clear hb
 go_enter Tryz.func17,Tryz.ntmps17
 go_wp2_with fail
 refine Calls.mono CK.out ?_
 rintro e w2 ⟨rfl,hb2⟩
 have HB2:=hid (HB.out.trans (hb2.mono HB.out.size))
 clear hb2
 go_wp2
 go_ret
 exact⟨rfl,HB2.out⟩
theorem msEqualPeers{w:World}{v1 v2:Value}{n m:Nat}{PV QV:Nat→Value}{UV WV:Nat→Nat→Value}{P Q:Ps}(h1:PsSl w w.heap.size v1 n PV UV P)(h2:PsSl w w.heap.size v2 m QV WV Q):
 Calls Tryz.prog 49 #[v1,v2,.func (.func 19) #[] #[]] w fun e w'=>e=.returned (.bool (peersB n m P Q))∧Below w.heap.size w w':=by
 obtain⟨a1,c1,rfl,⟨hc1,hr1⟩,hx⟩:=h1
 obtain⟨a2,c2,rfl,⟨hc2,hr2⟩,hy⟩:=h2
 obtain⟨ans,hans⟩:∃ans,peersB n m P Q=ans:=⟨_,rfl⟩
 rw[hans]
 unfold peersB at hans
 by_cases hnm:n=m
 ·subst hnm
  rw[decide_eq_true rfl,Bool.true_and]at hans;have HA:=hid hans;have HX:=hid hx;have HY:=hid hy;clear hx hy hans;go_enter Tryz.func49,Tryz.ntmps49;go_wp2;go_loopw [17] (fun iv wr=>∃k:Nat,k≤n∧iv=.int .i64 k∧Hid (Below w.heap.size w wr)∧Hid (restP P Q (n-k) k=ans)) (fun iv _=>n-(intOf iv).toNat)
  case atStart=>exact⟨0,Nat.zero_le _,rfl,Below.refl _ _,HA⟩
  case round =>
   obtain⟨k,hk,rfl,HB,HS⟩:=hrel;by_cases hlt:k<n
   ·have hki:(k:Int)<(n:Int):=by omega
    rcases HX.out with h0|⟨b1,o1,rfl,hb1,hx⟩;·omega
    rcases HY.out with h0|⟨b2,o2,rfl,hb2,hy⟩;·omega
    have hstep:=HS.out;rw[show n-k=(n-(k+1))+1 by omega]at hstep;simp only[restP]at hstep;have HSt:=hid hstep;obtain⟨x0,x1,x2,x3⟩:=hx k hlt;obtain⟨y0,y1,y2,y3⟩:=hy k hlt;have HI1:Hid (∀w',Below w.heap.size w w'→KeSl w' w'.heap.size (PV k) (P.m k) (UV k) (P.t k)):=fun w' hb=>x3.up hb;have HI2:Hid (∀w',Below w.heap.size w w'→KeSl w' w'.heap.size (QV k) (Q.m k) (WV k) (Q.t k)):=fun w' hb=>y3.up hb;obtain⟨ap,cp,hpe,_,_⟩:=x3;obtain⟨aq,cq,hqe,_,_⟩:=y3;rw[hpe]at x2 HI1;rw[hqe]at y2 HI2;have g0:wr.cell? ⟨b1,o1+k*3,none⟩=some (.bool (P.th k)):=by rw[HB.out.cell hb1];exact x0
    have g1:wr.cell? ⟨b1,o1+k*3+1,none⟩=some (.int .i64 (P.rm k)):=by rw[HB.out.cell hb1];exact x1
    have g2:wr.cell? ⟨b1,o1+k*3+2,none⟩=some (.slice ap (P.m k) cp):=by rw[HB.out.cell hb1];exact x2
    have e0:wr.cell? ⟨b2,o2+k*3,none⟩=some (.bool (Q.th k)):=by rw[HB.out.cell hb2];exact y0
    have e1:wr.cell? ⟨b2,o2+k*3+1,none⟩=some (.int .i64 (Q.rm k)):=by rw[HB.out.cell hb2];exact y1
    have e2:wr.cell? ⟨b2,o2+k*3+2,none⟩=some (.slice aq (Q.m k) cq):=by rw[HB.out.cell hb2];exact y2
    have l1:b1<wr.heap.size:=cell_lt g0;have l2:b2<wr.heap.size:=cell_lt e0;clear x0 x1 x2 y0 y1 y2 hpe hqe hx hy hstep;go_wp2_with fail
    have hbb:Below w.heap.size w ((wr.alloc (.cells #[.bool (P.th k),.int .i64 (P.rm k),.slice ap (P.m k) cp] 41)).alloc (.cells #[.bool (Q.th k),.int .i64 (Q.rm k),.slice aq (Q.m k) cq] 41)) :=
     (HB.out.alloc HB.out.size _).alloc (by simp;exact Nat.le_succ_of_le HB.out.size) _
    have CS:=hid (peSame (P.th k) (Q.th k) (P.rm k) (Q.rm k) (HI1.out _ hbb) (HI2.out _ hbb));unfold peerV at CS;refine Calls.mono CS.out ?_;rintro e w2 ⟨rfl,hb3⟩;have HB3:Hid (Below w.heap.size w w2):=hbb.trans (hb3.mono hbb.size);clear hb3 hbb;rw[show peerB (P.th k) (Q.th k) (P.rm k) (Q.rm k) (P.m k) (Q.m k) (P.t k) (Q.t k)=prB P Q k from rfl];clear CS;cases hs:prB P Q k with
    |true =>
     have hn:=HSt.out;rw[hs,Bool.true_and]at hn;have HNx:=hid hn;clear hn;go_wp2;go_roundw
     case rel=>exact⟨k+1,by omega,by go_num,HB3,HNx⟩
     case measure=>simp only[intOf];omega
    |false =>
     have hn:=HSt.out;rw[hs,Bool.false_and]at hn;have HNx:=hid hn;clear hn;go_wp2;go_ret;exact⟨by rw[←HNx.out];rfl,HB3.out⟩
   have hke:n=k:=by omega
   subst hke;have hst:=HS.out;rw[Nat.sub_self]at hst;have HFin:Hid (true=ans):=hst;clear hst;go_wp2;go_ret;exact⟨by rw[←HFin.out];rfl,HB.out⟩
 ·rw[decide_eq_false hnm,Bool.false_and]at hans
  have HA:=hid hans;have hni:¬(n:Int)=(m:Int):=by omega
  clear hans;go_enter Tryz.func49,Tryz.ntmps49;go_wp2;go_ret;exact⟨by rw[←HA.out];rfl,Below.refl _ _⟩
theorem msSame{w:World}{vb vl vb' vl':Value}{n n' np np':Nat}{PV PV' KV KV':Nat→Value}{UV UV':Nat→Nat→Value}{b b':Bk}{P P':Ps}(hv:VeSl w w.heap.size vb n PV b)(hl:PsSl w w.heap.size vl np KV UV P)(hv':VeSl w w.heap.size vb' n' PV' b')(hl':PsSl w w.heap.size vl' np' KV' UV' P'):
 Calls Tryz.prog 21 #[meshV vb vl,meshV vb' vl'] w fun e w'=>e=.returned (.bool (meshB n n' b b' np np' P P'))∧Below w.heap.size w w':=by
 have hb:=((Below.refl w.heap.size w).alloc (Nat.le_refl _) (.cells #[vb,vl] 27)).alloc (by simp) (.cells #[vb',vl'] 27)
 have k1:=heap_two_old w (.cells #[vb,vl] 27) (.cells #[vb',vl'] 27)
 have k2:=heap_two_new w (.cells #[vb,vl] 27) (.cells #[vb',vl'] 27)
 obtain⟨U,hU⟩:∃u,(w.alloc (.cells #[vb,vl] 27)).alloc (.cells #[vb',vl'] 27)=u:=⟨_,rfl⟩
 rw[hU]at hb k1 k2
 have CS:=hid (bkSame (hv.up hb) (hv'.up hb))
 have HE:Hid (∀u,Below U.heap.size U u→Calls Tryz.prog _ #[vl,vl',.func (.func 19) #[] #[]] u fun e u'=>e=.returned (.bool (peersB np np' P P'))∧Below u.heap.size u u'):=fun u hbu=>msEqualPeers ((hl.up hb).up hbu) ((hl'.up hb).up hbu)
 have HB:=hid hb
 have K1:=hid k1
 have K2:=hid k2
 obtain⟨c1,c2⟩:=two_at k1
 obtain⟨c3,c4⟩:=two_at k2
 obtain⟨ad,cap,rfl,_,_⟩:=hv
 obtain⟨al,cl,rfl,_,_⟩:=hl
 obtain⟨ad',cap',rfl,_,_⟩:=hv'
 obtain⟨al',cl',rfl,_,_⟩:=hl'
 clear hb k1 k2
 unfold meshB
 unfold bookV at CS
 unfold meshV
 cases hs:bookB n n' b b' with
 |false =>
  rw[hs]at CS;rw[Bool.false_and];clear hs;go_enter Tryz.func21,Tryz.ntmps21;go_wp2_with fail
  refine Calls.mono CS.out ?_;rintro e w2 ⟨rfl,hb2⟩;have HB2:=hid (HB.out.trans (hb2.mono HB.out.size));clear hb2;go_wp2;go_ret;exact⟨rfl,HB2.out⟩
 |true =>
  rw[hs]at CS;rw[Bool.true_and];clear hs;go_enter Tryz.func21,Tryz.ntmps21;go_wp2_with fail
  refine Calls.mono CS.out ?_;rintro e w2 ⟨rfl,hb2⟩;have HB2:=hid (HB.out.trans (hb2.mono HB.out.size));have HE2:=hid (HE.out w2 hb2);obtain⟨c1,c2⟩:=two_at (stayB K1.out hb2);obtain⟨c3,c4⟩:=two_at (stayB K2.out hb2);clear hb2;go_wp2_with fail
  refine Calls.mono HE2.out ?_;rintro e w3 ⟨rfl,hb3⟩;have HB3:=hid (HB2.out.trans (hb3.mono HB2.out.size));clear hb3;go_wp2;go_ret;exact⟨rfl,HB3.out⟩
theorem msRestore(vb:Value)(n:Nat)(PV:Nat→Value)(b:Bk)(vl:Value)(np:Nat)(KV:Nat→Value)(UV:Nat→Nat→Value)(P:Ps)(k:Int)(w:World)(hv:VeSl w w.heap.size vb n PV b)(hl:PsSl w w.heap.size vl np KV UV P):
 Calls Tryz.prog 33 #[meshV vb vl,.int .i64 k] w (RestPost w n b np P k):=by
 have hb:=below_alloc w (.cells #[vb,vl] 27)
 have CK:=hid (msCheck _ n PV b _ np KV UV P _ (hv.up hb) (hl.up hb))
 have HB:=hid hb
 have HK:=hid (heap_alloc_new w (.cells #[vb,vl] 27))
 have HV:=hid hv
 have HL:=hid hl
 obtain⟨ad,cap,rfl,_,hx⟩:=hv
 obtain⟨al,cl,rfl,_,_⟩:=hl
 obtain⟨m0,m1⟩:=two_at HK.out
 obtain⟨c,hc⟩:∃c,peersE n b np P=c:=⟨_,rfl⟩
 rw[hc]at CK
 have HC:=hid hc
 have HX:=hid hx
 clear hb hc hx
 unfold meshV at CK
 unfold meshV
 go_enter Tryz.func33,Tryz.ntmps33
 go_wp2_with fail
 refine Calls.mono CK.out ?_
 rintro e W ⟨rfl,hbW⟩
 have BW:=hid (HB.out.trans (hbW.mono HB.out.size))
 clear m0 m1
 obtain⟨c0,c1⟩:=two_at (stayB HK.out hbW)
 clear hbW CK
 by_cases h0:c=0
 ·subst h0
  have hR:=meshR_of HC.out;have HR:=hid hR;by_cases hk:0≤k∧k<(n:Int)
  ·have hver:verM n b np P k=0:=by unfold verM;rw[if_pos HC.out,if_pos hk]
   have HVer:=hid hver;obtain⟨q,rfl⟩:∃q:Nat,k=q:=⟨k.toNat,by omega⟩;have hqn:q<n:=by omega
   rcases HX.out with h0|⟨bv,ov,rfl,hbv,hxv⟩;·omega
   obtain⟨_,v1,v2,v3,_⟩:=hxv q hqn;have q1:W.cell? ⟨bv,ov+q*4+1,none⟩=some (.int .i64 (b.nd q)):=by rw[BW.out.cell hbv];exact v1
   have q2:W.cell? ⟨bv,ov+q*4+2,none⟩=some (.int .i64 (b.of q)):=by rw[BW.out.cell hbv];exact v2
   have q3:W.cell? ⟨bv,ov+q*4+3,none⟩=some (.int .i64 (b.sz q)):=by rw[BW.out.cell hbv];exact v3
   have hne:Nonempty (Of (Below W.heap.size W)):=⟨⟨W,Below.refl _ _⟩⟩;have F0:∀u:Of (Below W.heap.size W),u.val.cell? ⟨w.heap.size,0,none⟩=some (.slice (some ⟨bv,ov,none⟩) n cap):=fun u=>by rw[u.is.cell (cell_lt c0)];exact c0
   have F1:∀u:Of (Below W.heap.size W),u.val.cell? ⟨w.heap.size,1,none⟩=some (.slice al np cl):=fun u=>by rw[u.is.cell (cell_lt c1)];exact c1
   have F2:∀u:Of (Below W.heap.size W),u.val.cell? ⟨bv,ov+q*4+1,none⟩=some (.int .i64 (b.nd q)):=fun u=>by rw[u.is.cell (cell_lt q1)];exact q1
   have F3:∀u:Of (Below W.heap.size W),u.val.cell? ⟨bv,ov+q*4+2,none⟩=some (.int .i64 (b.of q)):=fun u=>by rw[u.is.cell (cell_lt q2)];exact q2
   have F4:∀u:Of (Below W.heap.size W),u.val.cell? ⟨bv,ov+q*4+3,none⟩=some (.int .i64 (b.sz q)):=fun u=>by rw[u.is.cell (cell_lt q3)];exact q3
   have CT:Hid (∀u,Below W.heap.size W u→Calls Tryz.prog 73 #[meshV (.slice (some ⟨bv,ov,none⟩) n cap) (.slice al np cl),.int .i64 (q:Int)] u fun e w'=>Below u.heap.size u w'∧∃vo,e=.returned vo∧ShSl w' w'.heap.size vo (thereL P q np).length (nL P (thereL P q np)) (vaL UV (thereL P q np)) (lL P (thereL P q np)) (xL P (thereL P q np))):=fun u hbu =>
    msPresent _ n b _ np KV UV P q u ⟨_,_,_,rfl⟩ (HL.out.up (BW.out.trans (hbu.mono BW.out.size))) HR.out
   unfold meshV at CT;have hki:(q:Int)<(n:Int):=by omega
   have hk0:¬(q:Int)<0:=by omega
   have hk1:¬(n:Int)≤(q:Int):=by omega
   clear hR hxv v1 v2 v3 q1 q2 q3 hver hk;go_wp2_with fail
   have HD1:Hid (Below W.heap.size W W.drew):=drew_below W;refine region_mixed (Below W.heap.size W) [([0,1,2,3,4,5,6,7,8],9),([],10)] [11,12,13,14,15,16] (by kernel_rfl) (by kernel_rfl) HD1.out ?_;clear c0 c1;refine mixO_cons ?_;repeat(go_big_quiet_step (fail))
   refine wpQuiet_nil ?_;intro K hK;go_wp2_with fail
   refine Calls.mono (CT.out _ HD1.out) ?_;rintro e W5 ⟨hb5,vo,rfl,hsh0⟩;have hsh:=hsh0.agree fun j hj=>tT_eq P (thereL P (q:Int) np) hj;clear hsh0;have H5:Hid (Below W.heap.size W W5):=HD1.out.trans (hb5.mono HD1.out.size);have CE:=hid (most_any (b.nd q) (b.of q) (b.sz q) vo _ _ _ _ _ W5 hsh);unfold planV at CE;obtain⟨ao,co,rfl,_,_⟩:=hsh;clear hb5;go_wp2;refine⟨rfl,hK _ _ H5.out ?_⟩;clear hK K;refine mixO_cons (lq:=[]) ?_ rfl;refine wpQuiet_nil ?_;intro K hK;go_wp2_with fail
   refine Calls.mono CE.out ?_;rintro e W6 hM;have B5:=hid (BW.out.trans (H5.out.mono BW.out.size));have HRe:=hid (rest_of (n:=n) (b:=b) (np:=np) (P:=P) (k:=(q:Int)) B5.out HVer.out (by rw[Int.toNat_natCast];exact hM));obtain⟨hb6,r,bb,m,rfl,_,hr,hbb⟩:=hM;have H6:Hid (Below W.heap.size W W6):=H5.out.trans (hb6.mono H5.out.size);obtain⟨ar,cr,rfl,_,_⟩:=hr;obtain⟨ab,cb,rfl,_,_⟩:=hbb;clear hb6;go_wp2;refine⟨rfl,hK _ _ H6.out ?_⟩;clear hK K;refine mixO_nil ?_;repeat(go_big_quiet_step (fail))
   refine wpQuiet_nil ?_;clear F0 F1 F2 F3 F4 hne;go_wp2;go_ret3
   exact HRe.out
  have hver:verM n b np P k=4:=by unfold verM;rw[if_pos HC.out,if_neg hk]
  have HVer:=hid hver;clear hver;by_cases hk0:k<0
  ·clear hk
   go_wp2;go_ret3
   exact rest_err BW.out HVer.out (by decide)
  have hk1:(n:Int)≤k:=by omega
  clear hk;go_wp2;go_ret3
  exact rest_err BW.out HVer.out (by decide)
 ·have hcb:(c != 0)=true:=by simpa using h0
  have hver:verM n b np P k=c:=by unfold verM;rw[HC.out,if_neg h0]
  have H0:=hid h0;have HVer:=hid hver;clear h0 hver;go_wp2;go_ret3
  exact rest_err BW.out HVer.out H0.out
structure NwInv(w wr:World)(g gc len:Nat)(X:Nat→Int)(k:Nat):Prop where
 below:Below w.heap.size w wr
 out:wr.heap[w.heap.size]?=some (.cells #[.slice none 0 0,.slice none 0 0] 27 (0,0))
 cc:wr.heap[gc]?=some (.cells #[.slice none 0 0,.slice (some ⟨g,0,none⟩) len len] 27 (0,0))
 row:CRow wr g 41 (len*3) (k*3) (cellP (fun _=>.slice none 0 0) (freshP X))
 ge:w.heap.size<g∧w.heap.size<gc∧g≠gc
theorem NwInv.up{w wr w':World}{g gc len k:Nat}{X:Nat→Int}(h:NwInv w wr g gc len X k)(hb:Below wr.heap.size wr w'):NwInv w w' g gc len X k :=
 ⟨h.below.trans (hb.mono h.below.size),stayB h.out hb,stayB h.cc hb,h.row.up hb,h.ge⟩
theorem NwInv.put{w wr:World}{g gc len k:Nat}{X:Nat→Int}(h:NwInv w wr g gc len X k)(hk:k<len):NwInv w (((wr.setCell ⟨g,k*3,none⟩ (.bool true)).setCell ⟨g,k*3+1,none⟩ (.int .i64 (X k))).setCell ⟨g,k*3+2,none⟩ (.slice none 0 0)) g gc len X (k+1):=by
 obtain⟨g1,g2,g3⟩:=h.ge;obtain⟨e0,e1,e2⟩:=cellP_at (KV:=fun _=>Value.slice none 0 0) (P:=freshP X) (k:=k);refine⟨((h.below.setCell (p:=⟨g,k*3,none⟩) (by show w.heap.size≤g;omega) _).setCell (p:=⟨g,k*3+1,none⟩) (by show w.heap.size≤g;omega) _).setCell (p:=⟨g,k*3+2,none⟩) (by show w.heap.size≤g;omega) _,?_,?_,h.row.three (by omega) e0.symm e1.symm e2.symm,h.ge⟩;·rw[Below.heap_setCell _ _ _ _ (by show w.heap.size≠g;omega),Below.heap_setCell _ _ _ _ (by show w.heap.size≠g;omega),Below.heap_setCell _ _ _ _ (by show w.heap.size≠g;omega)];exact h.out
 rw[Below.heap_setCell _ _ _ _ (by show gc≠g;omega),Below.heap_setCell _ _ _ _ (by show gc≠g;omega),Below.heap_setCell _ _ _ _ (by show gc≠g;omega)];exact h.cc
theorem NwInv.peers{w wr:World}{g gc len:Nat}{X:Nat→Int}(h:NwInv w wr g gc len X len)(hr:len*40≤140737488351232):PsSl wr wr.heap.size (.slice (some ⟨g,0,none⟩) len len) len (fun _=>.slice none 0 0) (fun _ _=>.int .i64 0) (freshP X) :=
 h.row.rowP.kel (Nat.le_refl _) hr fun k hk=>kel_nil _ _ _ _
theorem msNew(vr:Value)(len:Nat)(X:Nat→Int)(w:World)(h:IntSl w w.heap.size vr len X)(hlen:len≤1048576):
 Calls Tryz.prog 36 #[vr] w (MeshPostN w (newE len X) 0 noB len (freshP X)):=by
 have HI:=hid h
 obtain⟨ar,cr,rfl,⟨_,hbig⟩,hx⟩:=h
 have HX:=hid hx
 obtain⟨ip,hip,hpz0,hpz1,hpz2⟩:=info_parts Tryz.infoPeer
 have hb0:=below_alloc w (.cells #[.slice none 0 0,.slice none 0 0] 27)
 have k0:=heap_alloc_new w (.cells #[.slice none 0 0,.slice none 0 0] 27)
 obtain⟨W,hW⟩:∃u,w.alloc (.cells #[.slice none 0 0,.slice none 0 0] 27)=u:=⟨_,rfl⟩
 rw[hW]at hb0 k0
 have B0:=hid hb0
 have K0:=hid k0
 clear hx hb0 k0
 go_enter Tryz.func36,Tryz.ntmps36
 go_wp2_with(at_make;go_must(refine wpList_make_full _ rfl (.tmp 9) (.tmp 9) 25 rfl _ 41 ip (.agg #[.bool false,.int .i64 0,.slice none 0 0]) 3 Tryz.underlying25 hip hpz0 hpz1 _ _ _ _ len rfl rfl rfl rfl (by rw[hpz2];omega) (by unfold maxLen;omega) (Nat.le_refl _) ?_;intro w1 ho1 hg1;have hb:=below_of_grown hg1;have RP:=hid (CRow.made ho1 (cellP (fun _=>.slice none 0 0) (freshP X)));have HB1:=hid hb;clear ho1 hg1 hb))
 have hb2:=below_alloc w1 (.cells #[.slice none 0 0,.slice (some ⟨W.heap.size,0,none⟩) len len] 27)
 have k2:=heap_alloc_new w1 (.cells #[.slice none 0 0,.slice (some ⟨W.heap.size,0,none⟩) len len] 27)
 obtain⟨Y,hY⟩:∃u,World.alloc w1 (.cells #[.slice none 0 0,.slice (some ⟨W.heap.size,0,none⟩) len len] 27)=u:=⟨_,rfl⟩
 rw[hY]at hb2 k2 ⊢
 have hwW:w.heap.size<W.heap.size:=(Array.getElem?_eq_some_iff.1 K0.out).1
 have hgl:=RP.out.lt
 have J0:Hid (NwInv w Y W.heap.size w1.heap.size len X 0):=by
  have h12:=HB1.out.trans (hb2.mono HB1.out.size);exact⟨B0.out.trans (h12.mono B0.out.size),stayB K0.out h12,k2,by have:=RP.out.up hb2;rw[Nat.zero_mul];exact this,by omega,by omega,by omega⟩
 obtain⟨g,hg⟩:∃q,W.heap.size=q:=⟨_,rfl⟩
 obtain⟨gc,hgc⟩:∃q,w1.heap.size=q:=⟨_,rfl⟩
 rw[hg,hgc]at J0
 rw[hg,hgc]
 clear hb2 k2 hY hwW hgl hg hgc RP HB1 hW
 go_loopw [14] (fun iv wr=>∃k:Nat,k≤len∧iv=.int .i64 k∧Hid (NwInv w wr g gc len X k)) (fun iv _=>len-(intOf iv).toNat)
 case atStart=>exact⟨0,Nat.zero_le _,rfl,J0⟩
 case round =>
  obtain⟨k,hk,rfl,J⟩:=hrel;by_cases hlt:k<len
  ·have hki:(k:Int)<(len:Int):=by omega
   rcases HX.out with h0|⟨b,off,rfl,hb,hx⟩;·omega
   have x0:wr.cell? ⟨b,off+k,none⟩=some (.int .i64 (X k)):=by rw[J.out.below.cell hb];exact hx k hlt
   obtain⟨_,c1⟩:=two_at J.out.cc;obtain⟨⟨u0,r0⟩,f0⟩:=J.out.row.room (i:=k*3) (by omega);obtain⟨⟨u1,r1⟩,f1⟩:=J.out.row.room (i:=k*3+1) (by omega);obtain⟨⟨u2,r2⟩,f2⟩:=J.out.row.room (i:=k*3+2) (by omega);clear hx;go_wp2;go_roundw
   case rel=>exact⟨k+1,by omega,by go_num,J.out.put hlt⟩
   case measure=>simp only[intOf];omega
  have hke:len=k:=by omega
  subst hke;obtain⟨c0,c1⟩:=two_at J.out.cc;have CK:=hid (msCheck (.slice none 0 0) 0 (fun _=>.int .i64 0) noB _ len _ _ (freshP X) wr ⟨none,0,rfl,⟨Nat.le_refl _,by omega⟩,Or.inl rfl⟩ (J.out.peers (by omega)));unfold meshV at CK;obtain⟨er,her⟩:∃c,newE len X=c:=⟨_,rfl⟩;rw[show peersE 0 noB len (freshP X)=er from her]at CK;have HEr:=hid her;clear her;go_wp2_with fail
  refine Calls.mono CK.out ?_;rintro e w2 ⟨rfl,hb2⟩;have J2:=hid (J.out.up hb2);clear c0 c1 hb2 CK;obtain⟨c0,c1⟩:=two_at J2.out.cc;obtain⟨r0,r1⟩:=two_at J2.out.out;have f0:=frozen_at (i:=0) J2.out.out;have f1:=frozen_at (i:=1) J2.out.out;by_cases h0:er=0
  ·subst h0
   go_wp2;refine ret2 (put2_whole J2.out.out _ _) Tryz.underlying27 ?_;obtain⟨g1,g2,g3⟩:=J2.out.ge;rw[HEr.out];refine⟨put2_below J2.out.below (by omega),_,_,0,len,fun _=>.int .i64 0,_,_,rfl,rfl,rfl,⟨none,0,rfl,⟨Nat.le_refl _,by omega⟩,Or.inl rfl⟩,ps_put2 J2.out.out (J2.out.peers (by omega)) _ _,⟨?_,fun k hk=>⟨NewV.none _ _ _ _,fun i hi=>absurd hi (Nat.not_lt_zero _)⟩⟩,fun s hs=>⟨Or.inl rfl,fun j hj=>absurd hj (Nat.not_lt_zero _)⟩⟩;exact((J2.out.row.newV (by omega)).set _ _).set _ _
  have hcb:(er != 0)=true:=by simpa using h0
  have H0:=hid h0;clear h0;go_wp2;refine ret2 (put2_whole J2.out.out _ _) Tryz.underlying27 ?_;rw[HEr.out];exact meshN_none (put2_below J2.out.below (Nat.le_refl _)) H0.out
end Go.Proofs.YtajmnlhfnhbleaaGreat
