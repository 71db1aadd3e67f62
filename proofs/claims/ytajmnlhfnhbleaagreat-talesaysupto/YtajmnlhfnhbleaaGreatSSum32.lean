/- Several texts of one proof, in their order. -/
import Derived.Test.YtajmnlhfnhbleaaGreatSSum31
namespace Go.Proofs.YtajmnlhfnhbleaaGreat
open Go.RowKit Go.Maps CurveMath
set_option linter.unusedVariables false
set_option maxHeartbeats 4000000
set_option maxRecDepth 10000
theorem msCheck(vb:Value)(n:Nat)(PV:Nat→Value)(b:Bk)(vl:Value)(np:Nat)(KV:Nat→Value)(UV:Nat→Nat→Value)(P:Ps)(w:World)(hv:VeSl w w.heap.size vb n PV b)(hl:PsSl w w.heap.size vl np KV UV P):
 Calls Tryz.prog 17 #[meshV vb vl] w fun e w'=>e=.returned (.int .i64 (peersE n b np P))∧Below w.heap.size w w':=by
 have hb:=below_alloc w (.cells #[vb,vl] 27)
 have CK:=hid (plCheck _ n PV b _ np KV UV P _ (hv.up hb) (hl.up hb))
 have HB:=hid hb
 obtain⟨c0,c1⟩:=two_at (heap_alloc_new w (.cells #[vb,vl] 27))
 obtain⟨ad,cap,rfl,_,_⟩:=hv
 obtain⟨al,cl,rfl,_,_⟩:=hl
 unfold bookV at CK
 unfold meshV
 clear hb
 go_enter Tryz.func17,Tryz.ntmps17
 go_wp2_with fail
 refine Calls.mono CK.out ?_
 rintro e w2 ⟨rfl,hb2⟩
 have HB2:=hid (HB.out.trans (hb2.mono HB.out.size))
 clear hb2
 go_wp2
 go_ret
 exact⟨rfl,HB2.out⟩
theorem msEqualPeers{w:World}{v1 v2:Value}{n m:Nat}{PV QV:Nat→Value}{UV WV:Nat→Nat→Value}{P Q:Ps}(h1:PsSl w w.heap.size v1 n PV UV P)(h2:PsSl w w.heap.size v2 m QV WV Q):
 Calls Tryz.prog 49 #[v1,v2,.func (.func 19) #[] #[]] w fun e w'=>e=.returned (.bool (peersB n m P Q))∧Below w.heap.size w w':=by
 obtain⟨a1,c1,rfl,⟨hc1,hr1⟩,hx⟩:=h1
 obtain⟨a2,c2,rfl,⟨hc2,hr2⟩,hy⟩:=h2
 obtain⟨ans,hans⟩:∃ans,peersB n m P Q=ans:=⟨_,rfl⟩
 rw[hans]
 unfold peersB at hans
 by_cases hnm:n=m
 ·subst hnm
  rw[decide_eq_true rfl,Bool.true_and]at hans;have HA:=hid hans;have HX:=hid hx;have HY:=hid hy;clear hx hy hans;go_enter Tryz.func49,Tryz.ntmps49;go_wp2;go_loopw [17] (fun iv wr=>∃k:Nat,k≤n∧iv=.int .i64 k∧Hid (Below w.heap.size w wr)∧Hid (restP P Q (n-k) k=ans)) (fun iv _=>n-(intOf iv).toNat)
  case atStart=>exact⟨0,Nat.zero_le _,rfl,Below.refl _ _,HA⟩
  case round =>
   obtain⟨k,hk,rfl,HB,HS⟩:=hrel;by_cases hlt:k<n
   ·have hki:(k:Int)<(n:Int):=by omega
    rcases HX.out with h0|⟨b1,o1,rfl,hb1,hx⟩;·omega
    rcases HY.out with h0|⟨b2,o2,rfl,hb2,hy⟩;·omega
    have hstep:=HS.out;rw[show n-k=(n-(k+1))+1 by omega]at hstep;simp only[restP]at hstep;have HSt:=hid hstep;obtain⟨x0,x1,x2,x3⟩:=hx k hlt;obtain⟨y0,y1,y2,y3⟩:=hy k hlt;have HI1:Hid (∀w',Below w.heap.size w w'→KeSl w' w'.heap.size (PV k) (P.m k) (UV k) (P.t k)):=fun w' hb=>x3.up hb;have HI2:Hid (∀w',Below w.heap.size w w'→KeSl w' w'.heap.size (QV k) (Q.m k) (WV k) (Q.t k)):=fun w' hb=>y3.up hb;obtain⟨ap,cp,hpe,_,_⟩:=x3;obtain⟨aq,cq,hqe,_,_⟩:=y3;rw[hpe]at x2 HI1;rw[hqe]at y2 HI2;have g0:wr.cell? ⟨b1,o1+k*3,none⟩=some (.bool (P.th k)):=by rw[HB.out.cell hb1];exact x0
    have g1:wr.cell? ⟨b1,o1+k*3+1,none⟩=some (.int .i64 (P.rm k)):=by rw[HB.out.cell hb1];exact x1
    have g2:wr.cell? ⟨b1,o1+k*3+2,none⟩=some (.slice ap (P.m k) cp):=by rw[HB.out.cell hb1];exact x2
    have e0:wr.cell? ⟨b2,o2+k*3,none⟩=some (.bool (Q.th k)):=by rw[HB.out.cell hb2];exact y0
    have e1:wr.cell? ⟨b2,o2+k*3+1,none⟩=some (.int .i64 (Q.rm k)):=by rw[HB.out.cell hb2];exact y1
    have e2:wr.cell? ⟨b2,o2+k*3+2,none⟩=some (.slice aq (Q.m k) cq):=by rw[HB.out.cell hb2];exact y2
    have l1:b1<wr.heap.size:=cell_lt g0;have l2:b2<wr.heap.size:=cell_lt e0;clear x0 x1 x2 y0 y1 y2 hpe hqe hx hy hstep;go_wp2_with fail
    have hbb:Below w.heap.size w ((wr.alloc (.cells #[.bool (P.th k),.int .i64 (P.rm k),.slice ap (P.m k) cp] 41)).alloc (.cells #[.bool (Q.th k),.int .i64 (Q.rm k),.slice aq (Q.m k) cq] 41)) :=
     (HB.out.alloc HB.out.size _).alloc (by simp;exact Nat.le_succ_of_le HB.out.size) _
    have CS:=hid (peSame (P.th k) (Q.th k) (P.rm k) (Q.rm k) (HI1.out _ hbb) (HI2.out _ hbb));unfold peerV at CS;refine Calls.mono CS.out ?_;rintro e w2 ⟨rfl,hb3⟩;have HB3:Hid (Below w.heap.size w w2):=hbb.trans (hb3.mono hbb.size);clear hb3 hbb;rw[show peerB (P.th k) (Q.th k) (P.rm k) (Q.rm k) (P.m k) (Q.m k) (P.t k) (Q.t k)=prB P Q k from rfl];clear CS;cases hs:prB P Q k with
    |true =>
     have hn:=HSt.out;rw[hs,Bool.true_and]at hn;have HNx:=hid hn;clear hn;go_wp2;go_roundw
     case rel=>exact⟨k+1,by omega,by go_num,HB3,HNx⟩
     case measure=>simp only[intOf];omega
    |false =>
     have hn:=HSt.out;rw[hs,Bool.false_and]at hn;have HNx:=hid hn;clear hn;go_wp2;go_ret;exact⟨by rw[←HNx.out];rfl,HB3.out⟩
   have hke:n=k:=by omega
   subst hke;have hst:=HS.out;rw[Nat.sub_self]at hst;have HFin:Hid (true=ans):=hst;clear hst;go_wp2;go_ret;exact⟨by rw[←HFin.out];rfl,HB.out⟩
 ·rw[decide_eq_false hnm,Bool.false_and]at hans
  have HA:=hid hans;have hni:¬(n:Int)=(m:Int):=by omega
  clear hans;go_enter Tryz.func49,Tryz.ntmps49;go_wp2;go_ret;exact⟨by rw[←HA.out];rfl,Below.refl _ _⟩
theorem msSame{w:World}{vb vl vb' vl':Value}{n n' np np':Nat}{PV PV' KV KV':Nat→Value}{UV UV':Nat→Nat→Value}{b b':Bk}{P P':Ps}(hv:VeSl w w.heap.size vb n PV b)(hl:PsSl w w.heap.size vl np KV UV P)(hv':VeSl w w.heap.size vb' n' PV' b')(hl':PsSl w w.heap.size vl' np' KV' UV' P'):
 Calls Tryz.prog 21 #[meshV vb vl,meshV vb' vl'] w fun e w'=>e=.returned (.bool (meshB n n' b b' np np' P P'))∧Below w.heap.size w w':=by
 have hb:=((Below.refl w.heap.size w).alloc (Nat.le_refl _) (.cells #[vb,vl] 27)).alloc (by simp) (.cells #[vb',vl'] 27)
 have k1:=heap_two_old w (.cells #[vb,vl] 27) (.cells #[vb',vl'] 27)
 have k2:=heap_two_new w (.cells #[vb,vl] 27) (.cells #[vb',vl'] 27)
 obtain⟨U,hU⟩:∃u,(w.alloc (.cells #[vb,vl] 27)).alloc (.cells #[vb',vl'] 27)=u:=⟨_,rfl⟩
 rw[hU]at hb k1 k2
 have CS:=hid (bkSame (hv.up hb) (hv'.up hb))
 have HE:Hid (∀u,Below U.heap.size U u→Calls Tryz.prog _ #[vl,vl',.func (.func 19) #[] #[]] u fun e u'=>e=.returned (.bool (peersB np np' P P'))∧Below u.heap.size u u'):=fun u hbu=>msEqualPeers ((hl.up hb).up hbu) ((hl'.up hb).up hbu)
 have HB:=hid hb
 have K1:=hid k1
 have K2:=hid k2
 obtain⟨c1,c2⟩:=two_at k1
 obtain⟨c3,c4⟩:=two_at k2
 obtain⟨ad,cap,rfl,_,_⟩:=hv
 obtain⟨al,cl,rfl,_,_⟩:=hl
 obtain⟨ad',cap',rfl,_,_⟩:=hv'
 obtain⟨al',cl',rfl,_,_⟩:=hl'
 clear hb k1 k2
 unfold meshB
 unfold bookV at CS
 unfold meshV
 cases hs:bookB n n' b b' with
 |false =>
  rw[hs]at CS;rw[Bool.false_and];clear hs;go_enter Tryz.func21,Tryz.ntmps21;go_wp2_with fail
  refine Calls.mono CS.out ?_;rintro e w2 ⟨rfl,hb2⟩;have HB2:=hid (HB.out.trans (hb2.mono HB.out.size));clear hb2;go_wp2;go_ret;exact⟨rfl,HB2.out⟩
 |true =>
  rw[hs]at CS;rw[Bool.true_and];clear hs;go_enter Tryz.func21,Tryz.ntmps21;go_wp2_with fail
  refine Calls.mono CS.out ?_;rintro e w2 ⟨rfl,hb2⟩;have HB2:=hid (HB.out.trans (hb2.mono HB.out.size));have HE2:=hid (HE.out w2 hb2);obtain⟨c1,c2⟩:=two_at (stayB K1.out hb2);obtain⟨c3,c4⟩:=two_at (stayB K2.out hb2);clear hb2;go_wp2_with fail
  refine Calls.mono HE2.out ?_;rintro e w3 ⟨rfl,hb3⟩;have HB3:=hid (HB2.out.trans (hb3.mono HB2.out.size));clear hb3;go_wp2;go_ret;exact⟨rfl,HB3.out⟩
theorem msRestore(vb:Value)(n:Nat)(PV:Nat→Value)(b:Bk)(vl:Value)(np:Nat)(KV:Nat→Value)(UV:Nat→Nat→Value)(P:Ps)(k:Int)(w:World)(hv:VeSl w w.heap.size vb n PV b)(hl:PsSl w w.heap.size vl np KV UV P):
 Calls Tryz.prog 33 #[meshV vb vl,.int .i64 k] w (RestPost w n b np P k):=by
 have hb:=below_alloc w (.cells #[vb,vl] 27)
 have CK:=hid (msCheck _ n PV b _ np KV UV P _ (hv.up hb) (hl.up hb))
 have HB:=hid hb
 have HK:=hid (heap_alloc_new w (.cells #[vb,vl] 27))
 have HV:=hid hv
 have HL:=hid hl
 obtain⟨ad,cap,rfl,_,hx⟩:=hv
 obtain⟨al,cl,rfl,_,_⟩:=hl
 obtain⟨m0,m1⟩:=two_at HK.out
 obtain⟨c,hc⟩:∃c,peersE n b np P=c:=⟨_,rfl⟩
 rw[hc]at CK
 have HC:=hid hc
 have HX:=hid hx
 clear hb hc hx
 unfold meshV at CK
 unfold meshV
 go_enter Tryz.func33,Tryz.ntmps33
 go_wp2_with fail
 refine Calls.mono CK.out ?_
 rintro e W ⟨rfl,hbW⟩
 have BW:=hid (HB.out.trans (hbW.mono HB.out.size))
 clear m0 m1
 obtain⟨c0,c1⟩:=two_at (stayB HK.out hbW)
 clear hbW CK
 by_cases h0:c=0
 ·subst h0
  have hR:=meshR_of HC.out;have HR:=hid hR;by_cases hk:0≤k∧k<(n:Int)
  ·have hver:verM n b np P k=0:=by unfold verM;rw[if_pos HC.out,if_pos hk]
   have HVer:=hid hver;obtain⟨q,rfl⟩:∃q:Nat,k=q:=⟨k.toNat,by omega⟩;have hqn:q<n:=by omega
   rcases HX.out with h0|⟨bv,ov,rfl,hbv,hxv⟩;·omega
   obtain⟨_,v1,v2,v3,_⟩:=hxv q hqn;have q1:W.cell? ⟨bv,ov+q*4+1,none⟩=some (.int .i64 (b.nd q)):=by rw[BW.out.cell hbv];exact v1
   have q2:W.cell? ⟨bv,ov+q*4+2,none⟩=some (.int .i64 (b.of q)):=by rw[BW.out.cell hbv];exact v2
   have q3:W.cell? ⟨bv,ov+q*4+3,none⟩=some (.int .i64 (b.sz q)):=by rw[BW.out.cell hbv];exact v3
   have hne:Nonempty (Of (Below W.heap.size W)):=⟨⟨W,Below.refl _ _⟩⟩;have F0:∀u:Of (Below W.heap.size W),u.val.cell? ⟨w.heap.size,0,none⟩=some (.slice (some ⟨bv,ov,none⟩) n cap):=fun u=>by rw[u.is.cell (cell_lt c0)];exact c0
   have F1:∀u:Of (Below W.heap.size W),u.val.cell? ⟨w.heap.size,1,none⟩=some (.slice al np cl):=fun u=>by rw[u.is.cell (cell_lt c1)];exact c1
   have F2:∀u:Of (Below W.heap.size W),u.val.cell? ⟨bv,ov+q*4+1,none⟩=some (.int .i64 (b.nd q)):=fun u=>by rw[u.is.cell (cell_lt q1)];exact q1
   have F3:∀u:Of (Below W.heap.size W),u.val.cell? ⟨bv,ov+q*4+2,none⟩=some (.int .i64 (b.of q)):=fun u=>by rw[u.is.cell (cell_lt q2)];exact q2
   have F4:∀u:Of (Below W.heap.size W),u.val.cell? ⟨bv,ov+q*4+3,none⟩=some (.int .i64 (b.sz q)):=fun u=>by rw[u.is.cell (cell_lt q3)];exact q3
   have CT:Hid (∀u,Below W.heap.size W u→Calls Tryz.prog 73 #[meshV (.slice (some ⟨bv,ov,none⟩) n cap) (.slice al np cl),.int .i64 (q:Int)] u fun e w'=>Below u.heap.size u w'∧∃vo,e=.returned vo∧ShSl w' w'.heap.size vo (thereL P q np).length (nL P (thereL P q np)) (vaL UV (thereL P q np)) (lL P (thereL P q np)) (xL P (thereL P q np))):=fun u hbu =>
    msPresent _ n b _ np KV UV P q u ⟨_,_,_,rfl⟩ (HL.out.up (BW.out.trans (hbu.mono BW.out.size))) HR.out
   unfold meshV at CT;have hki:(q:Int)<(n:Int):=by omega
   have hk0:¬(q:Int)<0:=by omega
   have hk1:¬(n:Int)≤(q:Int):=by omega
   clear hR hxv v1 v2 v3 q1 q2 q3 hver hk;go_wp2_with fail
   have HD1:Hid (Below W.heap.size W W.drew):=drew_below W;refine region_mixed (Below W.heap.size W) [([0,1,2,3,4,5,6,7,8],9),([],10)] [11,12,13,14,15,16] (by kernel_rfl) (by kernel_rfl) HD1.out ?_;clear c0 c1;refine mixO_cons ?_;repeat(go_big_quiet_step (fail))
   refine wpQuiet_nil ?_;intro K hK;go_wp2_with fail
   refine Calls.mono (CT.out _ HD1.out) ?_;rintro e W5 ⟨hb5,vo,rfl,hsh0⟩;have hsh:=hsh0.agree fun j hj=>tT_eq P (thereL P (q:Int) np) hj;clear hsh0;have H5:Hid (Below W.heap.size W W5):=HD1.out.trans (hb5.mono HD1.out.size);have CE:=hid (most_any (b.nd q) (b.of q) (b.sz q) vo _ _ _ _ _ W5 hsh);unfold planV at CE;obtain⟨ao,co,rfl,_,_⟩:=hsh;clear hb5;go_wp2;refine⟨rfl,hK _ _ H5.out ?_⟩;clear hK K;refine mixO_cons (lq:=[]) ?_ rfl;refine wpQuiet_nil ?_;intro K hK;go_wp2_with fail
   refine Calls.mono CE.out ?_;rintro e W6 hM;have B5:=hid (BW.out.trans (H5.out.mono BW.out.size));have HRe:=hid (rest_of (n:=n) (b:=b) (np:=np) (P:=P) (k:=(q:Int)) B5.out HVer.out (by rw[Int.toNat_natCast];exact hM));obtain⟨hb6,r,bb,m,rfl,_,hr,hbb⟩:=hM;have H6:Hid (Below W.heap.size W W6):=H5.out.trans (hb6.mono H5.out.size);obtain⟨ar,cr,rfl,_,_⟩:=hr;obtain⟨ab,cb,rfl,_,_⟩:=hbb;clear hb6;go_wp2;refine⟨rfl,hK _ _ H6.out ?_⟩;clear hK K;refine mixO_nil ?_;repeat(go_big_quiet_step (fail))
   refine wpQuiet_nil ?_;clear F0 F1 F2 F3 F4 hne;go_wp2;go_ret3
   exact HRe.out
  have hver:verM n b np P k=4:=by unfold verM;rw[if_pos HC.out,if_neg hk]
  have HVer:=hid hver;clear hver;by_cases hk0:k<0
  ·clear hk
   go_wp2;go_ret3
   exact rest_err BW.out HVer.out (by decide)
  have hk1:(n:Int)≤k:=by omega
  clear hk;go_wp2;go_ret3
  exact rest_err BW.out HVer.out (by decide)
 ·have hcb:(c != 0)=true:=by simpa using h0
  have hver:verM n b np P k=c:=by unfold verM;rw[HC.out,if_neg h0]
  have H0:=hid h0;have HVer:=hid hver;clear h0 hver;go_wp2;go_ret3
  exact rest_err BW.out HVer.out H0.out
structure NwInv(w wr:World)(g gc len:Nat)(X:Nat→Int)(k:Nat):Prop where
 below:Below w.heap.size w wr
 out:wr.heap[w.heap.size]?=some (.cells #[.slice none 0 0,.slice none 0 0] 27 (0,0))
 cc:wr.heap[gc]?=some (.cells #[.slice none 0 0,.slice (some ⟨g,0,none⟩) len len] 27 (0,0))
 row:CRow wr g 41 (len*3) (k*3) (cellP (fun _=>.slice none 0 0) (freshP X))
 ge:w.heap.size<g∧w.heap.size<gc∧g≠gc
theorem NwInv.up{w wr w':World}{g gc len k:Nat}{X:Nat→Int}(h:NwInv w wr g gc len X k)(hb:Below wr.heap.size wr w'):NwInv w w' g gc len X k :=
 ⟨h.below.trans (hb.mono h.below.size),stayB h.out hb,stayB h.cc hb,h.row.up hb,h.ge⟩
theorem NwInv.put{w wr:World}{g gc len k:Nat}{X:Nat→Int}(h:NwInv w wr g gc len X k)(hk:k<len):NwInv w (((wr.setCell ⟨g,k*3,none⟩ (.bool true)).setCell ⟨g,k*3+1,none⟩ (.int .i64 (X k))).setCell ⟨g,k*3+2,none⟩ (.slice none 0 0)) g gc len X (k+1):=by
 obtain⟨g1,g2,g3⟩:=h.ge;obtain⟨e0,e1,e2⟩:=cellP_at (KV:=fun _=>Value.slice none 0 0) (P:=freshP X) (k:=k);refine⟨((h.below.setCell (p:=⟨g,k*3,none⟩) (by show w.heap.size≤g;omega) _).setCell (p:=⟨g,k*3+1,none⟩) (by show w.heap.size≤g;omega) _).setCell (p:=⟨g,k*3+2,none⟩) (by show w.heap.size≤g;omega) _,?_,?_,h.row.three (by omega) e0.symm e1.symm e2.symm,h.ge⟩;·rw[Below.heap_setCell _ _ _ _ (by show w.heap.size≠g;omega),Below.heap_setCell _ _ _ _ (by show w.heap.size≠g;omega),Below.heap_setCell _ _ _ _ (by show w.heap.size≠g;omega)];exact h.out
 rw[Below.heap_setCell _ _ _ _ (by show gc≠g;omega),Below.heap_setCell _ _ _ _ (by show gc≠g;omega),Below.heap_setCell _ _ _ _ (by show gc≠g;omega)];exact h.cc
theorem NwInv.peers{w wr:World}{g gc len:Nat}{X:Nat→Int}(h:NwInv w wr g gc len X len)(hr:len*40≤140737488351232):PsSl wr wr.heap.size (.slice (some ⟨g,0,none⟩) len len) len (fun _=>.slice none 0 0) (fun _ _=>.int .i64 0) (freshP X) :=
 h.row.rowP.kel (Nat.le_refl _) hr fun k hk=>kel_nil _ _ _ _
theorem msNew(vr:Value)(len:Nat)(X:Nat→Int)(w:World)(h:IntSl w w.heap.size vr len X)(hlen:len≤1048576):
 Calls Tryz.prog 36 #[vr] w (MeshPostN w (newE len X) 0 noB len (freshP X)):=by
 have HI:=hid h
 obtain⟨ar,cr,rfl,⟨_,hbig⟩,hx⟩:=h
 have HX:=hid hx
 obtain⟨ip,hip,hpz0,hpz1,hpz2⟩:=info_parts Tryz.infoPeer
 have hb0:=below_alloc w (.cells #[.slice none 0 0,.slice none 0 0] 27)
 have k0:=heap_alloc_new w (.cells #[.slice none 0 0,.slice none 0 0] 27)
 obtain⟨W,hW⟩:∃u,w.alloc (.cells #[.slice none 0 0,.slice none 0 0] 27)=u:=⟨_,rfl⟩
 rw[hW]at hb0 k0
 have B0:=hid hb0
 have K0:=hid k0
 clear hx hb0 k0
 go_enter Tryz.func36,Tryz.ntmps36
 go_wp2_with(at_make;go_must(refine wpList_make_full _ rfl (.tmp 9) (.tmp 9) 25 rfl _ 41 ip (.agg #[.bool false,.int .i64 0,.slice none 0 0]) 3 Tryz.underlying25 hip hpz0 hpz1 _ _ _ _ len rfl rfl rfl rfl (by rw[hpz2];omega) (by unfold maxLen;omega) (Nat.le_refl _) ?_;intro w1 ho1 hg1;have hb:=below_of_grown hg1;have RP:=hid (CRow.made ho1 (cellP (fun _=>.slice none 0 0) (freshP X)));have HB1:=hid hb;clear ho1 hg1 hb))
 have hb2:=below_alloc w1 (.cells #[.slice none 0 0,.slice (some ⟨W.heap.size,0,none⟩) len len] 27)
 have k2:=heap_alloc_new w1 (.cells #[.slice none 0 0,.slice (some ⟨W.heap.size,0,none⟩) len len] 27)
 obtain⟨Y,hY⟩:∃u,World.alloc w1 (.cells #[.slice none 0 0,.slice (some ⟨W.heap.size,0,none⟩) len len] 27)=u:=⟨_,rfl⟩
 rw[hY]at hb2 k2 ⊢
 have hwW:w.heap.size<W.heap.size:=(Array.getElem?_eq_some_iff.1 K0.out).1
 have hgl:=RP.out.lt
 have J0:Hid (NwInv w Y W.heap.size w1.heap.size len X 0):=by
  have h12:=HB1.out.trans (hb2.mono HB1.out.size);exact⟨B0.out.trans (h12.mono B0.out.size),stayB K0.out h12,k2,by have:=RP.out.up hb2;rw[Nat.zero_mul];exact this,by omega,by omega,by omega⟩
 obtain⟨g,hg⟩:∃q,W.heap.size=q:=⟨_,rfl⟩
 obtain⟨gc,hgc⟩:∃q,w1.heap.size=q:=⟨_,rfl⟩
 rw[hg,hgc]at J0
 rw[hg,hgc]
 clear hb2 k2 hY hwW hgl hg hgc RP HB1 hW
 go_loopw [14] (fun iv wr=>∃k:Nat,k≤len∧iv=.int .i64 k∧Hid (NwInv w wr g gc len X k)) (fun iv _=>len-(intOf iv).toNat)
 case atStart=>exact⟨0,Nat.zero_le _,rfl,J0⟩
 case round =>
  obtain⟨k,hk,rfl,J⟩:=hrel;by_cases hlt:k<len
  ·have hki:(k:Int)<(len:Int):=by omega
   rcases HX.out with h0|⟨b,off,rfl,hb,hx⟩;·omega
   have x0:wr.cell? ⟨b,off+k,none⟩=some (.int .i64 (X k)):=by rw[J.out.below.cell hb];exact hx k hlt
   obtain⟨_,c1⟩:=two_at J.out.cc;obtain⟨⟨u0,r0⟩,f0⟩:=J.out.row.room (i:=k*3) (by omega);obtain⟨⟨u1,r1⟩,f1⟩:=J.out.row.room (i:=k*3+1) (by omega);obtain⟨⟨u2,r2⟩,f2⟩:=J.out.row.room (i:=k*3+2) (by omega);clear hx;go_wp2;go_roundw
   case rel=>exact⟨k+1,by omega,by go_num,J.out.put hlt⟩
   case measure=>simp only[intOf];omega
  have hke:len=k:=by omega
  subst hke;obtain⟨c0,c1⟩:=two_at J.out.cc;have CK:=hid (msCheck (.slice none 0 0) 0 (fun _=>.int .i64 0) noB _ len _ _ (freshP X) wr ⟨none,0,rfl,⟨Nat.le_refl _,by omega⟩,Or.inl rfl⟩ (J.out.peers (by omega)));unfold meshV at CK;obtain⟨er,her⟩:∃c,newE len X=c:=⟨_,rfl⟩;rw[show peersE 0 noB len (freshP X)=er from her]at CK;have HEr:=hid her;clear her;go_wp2_with fail
  refine Calls.mono CK.out ?_;rintro e w2 ⟨rfl,hb2⟩;have J2:=hid (J.out.up hb2);clear c0 c1 hb2 CK;obtain⟨c0,c1⟩:=two_at J2.out.cc;obtain⟨r0,r1⟩:=two_at J2.out.out;have f0:=frozen_at (i:=0) J2.out.out;have f1:=frozen_at (i:=1) J2.out.out;by_cases h0:er=0
  ·subst h0
   go_wp2;refine ret2 (put2_whole J2.out.out _ _) Tryz.underlying27 ?_;obtain⟨g1,g2,g3⟩:=J2.out.ge;rw[HEr.out];refine⟨put2_below J2.out.below (by omega),_,_,0,len,fun _=>.int .i64 0,_,_,rfl,rfl,rfl,⟨none,0,rfl,⟨Nat.le_refl _,by omega⟩,Or.inl rfl⟩,ps_put2 J2.out.out (J2.out.peers (by omega)) _ _,⟨?_,fun k hk=>⟨NewV.none _ _ _ _,fun i hi=>absurd hi (Nat.not_lt_zero _)⟩⟩,fun s hs=>⟨Or.inl rfl,fun j hj=>absurd hj (Nat.not_lt_zero _)⟩⟩;exact((J2.out.row.newV (by omega)).set _ _).set _ _
  have hcb:(er != 0)=true:=by simpa using h0
  have H0:=hid h0;clear h0;go_wp2;refine ret2 (put2_whole J2.out.out _ _) Tryz.underlying27 ?_;rw[HEr.out];exact meshN_none (put2_below J2.out.below (Nat.le_refl _)) H0.out
theorem IntSl.grownA{w w':World}{B g:Nat}{v:Value}{n:Nat}{X:Nat→Int}(h:IntSl w B v n X)(ha:Above (g+1) v)(hg:w.grownBy w' (some g)):IntSl w' B v n X:=by
 obtain⟨ad,cap,rfl,h0,h2⟩:=h;refine⟨ad,cap,rfl,h0,?_⟩;rcases h2 with h2|⟨b,off,rfl,h4,h5⟩;·exact Or.inl h2
 have hb:g+1≤b:=ha _ _ _ rfl;exact Or.inr ⟨b,off,rfl,h4,fun j hj=>hg.cell (h5 j hj) (by intro e;injection e with e;have e2:b=g:=e;omega)⟩
def AddPost'(w:World)(n:Nat)(b b':Bk)(e:Ending)(w':World):Prop :=
 Below w.heap.size w w'∧∃(r:Value) (m:Nat) (PV':Nat→Value),e=.returned (.tuple #[bookV r,.int .i64 (addE n b b')])∧m=(if addE n b b'=0 then n+1 else 0)∧VeSl w' w'.heap.size r m PV' b'
theorem add_err{w w5:World}{n:Nat}{b b':Bk}{c:Int}{u:Value}(he:addE n b b'=c)(hc:c≠0)(hb:Below w.heap.size w w5):AddPost' w n b b' (.returned (.tuple #[.agg #[.slice none 0 0],.int .i64 c])) (w5.setCell ⟨w.heap.size+2,0,none⟩ u):=by
 refine⟨hb.setCell (p:=⟨w.heap.size+2,0,none⟩) (by show w.heap.size≤w.heap.size+2;omega) _,.slice none 0 0,0,fun _=>undef,by rw[he];rfl,by rw[he,if_neg hc],none,0,rfl,⟨Nat.le_refl _,by omega⟩,Or.inl rfl⟩
structure AdInv(w u:World)(n:Nat)(b:Bk)(gm:Nat)(v:Value)(PV:Nat→Value):Prop where
 below:Below w.heap.size w u
 own:u.ownsRow w.heap.size 61 4 v n (flatV n PV b)
 lists:∀j,j<n→IntSl u u.heap.size (PV j) (b.PL j) (b.PX j)∧Above (w.heap.size+3) (PV j)
 book:u.heap[gm]?=some (.cells #[v] 24 (0,0))
 res:u.heap[w.heap.size+2]?=some (.cells #[.slice none 0 0] 24 (0,0))
theorem AdInv.up{w u u':World}{n:Nat}{b:Bk}{gm:Nat}{v:Value}{PV:Nat→Value}(h:AdInv w u n b gm v PV)(hb:Below u.heap.size u u'):AdInv w u' n b gm v PV :=
 ⟨h.below.trans (hb.mono h.below.size),owns_below h.own hb,fun j hj=>⟨(h.lists j hj).1.up hb,(h.lists j hj).2⟩,by rw[hb.block _ (Array.getElem?_eq_some_iff.1 h.book).1];exact h.book,by rw[hb.block _ (Array.getElem?_eq_some_iff.1 h.res).1];exact h.res⟩
theorem AdInv.ok{w u:World}{n:Nat}{b b':Bk}{gm:Nat}{v:Value}{PV:Nat→Value}(h:AdInv w u (n+1) b' gm v PV)(he:addE n b b'=0)(hn:(n+1)*48≤140737488351232):AddPost' w n b b' (.returned (.tuple #[.agg #[v],.int .i64 0])) (u.setCell ⟨w.heap.size+2,0,none⟩ v):=by
 refine⟨h.below.setCell (p:=⟨w.heap.size+2,0,none⟩) (by show w.heap.size≤w.heap.size+2;omega) _,v,n+1,PV,by rw[he];rfl,by rw[he,if_pos rfl],?_⟩;refine rowV_shl (owns_set_other h.own (owns_ne h.own h.res (by decide)) _) hn fun j hj=>?_;have:=(h.lists j hj).1.set (bs:=w.heap.size+2) (h.lists j hj).2 0 v;simpa[World.setCell]using this
theorem AdInv.vsl{w u:World}{n:Nat}{b:Bk}{gm:Nat}{v:Value}{PV:Nat→Value}(h:AdInv w u n b gm v PV)(hn:n*48≤140737488351232):VeSl u u.heap.size v n PV b :=
 rowV_shl h.own hn fun j hj=>(h.lists j hj).1
theorem ad_made{w w1 w2 w4 w6:World}{n lp:Nat}{b:Bk}{X:Nat→Int}{nd of sz:Int}{g:Nat}{PV:Nat→Value}{pv v9:Value}{o:Obj}
 (hB:Below w.heap.size w w1) (hres:w1.heap[w.heap.size+2]?=some (.cells #[.slice none 0 0] 24 (0,0)))
 (hwh:OwnV w1 w2 (.slice (some ⟨g,0,none⟩) n n) n PV b) (hls:∀j,j<n→IntSl w2 w2.heap.size (PV j) (b.PL j) (b.PX j)∧Above (g+1) (PV j))
 (h4:Below (w2.heap.size+1) (w2.alloc (.cells #[.slice (some ⟨g,0,none⟩) n n] 24)) w4) (hpv:IntSl w4 w4.heap.size pv lp X) (hap:Above (w2.heap.size+1) pv)
 (ho:w6.ownsRow w1.heap.size 61 4 v9 (n+1) (flatV n PV b++[pv,.int .i64 nd,.int .i64 of,.int .i64 sz])) (hg:(w4.alloc o).grownBy w6 (some g)) :
 AdInv w (w6.setCell ⟨w2.heap.size,0,none⟩ v9) (n+1) (snocB n b lp X nd of sz) w2.heap.size v9 (snocP n PV pv):=by
 have hg1:w1.heap.size≤g∧g<w2.heap.size:=hwh.1.lt g rfl
 have hr1:w.heap.size+2<w1.heap.size:=(Array.getElem?_eq_some_iff.1 hres).1
 have hb24:Below w2.heap.size w2 w4:=(below_alloc w2 _).trans (h4.mono (by omega))
 have hb25:Below w2.heap.size w2 (w4.alloc o):=hb24.alloc hb24.size _
 have hb15:Below w1.heap.size w1 (w4.alloc o):=hwh.2.trans (hb25.mono hwh.2.size)
 have hb16:Below w1.heap.size w1 w6:=hb15.grown hg hb15.size (fun k hk=>by cases hk;exact hg1.1)
 have hsz6:w2.heap.size<w6.heap.size:=by
  have h1:=h4.size;have h2:=hg.size;simp at h1 h2;omega
 have hm6:w6.heap[w2.heap.size]?=some (.cells #[.slice (some ⟨g,0,none⟩) n n] 24 (0,0)):=by
  have e1:w4.heap[w2.heap.size]?=some (.cells #[.slice (some ⟨g,0,none⟩) n n] 24 (0,0)):=by rw[h4.block _ (Nat.lt_succ_self _)];exact heap_alloc_new _ _
  have l4:=(Array.getElem?_eq_some_iff.1 e1).1;rw[hg.block _ (by simp;omega) (by intro e;injection e with e;omega),Below.heap_alloc _ _ _ l4];exact e1
 have hown:w6.ownsRow w1.heap.size 61 4 v9 (n+1) (flatV (n+1) (snocP n PV pv) (snocB n b lp X nd of sz)):=by
  rw[flatV_succ];have e:flatV n (snocP n PV pv) (snocB n b lp X nd of sz)=flatV n PV b:=flatV_congr fun j hj=>by
   have hne:j≠n:=by omega
   simp[snocP,snocB,hne]
  rw[e];simp only[snocP,snocB,if_true];exact ho
 have hw1:=hB.size
 refine⟨(hB.trans (hb16.mono hw1)).setCell (p:=⟨w2.heap.size,0,none⟩) (by show w.heap.size≤w2.heap.size;omega) _,owns_base (owns_set_other hown (owns_ne hown hm6 (by decide)) _) hw1,fun j hj=>?_,set_one hm6 _,?_⟩
 ·by_cases e:j=n
  ·subst e
   simp only[snocP,snocB,if_true];have h1:=(hpv.up (below_alloc w4 o)).grownA (hap.mono' (by omega)) hg;have h2:=(h1.mono hg.size).set (bs:=w2.heap.size) hap 0 v9;exact⟨by simpa[World.setCell]using h2,hap.mono' (by omega)⟩
  simp only[snocP,snocB,if_neg e];obtain⟨g1,g2⟩:=hls j (by omega);have h1:=(g1.below hb25).grownA g2 hg;have h2:IntSl (w6.setCell ⟨w2.heap.size,0,none⟩ v9) w2.heap.size (PV j) (b.PL j) (b.PX j):=h1.below ((Below.refl w2.heap.size w6).setCell (p:=⟨w2.heap.size,0,none⟩) (Nat.le_refl _) _);exact⟨h2.mono (by simp[World.setCell];omega),g2.mono' (by omega)⟩
 ·rw[Below.heap_setCell _ _ _ _ (by show w.heap.size+2≠w2.heap.size;omega),hb16.block _ hr1]
  exact hres
theorem bkAdd(v:Value)(n:Nat)(PV:Nat→Value)(b:Bk)(pv:Value)(lp:Nat)(X:Nat→Int)(nd of sz:Int)(w:World)(h:VeSl w w.heap.size v n PV b)(hp:IntSl w w.heap.size pv lp X):
 Calls Tryz.prog 80 #[bookV v,verV pv nd of sz] w (AddPost' w n b (snocB n b lp X nd of sz)):=by
 have HV:=hid h
 have HIp:=hid hp
 obtain⟨ad,cap,rfl,⟨hcap,hbig⟩,hx⟩:=h
 obtain⟨ap,cp,rfl,_,_⟩:=hp
 obtain⟨ii,hii,hz0,hz1,hz2⟩:=info_parts Tryz.infoVer
 have hb3:Below w.heap.size w (((w.alloc (.cells #[.slice ad n cap] 24)).alloc (.cells #[.slice ap lp cp,.int .i64 nd,.int .i64 of,.int .i64 sz] 61)).alloc (.cells #[.slice none 0 0] 24)):=((Below.refl _ _).alloc (Nat.le_refl _) _).alloc (by simp) _ |>.alloc (by simp;omega) _
 have c1:(((w.alloc (.cells #[.slice ad n cap] 24)).alloc (.cells #[.slice ap lp cp,.int .i64 nd,.int .i64 of,.int .i64 sz] 61)).alloc (.cells #[.slice none 0 0] 24)).heap[w.heap.size]?=some (.cells #[.slice ad n cap] 24 (0,0)):=by rw[Below.heap_alloc _ _ _ (by simp;omega),Below.heap_alloc _ _ _ (by simp)];exact heap_alloc_new _ _
 have c2:(((w.alloc (.cells #[.slice ad n cap] 24)).alloc (.cells #[.slice ap lp cp,.int .i64 nd,.int .i64 of,.int .i64 sz] 61)).alloc (.cells #[.slice none 0 0] 24)).heap[w.heap.size+1]?=some (.cells #[.slice ap lp cp,.int .i64 nd,.int .i64 of,.int .i64 sz] 61 (0,0)):=by
  rw[Below.heap_alloc _ _ _ (by simp)];have:=heap_alloc_new (w.alloc (.cells #[.slice ad n cap] 24)) (.cells #[.slice ap lp cp,.int .i64 nd,.int .i64 of,.int .i64 sz] 61);simpa using this
 have c3:(((w.alloc (.cells #[.slice ad n cap] 24)).alloc (.cells #[.slice ap lp cp,.int .i64 nd,.int .i64 of,.int .i64 sz] 61)).alloc (.cells #[.slice none 0 0] 24)).heap[w.heap.size+2]?=some (.cells #[.slice none 0 0] 24 (0,0)):=by
  have:=heap_alloc_new ((w.alloc (.cells #[.slice ad n cap] 24)).alloc (.cells #[.slice ap lp cp,.int .i64 nd,.int .i64 of,.int .i64 sz] 61)) (.cells #[.slice none 0 0] 24);simpa using this
 have HCk:=hid (bkCheck _ n PV b _ (HV.out.up hb3))
 obtain⟨c,hcc⟩:∃c,bookE n b=c:=⟨_,rfl⟩
 rw[hcc]at HCk
 have HB3:=hid hb3
 have HC1:=hid c1
 have HC2:=hid c2
 have HC3:=hid c3
 clear hx hb3 c1 c2 c3
 unfold bookV at HCk
 unfold bookV verV
 go_enter Tryz.func80,Tryz.ntmps80
 go_wp2_with fail
 refine Calls.mono HCk.out ?_
 rintro e W ⟨rfl,hbW⟩
 have d1:W.heap[w.heap.size]?=some (.cells #[.slice ad n cap] 24 (0,0)):=by rw[hbW.block _ (Array.getElem?_eq_some_iff.1 HC1.out).1];exact HC1.out
 have d2:W.heap[w.heap.size+1]?=some (.cells #[.slice ap lp cp,.int .i64 nd,.int .i64 of,.int .i64 sz] 61 (0,0)):=by rw[hbW.block _ (Array.getElem?_eq_some_iff.1 HC2.out).1];exact HC2.out
 have d3:W.heap[w.heap.size+2]?=some (.cells #[.slice none 0 0] 24 (0,0)):=by rw[hbW.block _ (Array.getElem?_eq_some_iff.1 HC3.out).1];exact HC3.out
 have HWW:=hid (HB3.out.trans (hbW.mono HB3.out.size))
 have HR0:=hid d3
 have HD2:=hid d2
 have e1:W.cell? ⟨w.heap.size,0,none⟩=some (.slice ad n cap):=cell_at d1 rfl
 have r0:=cell_at (i:=0) d3 rfl
 have rf:=frozen_at (i:=0) d3
 clear hbW HC1 HC2 HC3 HCk d1 d2 d3
 by_cases hc0:c=0
 ·subst hc0
  have HE0:=hid hcc;have hn12:n≤12:=(right_of hcc).le;clear hcc;by_cases h12:n=12
  ·have h12i:((n:Int)==12)=true:=by rw[beq_iff_eq];omega
   have he:addE n b (snocB n b lp X nd of sz)=1:=by unfold addE;rw[HE0.out,if_pos rfl];unfold bookE;rw[if_neg (by omega)]
   have HEr:=hid he;clear he h12;go_wp2;refine ret2 (set_one HR0.out _) Tryz.underlying24 ?_;exact add_err HEr.out (by decide) HWW.out
  have h12i:((n:Int)==12)=false:=by rw[beq_eq_false_iff_ne];omega
  have hn11:n≤11:=by omega
  clear h12;go_wp2_with fail
  refine Calls.mono (bkWhole _ n PV b (by omega) W (HV.out.up HWW.out)) ?_;rintro e w2 ⟨g,QV,rfl,hown,hls⟩;unfold bookV;have HOwn:=hid hown;have HLs:=hid hls;have hbb:=hown.2;have HB2:=hid hbb;have q2:w2.heap[w.heap.size+1]?=some (.cells #[.slice ap lp cp,.int .i64 nd,.int .i64 of,.int .i64 sz] 61 (0,0)):=by rw[hbb.block _ (Array.getElem?_eq_some_iff.1 HD2.out).1];exact HD2.out
  have hgl:W.heap.size≤g∧g<w2.heap.size:=hown.1.lt g rfl;obtain⟨U,hU⟩:∃U,w2.alloc (.cells #[.slice (some ⟨g,0,none⟩) n n] 24)=U:=⟨_,rfl⟩;have hbU:Below w2.heap.size w2 U:=by rw[←hU];exact below_alloc _ _
  have hszU:U.heap.size=w2.heap.size+1:=by rw[←hU];simp
  have HSzU:=hid hszU;have u1:U.heap[w2.heap.size]?=some (.cells #[.slice (some ⟨g,0,none⟩) n n] 24 (0,0)):=by rw[←hU];exact heap_alloc_new _ _
  have u2:U.heap[w.heap.size+1]?=some (.cells #[.slice ap lp cp,.int .i64 nd,.int .i64 of,.int .i64 sz] 61 (0,0)):=by rw[hbU.block _ (Array.getElem?_eq_some_iff.1 q2).1];exact q2
  have HBU:=hid (HWW.out.trans ((hbb.trans (hbU.mono hbb.size)).mono HWW.out.size));have HU1:=hid u1;have HU2:=hid u2;have l1:w.heap.size+1<w2.heap.size:=(Array.getElem?_eq_some_iff.1 q2).1;have hne:Nonempty (Of (fun u:World=>u.heap[w2.heap.size]?=some (.cells #[.slice (some ⟨g,0,none⟩) n n] 24 (0,0))∧u.heap[w.heap.size+1]?=some (.cells #[.slice ap lp cp,.int .i64 nd,.int .i64 of,.int .i64 sz] 61 (0,0)))):=⟨⟨U,u1,u2⟩⟩;have F0:∀u:Of (fun u:World=>u.heap[w2.heap.size]?=some (.cells #[.slice (some ⟨g,0,none⟩) n n] 24 (0,0))∧u.heap[w.heap.size+1]?=some (.cells #[.slice ap lp cp,.int .i64 nd,.int .i64 of,.int .i64 sz] 61 (0,0))),u.val.cell? ⟨w2.heap.size,0,none⟩=some (.slice (some ⟨g,0,none⟩) n n):=fun u=>cell_at u.is.1 rfl
  have F1:∀u:Of (fun u:World=>u.heap[w2.heap.size]?=some (.cells #[.slice (some ⟨g,0,none⟩) n n] 24 (0,0))∧u.heap[w.heap.size+1]?=some (.cells #[.slice ap lp cp,.int .i64 nd,.int .i64 of,.int .i64 sz] 61 (0,0))),u.val.cell? ⟨w.heap.size+1,0,none⟩=some (.slice ap lp cp):=fun u=>cell_at u.is.2 rfl;have F2:∀u:Of (fun u:World=>u.heap[w2.heap.size]?=some (.cells #[.slice (some ⟨g,0,none⟩) n n] 24 (0,0))∧u.heap[w.heap.size+1]?=some (.cells #[.slice ap lp cp,.int .i64 nd,.int .i64 of,.int .i64 sz] 61 (0,0))),u.val.cell? ⟨w.heap.size+1,1,none⟩=some (.int .i64 nd):=fun u=>cell_at u.is.2 rfl
  have F3:∀u:Of (fun u:World=>u.heap[w2.heap.size]?=some (.cells #[.slice (some ⟨g,0,none⟩) n n] 24 (0,0))∧u.heap[w.heap.size+1]?=some (.cells #[.slice ap lp cp,.int .i64 nd,.int .i64 of,.int .i64 sz] 61 (0,0))),u.val.cell? ⟨w.heap.size+1,2,none⟩=some (.int .i64 of):=fun u=>cell_at u.is.2 rfl;have F4:∀u:Of (fun u:World=>u.heap[w2.heap.size]?=some (.cells #[.slice (some ⟨g,0,none⟩) n n] 24 (0,0))∧u.heap[w.heap.size+1]?=some (.cells #[.slice ap lp cp,.int .i64 nd,.int .i64 of,.int .i64 sz] 61 (0,0))),u.val.cell? ⟨w.heap.size+1,3,none⟩=some (.int .i64 sz):=fun u=>cell_at u.is.2 rfl;clear hown hls hbb q2 hbU hszU u1 u2 e1 r0 rf;go_wp2_with fail
  refine region_mixed_last (fun u:World=>u.heap[w2.heap.size]?=some (.cells #[.slice (some ⟨g,0,none⟩) n n] 24 (0,0))∧u.heap[w.heap.size+1]?=some (.cells #[.slice ap lp cp,.int .i64 nd,.int .i64 of,.int .i64 sz] 61 (0,0))) [([0,1,2],3),([],4),([],5)] [6] 7 (by kernel_rfl) (by kernel_rfl) ⟨HU1.out,HU2.out⟩ ?_;refine mixO_cons ?_;repeat(go_big_quiet_step (fail))
  refine wpQuiet_nil ?_;intro K hK;go_wp2_with fail
  have hbUd:Below U.heap.size U U.drew:=⟨rfl,rfl,rfl,Nat.le_refl _,fun _ _=>rfl⟩;refine Calls.mono (bkOwn _ _ _ nd of sz U.drew (HIp.out.up (HBU.out.trans (hbUd.mono HBU.out.size)))) ?_;rintro e w4 ⟨hb4,pv',rfl,hl4,ha4⟩;have h4:Below U.heap.size U w4:=hbUd.trans (hb4.mono hbUd.size);rw[HSzU.out]at h4;have ha5:Above (w2.heap.size+1) pv':=by have h5:Above U.heap.size pv':=ha4;rw[HSzU.out]at h5;exact h5
  have k1:w4.heap[w2.heap.size]?=some (.cells #[.slice (some ⟨g,0,none⟩) n n] 24 (0,0)):=by rw[h4.block _ (by omega)];exact HU1.out
  have k2:w4.heap[w.heap.size+1]?=some (.cells #[.slice ap lp cp,.int .i64 nd,.int .i64 of,.int .i64 sz] 61 (0,0)):=by rw[h4.block _ (by omega)];exact HU2.out
  have H4:=hid h4;have HL4:=hid hl4;have HA4:=hid ha5;have K1:=hid k1;have K2:=hid k2;have l4:w2.heap.size<w4.heap.size:=(Array.getElem?_eq_some_iff.1 k1).1;clear hb4 hl4 ha4 h4 ha5 k1 k2 hbUd;unfold verV;go_wp2;refine⟨rfl,hK _ _ ⟨K1.out,K2.out⟩ ?_⟩;clear hK K;refine mixO_cons (lq:=[]) ?_ rfl;refine wpQuiet_nil ?_;intro K hK;go_wp2;refine⟨rfl,hK _ _ ⟨by rw[Below.heap_alloc _ _ _ l4];exact K1.out,by rw[Below.heap_alloc _ _ _ (by omega)];exact K2.out⟩ ?_⟩;clear hK K;refine mixO_cons (lq:=[]) ?_ rfl;refine wpQuiet_nil ?_;intro K hK;obtain⟨aq,cq,hpv',_,_⟩:=HL4.out;subst hpv';have HCf:=hid (cells_four w4 (.slice aq lp cq) (.int .i64 nd) (.int .i64 of) (.int .i64 sz) 61);have HOn:Hid ((w4.alloc (.cells #[.slice aq lp cq,.int .i64 nd,.int .i64 of,.int .i64 sz] 61)).ownsRow W.heap.size 61 4 (.slice (some ⟨g,0,none⟩) n n) n (flatV n QV b)):=by
   have hb24:Below w2.heap.size w2 w4:=by
    refine Below.trans ?_ (H4.out.mono (by omega));rw[←hU];exact below_alloc _ _
   exact owns_below HOwn.out.1 (hb24.alloc hb24.size _)
  have hWs:W.heap.size≤w4.heap.size:=by omega
  go_wp2_with(at_builtin;go_must(refine wpList_append_own _ rfl (.tmp 23) (.tmp 26) 22 rfl W.heap.size 61 ii (.agg #[.slice none 0 0,.int .i64 0,.int .i64 0,.int .i64 0]) 4 48 Tryz.underlying22 hii hz0 hz1 hz2 rfl (by decide) _ _ _ rfl HOn.out ⟨_,0,none⟩ 1 1 [.slice aq lp cq,.int .i64 nd,.int .i64 of,.int .i64 sz] rfl rfl HCf.out (by intro u hu;simp at hu;rcases hu with rfl|rfl|rfl|rfl<;>rfl) (by unfold maxLen;omega) (by omega) (by simp;omega) ?_;intro v9 w6 ho9 hg9 _;have HO9:=hid ho9;have HG9:=hid hg9;clear ho9 hg9))
  have hsz6:w4.heap.size+1≤w6.heap.size:=by have:=HG9.out.size;simpa using this
  have k6:w6.heap[w2.heap.size]?=some (.cells #[.slice (some ⟨g,0,none⟩) n n] 24 (0,0)):=by
   rw[HG9.out.block _ (by simp;omega) (by intro e;injection e with e;have e2:w2.heap.size=g:=e;omega),Below.heap_alloc _ _ _ l4];exact K1.out
  have k7:w6.heap[w.heap.size+1]?=some (.cells #[.slice ap lp cp,.int .i64 nd,.int .i64 of,.int .i64 sz] 61 (0,0)):=by
   have hlW:w.heap.size+1<W.heap.size:=(Array.getElem?_eq_some_iff.1 HD2.out).1;rw[HG9.out.block _ (by simp;omega) (by intro e;injection e with e;have e2:w.heap.size+1=g:=e;omega),Below.heap_alloc _ _ _ (by omega)];exact K2.out
  refine⟨rfl,hK _ _ ⟨k6,k7⟩ ?_⟩;clear hK K;refine mixO_last ?_;repeat(go_big_quiet_step (fail))
  refine wpQuiet_nil ?_;have A0:Hid (AdInv w (w6.setCell ⟨w2.heap.size,0,none⟩ v9) (n+1) (snocB n b lp X nd of sz) w2.heap.size v9 (snocP n QV (.slice aq lp cq))) :=
   ad_made HWW.out HR0.out HOwn.out HLs.out (by rw[hU];exact H4.out) HL4.out HA4.out HO9.out HG9.out
  have s6:=cell_at (i:=0) k6 rfl;have z6:=frozen_at (i:=0) k6;obtain⟨a9,c9,h9⟩:=owns_sliceV HO9.out;subst h9;have hvs:=A0.out.vsl (by omega);have y0:=cell_at (i:=0) A0.out.book rfl;have HCk:=hid (bkCheck _ (n+1) _ _ _ hvs);unfold bookV at HCk;clear hvs k6 k7 F0 F1 F2 F3 F4;go_wp2_with fail
  refine Calls.mono HCk.out ?_;rintro e w5 ⟨rfl,hb5⟩;have A5:=hid (A0.out.up hb5);have o5:=cell_at (i:=0) A5.out.book rfl;have r5:=cell_at (i:=0) A5.out.res rfl;have rf:=frozen_at (i:=0) A5.out.res;clear hb5;obtain⟨c,hcc⟩:∃c,bookE (n+1) (snocB n b lp X nd of sz)=c:=⟨_,rfl⟩;have HAe:Hid (addE n b (snocB n b lp X nd of sz)=c):=by unfold addE;rw[if_pos HE0.out];exact hcc
  rw[hcc];clear hcc;by_cases hc0:c=0
  ·subst hc0
   go_wp2;refine ret2 (set_one A5.out.res _) Tryz.underlying24 ?_;exact A5.out.ok HAe.out (by omega)
  have hcb:(c != 0)=true:=by simpa using hc0
  have HC0:=hid hc0;clear hc0;go_wp2;refine ret2 (set_one A5.out.res _) Tryz.underlying24 ?_;exact add_err HAe.out HC0.out A5.out.below
 ·have hcb:(c != 0)=true:=by simpa using hc0
  have he:addE n b (snocB n b lp X nd of sz)=c:=by unfold addE;rw[hcc,if_neg hc0]
  have HEr:=hid he;have HNe:=hid hc0;clear he hcc hc0;go_wp2;refine ret2 (set_one HR0.out _) Tryz.underlying24 ?_;exact add_err HEr.out HNe.out HWW.out
end Go.Proofs.YtajmnlhfnhbleaaGreat
