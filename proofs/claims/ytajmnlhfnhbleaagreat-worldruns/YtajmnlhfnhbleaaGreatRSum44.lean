/- Several texts of one proof, in their order. -/
import Derived.Test.YtajmnlhfnhbleaaGreatRSum28
import Derived.Test.YtajmnlhfnhbleaaGreatRSum43
namespace Go.Proofs.YtajmnlhfnhbleaaGreat
open Go.RowKit CurveMath
set_option linter.unusedVariables false
set_option maxHeartbeats 8000000
set_option maxRecDepth 10000
def MsPostO(w:World)(er:Int)(m:Ms)(I:Nat→Prop)(e:Ending)(w':World):Prop:=MeshPostO w er m.n m.b m.np m.P I e w'
theorem happ_finO{w Z:World}{I:Nat→Prop}{vb:Value}{n:Nat}{PV:Nat→Value}{b:Bk}{np gp cap:Nat}{KV:Nat→Value}{UV:Nat→Nat→Value}{P:Ps}(hv:VeSl w w.heap.size vb n PV b)(hB:Below w.heap.size w Z)(hr:RowP Z gp np KV P)(hc:np≤cap)(h8:np≤8)(hvo:∀s,s<w.heap.size→I s→VeOff s vb n PV b)(hgw:w.heap.size≤gp)(ho:PsO w.heap.size I np KV UV P)(hk:∀k,k<np→KeSl Z Z.heap.size (KV k) (P.m k) (UV k) (P.t k)):
 MeshPostO w 0 n b np P I (.returned (.tuple #[.agg #[vb,.slice (some ⟨gp,0,none⟩) np cap],.int .i64 0])) Z :=
 ⟨hB,vb,_,n,np,PV,KV,UV,rfl,by rw[if_pos rfl],by rw[if_pos rfl],(hv.below hB).mono hB.size,hr.kel hc (by omega) hk,fun s hs hI=>⟨hvo s hs hI,Or.inr fun ad n' c e=>(by injection e with e;injection e with e;subst e;show gp≠s;omega),ho s hs hI⟩⟩
theorem fg_finO{w wr:World}{I:Nat→Prop}{a0 a1:Option Addr}{n cb np cap gp:Nat}{hv:Array Value}{KV:Nat→Value}{UV:Nat→Nat→Value}{P:Ps}{N:Int}{KVi:Nat→Value}{UVi:Nat→Nat→Value}{PV:Nat→Value}{b:Bk}(h:FgInv w wr a0 a1 n cb np cap gp hv KV UV P N KVi UVi np)(hvb:VeSl w w.heap.size (.slice a0 n cb) n PV b)(hc:np≤cap)(h8:np≤8)(hvo:∀s,s<w.heap.size→I s→VeOff s (.slice a0 n cb) n PV b)(ho:PsO w.heap.size I np KVi UVi (fgP P N np)):
 MeshPostO w 0 n b np (forgP P N) I (.returned (.tuple #[.agg #[.slice a0 n cb,.slice (some ⟨gp,0,none⟩) np cap],.int .i64 0])) (put2 wr (w.heap.size+2) (.slice a0 n cb) (.slice (some ⟨gp,0,none⟩) np cap)):=by
 have hge:=h.ge
 have hrP:RowP wr gp np KVi (forgP P N):=⟨h.row.cell,h.row.free,h.row.lt⟩
 have hgw:gp≠w.heap.size+2:=by omega
 refine happ_finO (P:=forgP P N) hvb (put2_below h.below (by omega)) (RowP.other (RowP.other hrP hgw _) hgw _) hc h8 hvo (by omega) (UV:=UVi) (fun s hs hI k hk=>?_) (fun j hj=>?_)
 ·have h9:=ho s hs hI k hk
  have e1:(fgP P N np).m k=(forgP P N).m k:=if_pos hk;have e2:(fgP P N np).t k=(forgP P N).t k:=if_pos hk;rw[e1,e2]at h9;exact h9
 ·have h9:=kel_put2 h.out (h.kept j hj) (.slice a0 n cb) (.slice (some ⟨gp,0,none⟩) np cap)
  unfold fgM fgT at h9;rw[if_pos hj,if_pos hj]at h9;exact h9
theorem happened_saveO(I:Nat→Prop)(vb:Value)(n:Nat)(PV:Nat→Value)(b:Bk)(vl:Value)(np:Nat)(KV:Nat→Value)(UV:Nat→Nat→Value)(P:Ps)(N M:Int)(vd:Value)(len:Nat)(D:Nat→Int)(vp:Value)(lp:Nat)(X:Nat→Int)(need of:Int)(w:World)
 (hv:VeSl w w.heap.size vb n PV b) (hl:PsSl w w.heap.size vl np KV UV P) (hd:IntSl w w.heap.size vd len D) (hp:IntSl w w.heap.size vp lp X) (hR:MeshR n b np P) (hmo:∀s,s<w.heap.size→I s→MsOff s vb n PV b vl np KV UV P) (hpo:∀s,s<w.heap.size→I s→OfB s lp vp) :
 Calls Tryz.prog 16 #[meshV vb vl,hapV ⟨1,N,M,len,D,lp,X,need,of⟩ vd vp] w (MsPostO w (happE ⟨n,b,np,P⟩ ⟨1,N,M,len,D,lp,X,need,of⟩) (happM ⟨n,b,np,P⟩ ⟨1,N,M,len,D,lp,X,need,of⟩) I):=by
 have HV:=hid hv
 have HL:=hid hl
 have HD:=hid hd
 have HP:=hid hp
 have HR:=hid hR
 have HMq:=hid hmo
 have HPq:=hid hpo
 clear hmo hpo
 have h8:=hR.few
 obtain⟨ab,cb,rfl,z1,z2⟩:=hv
 clear z1 z2
 obtain⟨al,cl,rfl,z1,z2⟩:=hl
 clear z1 z2
 obtain⟨ad,cd,rfl,z1,z2⟩:=hd
 clear z1 z2
 obtain⟨ap,cp,rfl,z1,z2⟩:=hp
 clear z1 z2
 have hb0:Below w.heap.size w (((w.alloc (.cells #[.slice ab n cb,.slice al np cl] 27)).alloc (.cells #[.int .i64 1,.int .i64 N,.int .i64 M,.slice ad len cd,.slice ap lp cp,.int .i64 need,.int .i64 of] 30)).alloc (.cells #[.slice none 0 0,.slice none 0 0] 27)):=(((Below.refl w.heap.size w).alloc (Nat.le_refl _) _).alloc (by simp) _).alloc (by simp<;>omega) _
 obtain⟨k0,k1,k2⟩:=heap_threeW w (.cells #[.slice ab n cb,.slice al np cl] 27) (.cells #[.int .i64 1,.int .i64 N,.int .i64 M,.slice ad len cd,.slice ap lp cp,.int .i64 need,.int .i64 of] 30) (.cells #[.slice none 0 0,.slice none 0 0] 27)
 obtain⟨U,hU⟩:∃u,((w.alloc (.cells #[.slice ab n cb,.slice al np cl] 27)).alloc (.cells #[.int .i64 1,.int .i64 N,.int .i64 M,.slice ad len cd,.slice ap lp cp,.int .i64 need,.int .i64 of] 30)).alloc (.cells #[.slice none 0 0,.slice none 0 0] 27)=u:=⟨_,rfl⟩
 rw[hU]at hb0 k0 k1 k2
 obtain⟨er,her⟩:∃c,happE ⟨n,b,np,P⟩ ⟨1,N,M,len,D,lp,X,need,of⟩=c:=⟨_,rfl⟩
 obtain⟨mz,hmz⟩:∃m,happM ⟨n,b,np,P⟩ ⟨1,N,M,len,D,lp,X,need,of⟩=m:=⟨_,rfl⟩
 rw[her,hmz]
 have HEr:=hid her
 have HMz:=hid hmz
 have B0:=hid hb0
 have D0:=hid k0
 have D1:=hid k1
 have D2:=hid k2
 have V0:=hid (HV.out.up hb0)
 have L0:=hid (HL.out.up hb0)
 have N0:=hid (HD.out.up hb0)
 have Q0:=hid (HP.out.up hb0)
 obtain⟨c0,c1⟩:=two_at k0
 obtain⟨h0,h1,h2,h3,h4,h5,h6⟩:=seven_at k1
 clear hb0 k0 k1 k2 her hmz hR
 have CK:=hid (savedIn_anyO (fun s=>I s∧s<w.heap.size) _ n PV b _ np KV UV P _ len D _ lp X need of U V0.out L0.out N0.out Q0.out (fun s _ hI=>HMq.out s hI.2 hI.1) (fun s _ hI=>HPq.out s hI.2 hI.1))
 unfold meshV at CK
 unfold meshV hapV
 go_enter Tryz.func16,Tryz.ntmps16
 go_wp2_with fail
 refine Calls.mono CK.out ?_
 rintro e W5 hM
 have HM:=hid hM
 obtain⟨hb5,gb,gl,n5,np5,PV5,KV5,UV5,rfl,hn5,hp5,hv5,hl5,_⟩:=hM
 clear hn5 hp5
 obtain⟨a5,c5,rfl,_,_⟩:=hv5
 obtain⟨a6,c6,rfl,_,_⟩:=hl5
 unfold meshV at HM
 have o5:=stayB D2.out hb5
 have HO5:=hid o5
 obtain⟨r1,r2⟩:=two_at o5
 have f1:=frozen_at (i:=0) o5
 have f2:=frozen_at (i:=1) o5
 unfold meshV
 clear hb5 o5
 go_wp2
 refine ret2 (put2_whole HO5.out _ _) Tryz.underlying27 ?_
 have h9:=mesh_outO B0.out HM.out (fun s hs hI=>⟨hI,hs⟩) HO5.out (show w.heap.size≤w.heap.size+2 by omega)
 have he1:saveE n b np P need of len D lp X=er:=HEr.out
 have hm1:=HMz.out
 subst hm1
 rw[←he1]
 exact h9
theorem happened_mendO(I:Nat→Prop)(vb:Value)(n:Nat)(PV:Nat→Value)(b:Bk)(vl:Value)(np:Nat)(KV:Nat→Value)(UV:Nat→Nat→Value)(P:Ps)(N M:Int)(vd:Value)(len:Nat)(D:Nat→Int)(vp:Value)(lp:Nat)(X:Nat→Int)(need of:Int)(w:World)
 (hv:VeSl w w.heap.size vb n PV b) (hl:PsSl w w.heap.size vl np KV UV P) (hd:IntSl w w.heap.size vd len D) (hp:IntSl w w.heap.size vp lp X) (hR:MeshR n b np P) (hmo:∀s,s<w.heap.size→I s→MsOff s vb n PV b vl np KV UV P) (hpo:∀s,s<w.heap.size→I s→OfB s lp vp) :
 Calls Tryz.prog 16 #[meshV vb vl,hapV ⟨6,N,M,len,D,lp,X,need,of⟩ vd vp] w (MsPostO w (happE ⟨n,b,np,P⟩ ⟨6,N,M,len,D,lp,X,need,of⟩) (happM ⟨n,b,np,P⟩ ⟨6,N,M,len,D,lp,X,need,of⟩) I):=by
 have HV:=hid hv
 have HL:=hid hl
 have HD:=hid hd
 have HP:=hid hp
 have HR:=hid hR
 have HMq:=hid hmo
 have HPq:=hid hpo
 clear hmo hpo
 have h8:=hR.few
 obtain⟨ab,cb,rfl,z1,z2⟩:=hv
 clear z1 z2
 obtain⟨al,cl,rfl,z1,z2⟩:=hl
 clear z1 z2
 obtain⟨ad,cd,rfl,z1,z2⟩:=hd
 clear z1 z2
 obtain⟨ap,cp,rfl,z1,z2⟩:=hp
 clear z1 z2
 have hb0:Below w.heap.size w (((w.alloc (.cells #[.slice ab n cb,.slice al np cl] 27)).alloc (.cells #[.int .i64 6,.int .i64 N,.int .i64 M,.slice ad len cd,.slice ap lp cp,.int .i64 need,.int .i64 of] 30)).alloc (.cells #[.slice none 0 0,.slice none 0 0] 27)):=(((Below.refl w.heap.size w).alloc (Nat.le_refl _) _).alloc (by simp) _).alloc (by simp<;>omega) _
 obtain⟨k0,k1,k2⟩:=heap_threeW w (.cells #[.slice ab n cb,.slice al np cl] 27) (.cells #[.int .i64 6,.int .i64 N,.int .i64 M,.slice ad len cd,.slice ap lp cp,.int .i64 need,.int .i64 of] 30) (.cells #[.slice none 0 0,.slice none 0 0] 27)
 obtain⟨U,hU⟩:∃u,((w.alloc (.cells #[.slice ab n cb,.slice al np cl] 27)).alloc (.cells #[.int .i64 6,.int .i64 N,.int .i64 M,.slice ad len cd,.slice ap lp cp,.int .i64 need,.int .i64 of] 30)).alloc (.cells #[.slice none 0 0,.slice none 0 0] 27)=u:=⟨_,rfl⟩
 rw[hU]at hb0 k0 k1 k2
 obtain⟨er,her⟩:∃c,happE ⟨n,b,np,P⟩ ⟨6,N,M,len,D,lp,X,need,of⟩=c:=⟨_,rfl⟩
 obtain⟨mz,hmz⟩:∃m,happM ⟨n,b,np,P⟩ ⟨6,N,M,len,D,lp,X,need,of⟩=m:=⟨_,rfl⟩
 rw[her,hmz]
 have HEr:=hid her
 have HMz:=hid hmz
 have B0:=hid hb0
 have D0:=hid k0
 have D1:=hid k1
 have D2:=hid k2
 have V0:=hid (HV.out.up hb0)
 have L0:=hid (HL.out.up hb0)
 have N0:=hid (HD.out.up hb0)
 have Q0:=hid (HP.out.up hb0)
 obtain⟨c0,c1⟩:=two_at k0
 obtain⟨h0,h1,h2,h3,h4,h5,h6⟩:=seven_at k1
 clear hb0 k0 k1 k2 her hmz hR
 have CK:=hid (repaired_anyO (fun s=>I s∧s<w.heap.size) _ n PV b _ np KV UV P N U V0.out L0.out (fun s _ hI=>HMq.out s hI.2 hI.1))
 unfold meshV at CK
 unfold meshV hapV
 go_enter Tryz.func16,Tryz.ntmps16
 go_wp2_with fail
 refine Calls.mono CK.out ?_
 rintro e W5 hM
 have HM:=hid hM
 obtain⟨hb5,gb,gl,n5,np5,PV5,KV5,UV5,rfl,hn5,hp5,hv5,hl5,_⟩:=hM
 clear hn5 hp5
 obtain⟨a5,c5,rfl,_,_⟩:=hv5
 obtain⟨a6,c6,rfl,_,_⟩:=hl5
 unfold meshV at HM
 have o5:=stayB D2.out hb5
 have HO5:=hid o5
 obtain⟨r1,r2⟩:=two_at o5
 have f1:=frozen_at (i:=0) o5
 have f2:=frozen_at (i:=1) o5
 unfold meshV
 clear hb5 o5
 go_wp2
 refine ret2 (put2_whole HO5.out _ _) Tryz.underlying27 ?_
 have h9:=mesh_outO B0.out HM.out (fun s hs hI=>⟨hI,hs⟩) HO5.out (show w.heap.size≤w.heap.size+2 by omega)
 have he1:mendE n b np P N=er:=HEr.out
 have hm1:=HMz.out
 subst hm1
 rw[←he1]
 exact h9
theorem happened_formO(I:Nat→Prop)(vb:Value)(n:Nat)(PV:Nat→Value)(b:Bk)(vl:Value)(np:Nat)(KV:Nat→Value)(UV:Nat→Nat→Value)(P:Ps)(kd N M:Int)(vd:Value)(len:Nat)(D:Nat→Int)(vp:Value)(lp:Nat)(X:Nat→Int)(need of:Int)(w:World)
 (hv:VeSl w w.heap.size vb n PV b) (hl:PsSl w w.heap.size vl np KV UV P) (hd:IntSl w w.heap.size vd len D) (hp:IntSl w w.heap.size vp lp X) (hR:MeshR n b np P) (hmo:∀s,s<w.heap.size→I s→MsOff s vb n PV b vl np KV UV P) (hpo:∀s,s<w.heap.size→I s→OfB s lp vp) (hk:kd<1∨7<kd) :
 Calls Tryz.prog 16 #[meshV vb vl,hapV ⟨kd,N,M,len,D,lp,X,need,of⟩ vd vp] w (MsPostO w (happE ⟨n,b,np,P⟩ ⟨kd,N,M,len,D,lp,X,need,of⟩) (happM ⟨n,b,np,P⟩ ⟨kd,N,M,len,D,lp,X,need,of⟩) I):=by
 have HV:=hid hv
 have HL:=hid hl
 have HD:=hid hd
 have HP:=hid hp
 have HR:=hid hR
 have HMq:=hid hmo
 have HPq:=hid hpo
 clear hmo hpo
 have h8:=hR.few
 obtain⟨ab,cb,rfl,z1,z2⟩:=hv
 clear z1 z2
 obtain⟨al,cl,rfl,z1,z2⟩:=hl
 clear z1 z2
 obtain⟨ad,cd,rfl,z1,z2⟩:=hd
 clear z1 z2
 obtain⟨ap,cp,rfl,z1,z2⟩:=hp
 clear z1 z2
 have hb0:Below w.heap.size w (((w.alloc (.cells #[.slice ab n cb,.slice al np cl] 27)).alloc (.cells #[.int .i64 kd,.int .i64 N,.int .i64 M,.slice ad len cd,.slice ap lp cp,.int .i64 need,.int .i64 of] 30)).alloc (.cells #[.slice none 0 0,.slice none 0 0] 27)):=(((Below.refl w.heap.size w).alloc (Nat.le_refl _) _).alloc (by simp) _).alloc (by simp<;>omega) _
 obtain⟨k0,k1,k2⟩:=heap_threeW w (.cells #[.slice ab n cb,.slice al np cl] 27) (.cells #[.int .i64 kd,.int .i64 N,.int .i64 M,.slice ad len cd,.slice ap lp cp,.int .i64 need,.int .i64 of] 30) (.cells #[.slice none 0 0,.slice none 0 0] 27)
 obtain⟨U,hU⟩:∃u,((w.alloc (.cells #[.slice ab n cb,.slice al np cl] 27)).alloc (.cells #[.int .i64 kd,.int .i64 N,.int .i64 M,.slice ad len cd,.slice ap lp cp,.int .i64 need,.int .i64 of] 30)).alloc (.cells #[.slice none 0 0,.slice none 0 0] 27)=u:=⟨_,rfl⟩
 rw[hU]at hb0 k0 k1 k2
 obtain⟨er,her⟩:∃c,happE ⟨n,b,np,P⟩ ⟨kd,N,M,len,D,lp,X,need,of⟩=c:=⟨_,rfl⟩
 obtain⟨mz,hmz⟩:∃m,happM ⟨n,b,np,P⟩ ⟨kd,N,M,len,D,lp,X,need,of⟩=m:=⟨_,rfl⟩
 rw[her,hmz]
 have HEr:=hid her
 have HMz:=hid hmz
 have B0:=hid hb0
 have D0:=hid k0
 have D1:=hid k1
 have D2:=hid k2
 have V0:=hid (HV.out.up hb0)
 have L0:=hid (HL.out.up hb0)
 have N0:=hid (HD.out.up hb0)
 have Q0:=hid (HP.out.up hb0)
 obtain⟨c0,c1⟩:=two_at k0
 obtain⟨h0,h1,h2,h3,h4,h5,h6⟩:=seven_at k1
 clear hb0 k0 k1 k2 her hmz hR
 have hn1:¬kd=1:=by omega
 have hn6:¬kd=6:=by omega
 have hn7:¬kd=7:=by omega
 have q1:(kd==1)=false:=by rw[beq_eq_false_iff_ne];exact hn1
 have q6:(kd==6)=false:=by rw[beq_eq_false_iff_ne];exact hn6
 have q7:(kd==7)=false:=by rw[beq_eq_false_iff_ne];exact hn7
 have hin:decide (2≤kd∧kd≤5)=false:=decide_eq_false (by omega)
 have CI:=hid (in_any kd 2 5 U)
 rw[hin]at CI
 have HE3:Hid (er=3):=by
  show er=3;rw[←HEr.out];unfold happE;rw[if_neg hn1,if_neg hn6,if_neg hn7,if_neg (of_decide_eq_false hin)]
 clear hin hn1 hn6 hn7 hk
 unfold meshV hapV
 go_enter Tryz.func16,Tryz.ntmps16
 go_wp2_with fail
 refine Calls.mono CI.out ?_
 rintro e wq ⟨rfl,hwq⟩
 subst wq
 go_wp2_with fail
 refine Calls.mono (happBad (3) U) ?_
 rintro e w9 ⟨rfl,hb9⟩
 have o9:=stayB D2.out hb9
 have HO9:=hid o9
 have HB9:=hid (B0.out.trans (hb9.mono B0.out.size))
 obtain⟨r1,r2⟩:=two_at o9
 have f1:=frozen_at (i:=0) o9
 have f2:=frozen_at (i:=1) o9
 clear o9 hb9
 go_wp2
 refine ret2 (put2_whole HO9.out _ _) Tryz.underlying27 ?_
 have hee:=HE3.out
 rw[hee]
 exact mesh_noneO (put2_below HB9.out (by omega)) (by omega)
theorem happened_whoO(I:Nat→Prop)(vb:Value)(n:Nat)(PV:Nat→Value)(b:Bk)(vl:Value)(np:Nat)(KV:Nat→Value)(UV:Nat→Nat→Value)(P:Ps)(kd N M:Int)(vd:Value)(len:Nat)(D:Nat→Int)(vp:Value)(lp:Nat)(X:Nat→Int)(need of:Int)(w:World)
 (hv:VeSl w w.heap.size vb n PV b) (hl:PsSl w w.heap.size vl np KV UV P) (hd:IntSl w w.heap.size vd len D) (hp:IntSl w w.heap.size vp lp X) (hR:MeshR n b np P) (hmo:∀s,s<w.heap.size→I s→MsOff s vb n PV b vl np KV UV P) (hpo:∀s,s<w.heap.size→I s→OfB s lp vp) (hk:2≤kd∧kd≤5) (hN:N<0∨(np:Int)≤N) :
 Calls Tryz.prog 16 #[meshV vb vl,hapV ⟨kd,N,M,len,D,lp,X,need,of⟩ vd vp] w (MsPostO w (happE ⟨n,b,np,P⟩ ⟨kd,N,M,len,D,lp,X,need,of⟩) (happM ⟨n,b,np,P⟩ ⟨kd,N,M,len,D,lp,X,need,of⟩) I):=by
 have HV:=hid hv
 have HL:=hid hl
 have HD:=hid hd
 have HP:=hid hp
 have HR:=hid hR
 have HMq:=hid hmo
 have HPq:=hid hpo
 clear hmo hpo
 have h8:=hR.few
 obtain⟨ab,cb,rfl,z1,z2⟩:=hv
 clear z1 z2
 obtain⟨al,cl,rfl,z1,z2⟩:=hl
 clear z1 z2
 obtain⟨ad,cd,rfl,z1,z2⟩:=hd
 clear z1 z2
 obtain⟨ap,cp,rfl,z1,z2⟩:=hp
 clear z1 z2
 have hb0:Below w.heap.size w (((w.alloc (.cells #[.slice ab n cb,.slice al np cl] 27)).alloc (.cells #[.int .i64 kd,.int .i64 N,.int .i64 M,.slice ad len cd,.slice ap lp cp,.int .i64 need,.int .i64 of] 30)).alloc (.cells #[.slice none 0 0,.slice none 0 0] 27)):=(((Below.refl w.heap.size w).alloc (Nat.le_refl _) _).alloc (by simp) _).alloc (by simp<;>omega) _
 obtain⟨k0,k1,k2⟩:=heap_threeW w (.cells #[.slice ab n cb,.slice al np cl] 27) (.cells #[.int .i64 kd,.int .i64 N,.int .i64 M,.slice ad len cd,.slice ap lp cp,.int .i64 need,.int .i64 of] 30) (.cells #[.slice none 0 0,.slice none 0 0] 27)
 obtain⟨U,hU⟩:∃u,((w.alloc (.cells #[.slice ab n cb,.slice al np cl] 27)).alloc (.cells #[.int .i64 kd,.int .i64 N,.int .i64 M,.slice ad len cd,.slice ap lp cp,.int .i64 need,.int .i64 of] 30)).alloc (.cells #[.slice none 0 0,.slice none 0 0] 27)=u:=⟨_,rfl⟩
 rw[hU]at hb0 k0 k1 k2
 obtain⟨er,her⟩:∃c,happE ⟨n,b,np,P⟩ ⟨kd,N,M,len,D,lp,X,need,of⟩=c:=⟨_,rfl⟩
 obtain⟨mz,hmz⟩:∃m,happM ⟨n,b,np,P⟩ ⟨kd,N,M,len,D,lp,X,need,of⟩=m:=⟨_,rfl⟩
 rw[her,hmz]
 have HEr:=hid her
 have HMz:=hid hmz
 have B0:=hid hb0
 have D0:=hid k0
 have D1:=hid k1
 have D2:=hid k2
 have V0:=hid (HV.out.up hb0)
 have L0:=hid (HL.out.up hb0)
 have N0:=hid (HD.out.up hb0)
 have Q0:=hid (HP.out.up hb0)
 obtain⟨c0,c1⟩:=two_at k0
 obtain⟨h0,h1,h2,h3,h4,h5,h6⟩:=seven_at k1
 clear hb0 k0 k1 k2 her hmz hR
 have hn1:¬(kd:Int)=1:=by omega
 have hn6:¬(kd:Int)=6:=by omega
 have hn7:¬(kd:Int)=7:=by omega
 have q1:((kd:Int)==1)=false:=by rw[beq_eq_false_iff_ne];exact hn1
 have q6:((kd:Int)==6)=false:=by rw[beq_eq_false_iff_ne];exact hn6
 have q7:((kd:Int)==7)=false:=by rw[beq_eq_false_iff_ne];exact hn7
 have hin:decide (2≤(kd:Int)∧(kd:Int)≤5)=true:=decide_eq_true (by omega)
 have CI:=hid (in_any kd 2 5 U)
 rw[hin]at CI
 have HEo:Hid (er=lonE ⟨n,b,np,P⟩ ⟨kd,N,M,len,D,lp,X,need,of⟩):=by
  show er=_;rw[←HEr.out];unfold happE;rw[if_neg hn1,if_neg hn6,if_neg hn7,if_pos (of_decide_eq_true hin)]
 have HMo:Hid (mz=⟨n,b,np,lonP ⟨n,b,np,P⟩ ⟨kd,N,M,len,D,lp,X,need,of⟩⟩):=by
  show mz=_;rw[←HMz.out];unfold happM;rw[if_neg hn1,if_neg hn6,if_neg hn7]
 clear hin hn1 hn6 hn7
 have HE4:Hid (er=4):=by
  show er=4;rw[HEo.out];unfold lonE;exact if_pos hN
 clear hk
 unfold meshV hapV
 go_enter Tryz.func16,Tryz.ntmps16
 go_wp2_with fail
 refine Calls.mono CI.out ?_
 rintro e wq ⟨rfl,hwq⟩
 subst wq
 by_cases hlo:N<0
 ·clear hN
  go_wp2_with fail
  refine Calls.mono (happBad (4) U) ?_;rintro e w9 ⟨rfl,hb9⟩;have o9:=stayB D2.out hb9;have HO9:=hid o9;have HB9:=hid (B0.out.trans (hb9.mono B0.out.size));obtain⟨r1,r2⟩:=two_at o9;have f1:=frozen_at (i:=0) o9;have f2:=frozen_at (i:=1) o9;clear o9 hb9;go_wp2;refine ret2 (put2_whole HO9.out _ _) Tryz.underlying27 ?_;have hee:=HE4.out;rw[hee];exact mesh_noneO (put2_below HB9.out (by omega)) (by omega)
 ·have hhi:N≥(np:Int):=by omega
  clear hN;go_wp2_with fail
  refine Calls.mono (happBad (4) U) ?_;rintro e w9 ⟨rfl,hb9⟩;have o9:=stayB D2.out hb9;have HO9:=hid o9;have HB9:=hid (B0.out.trans (hb9.mono B0.out.size));obtain⟨r1,r2⟩:=two_at o9;have f1:=frozen_at (i:=0) o9;have f2:=frozen_at (i:=1) o9;clear o9 hb9;go_wp2;refine ret2 (put2_whole HO9.out _ _) Tryz.underlying27 ?_;have hee:=HE4.out;rw[hee];exact mesh_noneO (put2_below HB9.out (by omega)) (by omega)
theorem happened_leaveO(I:Nat→Prop)(vb:Value)(n:Nat)(PV:Nat→Value)(b:Bk)(vl:Value)(np:Nat)(KV:Nat→Value)(UV:Nat→Nat→Value)(P:Ps)(N M:Int)(vd:Value)(len:Nat)(D:Nat→Int)(vp:Value)(lp:Nat)(X:Nat→Int)(need of:Int)(w:World)
 (hv:VeSl w w.heap.size vb n PV b) (hl:PsSl w w.heap.size vl np KV UV P) (hd:IntSl w w.heap.size vd len D) (hp:IntSl w w.heap.size vp lp X) (hR:MeshR n b np P) (hmo:∀s,s<w.heap.size→I s→MsOff s vb n PV b vl np KV UV P) (hpo:∀s,s<w.heap.size→I s→OfB s lp vp) (hN:0≤N∧N<(np:Int)) :
 Calls Tryz.prog 16 #[meshV vb vl,hapV ⟨2,N,M,len,D,lp,X,need,of⟩ vd vp] w (MsPostO w (happE ⟨n,b,np,P⟩ ⟨2,N,M,len,D,lp,X,need,of⟩) (happM ⟨n,b,np,P⟩ ⟨2,N,M,len,D,lp,X,need,of⟩) I):=by
 have HV:=hid hv
 have HL:=hid hl
 have HD:=hid hd
 have HP:=hid hp
 have HR:=hid hR
 have HMq:=hid hmo
 have HPq:=hid hpo
 clear hmo hpo
 have h8:=hR.few
 obtain⟨ab,cb,rfl,z1,z2⟩:=hv
 clear z1 z2
 obtain⟨al,cl,rfl,z1,z2⟩:=hl
 clear z1 z2
 obtain⟨ad,cd,rfl,z1,z2⟩:=hd
 clear z1 z2
 obtain⟨ap,cp,rfl,z1,z2⟩:=hp
 clear z1 z2
 have hb0:Below w.heap.size w (((w.alloc (.cells #[.slice ab n cb,.slice al np cl] 27)).alloc (.cells #[.int .i64 2,.int .i64 N,.int .i64 M,.slice ad len cd,.slice ap lp cp,.int .i64 need,.int .i64 of] 30)).alloc (.cells #[.slice none 0 0,.slice none 0 0] 27)):=(((Below.refl w.heap.size w).alloc (Nat.le_refl _) _).alloc (by simp) _).alloc (by simp<;>omega) _
 obtain⟨k0,k1,k2⟩:=heap_threeW w (.cells #[.slice ab n cb,.slice al np cl] 27) (.cells #[.int .i64 2,.int .i64 N,.int .i64 M,.slice ad len cd,.slice ap lp cp,.int .i64 need,.int .i64 of] 30) (.cells #[.slice none 0 0,.slice none 0 0] 27)
 obtain⟨U,hU⟩:∃u,((w.alloc (.cells #[.slice ab n cb,.slice al np cl] 27)).alloc (.cells #[.int .i64 2,.int .i64 N,.int .i64 M,.slice ad len cd,.slice ap lp cp,.int .i64 need,.int .i64 of] 30)).alloc (.cells #[.slice none 0 0,.slice none 0 0] 27)=u:=⟨_,rfl⟩
 rw[hU]at hb0 k0 k1 k2
 obtain⟨er,her⟩:∃c,happE ⟨n,b,np,P⟩ ⟨2,N,M,len,D,lp,X,need,of⟩=c:=⟨_,rfl⟩
 obtain⟨mz,hmz⟩:∃m,happM ⟨n,b,np,P⟩ ⟨2,N,M,len,D,lp,X,need,of⟩=m:=⟨_,rfl⟩
 rw[her,hmz]
 have HEr:=hid her
 have HMz:=hid hmz
 have B0:=hid hb0
 have D0:=hid k0
 have D1:=hid k1
 have D2:=hid k2
 have V0:=hid (HV.out.up hb0)
 have L0:=hid (HL.out.up hb0)
 have N0:=hid (HD.out.up hb0)
 have Q0:=hid (HP.out.up hb0)
 obtain⟨c0,c1⟩:=two_at k0
 obtain⟨h0,h1,h2,h3,h4,h5,h6⟩:=seven_at k1
 clear hb0 k0 k1 k2 her hmz hR
 have hn1:¬(2:Int)=1:=by omega
 have hn6:¬(2:Int)=6:=by omega
 have hn7:¬(2:Int)=7:=by omega
 have q1:((2:Int)==1)=false:=by rw[beq_eq_false_iff_ne];exact hn1
 have q6:((2:Int)==6)=false:=by rw[beq_eq_false_iff_ne];exact hn6
 have q7:((2:Int)==7)=false:=by rw[beq_eq_false_iff_ne];exact hn7
 have hin:decide (2≤(2:Int)∧(2:Int)≤5)=true:=decide_eq_true (by omega)
 have CI:=hid (in_any 2 2 5 U)
 rw[hin]at CI
 have HEo:Hid (er=lonE ⟨n,b,np,P⟩ ⟨2,N,M,len,D,lp,X,need,of⟩):=by
  show er=_;rw[←HEr.out];unfold happE;rw[if_neg hn1,if_neg hn6,if_neg hn7,if_pos (of_decide_eq_true hin)]
 have HMo:Hid (mz=⟨n,b,np,lonP ⟨n,b,np,P⟩ ⟨2,N,M,len,D,lp,X,need,of⟩⟩):=by
  show mz=_;rw[←HMz.out];unfold happM;rw[if_neg hn1,if_neg hn6,if_neg hn7]
 clear hin hn1 hn6 hn7
 unfold meshV hapV
 go_enter Tryz.func16,Tryz.ntmps16
 go_wp2_with fail
 refine Calls.mono CI.out ?_
 rintro e wq ⟨rfl,hwq⟩
 subst wq
 obtain⟨k,rfl⟩:∃k:Nat,N=k:=⟨N.toNat,by omega⟩
 have hkn:k<np:=by omega
 have hlo:¬(k:Int)<0:=by omega
 have hhi:¬(k:Int)≥(np:Int):=by omega
 have hki:(k:Int)<(np:Int):=by omega
 have hnw:¬((k:Int)<0∨(np:Int)≤(k:Int)):=by omega
 obtain⟨bl,off,rfl,hbl,g0,g1,g2,g3⟩:=L0.out.at hkn
 obtain⟨ak,ck,hke,z1,z2⟩:=g3
 clear z1 z2
 rw[hke]at g2
 have HKe:=hid hke
 obtain⟨t0,ht0⟩:∃t,P.th k=t:=⟨_,rfl⟩
 rw[ht0]at g0
 have HT0:=hid ht0
 have hsU:w.heap.size+2<U.heap.size:=(Array.getElem?_eq_some_iff.1 D2.out).1
 clear hke ht0 hN
 cases t0 with
 |false =>
  have HE6:Hid (er=6):=by
   show er=6;rw[HEo.out];unfold lonE;show(if(k:Int)<0∨(np:Int)≤(k:Int)then(4:Int)else if(2:Int)=2 then(if P.th (k:Int).toNat=true then 0 else 6)else if(2:Int)=3 then(if P.th (k:Int).toNat=true then 6 else 0)else _)=6;rw[if_neg hnw,Int.toNat_natCast,HT0.out];rfl
  clear hnw;have hb1:=below_alloc U (.cells #[.bool false,.int .i64 (P.rm k),.slice ak (P.m k) ck] 41);have kp:=heap_alloc_new U (.cells #[.bool false,.int .i64 (P.rm k),.slice ak (P.m k) ck] 41);have D1b:=hid (stayB D1.out hb1);have D2b:=hid (stayB D2.out hb1);have B1:=hid (B0.out.trans (hb1.mono B0.out.size));obtain⟨U1,hU1⟩:∃u,U.alloc (.cells #[.bool false,.int .i64 (P.rm k),.slice ak (P.m k) ck] 41)=u:=⟨_,rfl⟩;rw[hU1]at D1b D2b B1 kp;obtain⟨i0,i1,i2,i3,i4,i5,i6⟩:=seven_at D1b.out;obtain⟨p0,p1,p2⟩:=three_at kp;clear hb1 kp;go_wp2_with fail
  refine Calls.mono (happBad (6) U1) ?_;rintro e w9 ⟨rfl,hb9⟩;have o9:=stayB D2b.out hb9;have HO9:=hid o9;have HB9:=hid (B1.out.trans (hb9.mono B1.out.size));obtain⟨r1,r2⟩:=two_at o9;have f1:=frozen_at (i:=0) o9;have f2:=frozen_at (i:=1) o9;clear o9 hb9;go_wp2;refine ret2 (put2_whole HO9.out _ _) Tryz.underlying27 ?_;have hee:=HE6.out;rw[hee];exact mesh_noneO (put2_below HB9.out (by omega)) (by omega)
 |true =>
  have HE0:Hid (er=0):=by
   show er=0;rw[HEo.out];unfold lonE;show(if(k:Int)<0∨(np:Int)≤(k:Int)then(4:Int)else if(2:Int)=2 then(if P.th (k:Int).toNat=true then 0 else 6)else if(2:Int)=3 then(if P.th (k:Int).toNat=true then 6 else 0)else _)=0;rw[if_neg hnw,Int.toNat_natCast,HT0.out];rfl
  have HM0:Hid (mz=⟨n,b,np,putB P k false⟩):=by
   show mz=_;rw[HMo.out];unfold lonP;show Ms.mk n b np (if(2:Int)=2 then putB P (k:Int).toNat false else if(2:Int)=3 then putB P (k:Int).toNat true else _)=_;rw[Int.toNat_natCast];rfl
  clear hnw;have hb1:=below_alloc U (.cells #[.bool true,.int .i64 (P.rm k),.slice ak (P.m k) ck] 41);have kp:=heap_alloc_new U (.cells #[.bool true,.int .i64 (P.rm k),.slice ak (P.m k) ck] 41);obtain⟨U1,hU1⟩:∃u,U.alloc (.cells #[.bool true,.int .i64 (P.rm k),.slice ak (P.m k) ck] 41)=u:=⟨_,rfl⟩;rw[hU1]at hb1 kp;have D0b:=hid (stayB D0.out hb1);have D1b:=hid (stayB D1.out hb1);have D2b:=hid (stayB D2.out hb1);have B1:=hid (B0.out.trans (hb1.mono B0.out.size));obtain⟨e0,e1⟩:=two_at D0b.out;obtain⟨i0,i1,i2,i3,i4,i5,i6⟩:=seven_at D1b.out;obtain⟨p0,p1,p2⟩:=three_at kp;have f0:=frozen_at (i:=0) kp;have hbz:Below w.heap.size w (U1.setCell ⟨U.heap.size,0,none⟩ (.bool false)):=B1.out.setCell (p:=⟨U.heap.size,0,none⟩) (by show w.heap.size≤U.heap.size;omega) _
  have hbq:Below U.heap.size U (U1.setCell ⟨U.heap.size,0,none⟩ (.bool false)):=hb1.setCell (p:=⟨U.heap.size,0,none⟩) (Nat.le_refl _) _;have j0:=D0b.out;have j1:=D1b.out;have j2:=D2b.out;rw[←Below.heap_setCell U1 ⟨U.heap.size,0,none⟩ (.bool false) w.heap.size (by show w.heap.size≠U.heap.size;omega)]at j0;rw[←Below.heap_setCell U1 ⟨U.heap.size,0,none⟩ (.bool false) (w.heap.size+1) (by show w.heap.size+1≠U.heap.size;omega)]at j1;rw[←Below.heap_setCell U1 ⟨U.heap.size,0,none⟩ (.bool false) (w.heap.size+2) (by show w.heap.size+2≠U.heap.size;omega)]at j2;have j3:(U1.setCell ⟨U.heap.size,0,none⟩ (.bool false)).heap[U.heap.size]?=some (.cells #[.bool false,.int .i64 (P.rm k),.slice ak (P.m k) ck] 41 (0,0)):=by simp[World.setCell,Array.getElem?_modify,kp]
  clear kp hb1 hU;have BZ:=hid hbz;have HQ:=hid hbq;have J0:=hid j0;have J1:=hid j1;have J2:=hid j2;have J3:=hid j3;have CL:=hid (cloneP (L0.out.up hbq) (by omega));clear hbz hbq j0 j1 j2 j3;go_wp2_with fail
  refine Calls.mono CL.out ?_;rintro e W2 ⟨v9,rfl,hown,hbW⟩;clear hU1;obtain⟨gp,cap,rfl,hgp,hcap,hrow⟩:=rowP_of hown (by omega);have hsz1:=(Array.getElem?_eq_some_iff.1 J3.out).1;have B2:=hid (BZ.out.trans (hbW.mono BZ.out.size));have K0:=hid (stayB J0.out hbW);have K1:=hid (stayB J1.out hbW);have K2:=hid (stayB J2.out hbW);have K3:=hid (stayB J3.out hbW);have HRw:=hid hrow;have HGp:=hid hgp;have HBW:=hid hbW;have hgU:w.heap.size+2<gp:=by omega
  have hBX:=hid (B2.out.setCell (p:=⟨w.heap.size,1,none⟩) (Nat.le_refl _) (.slice (some ⟨gp,0,none⟩) np cap));clear hown hbW hrow CL hgp hsz1;obtain⟨e0,e1⟩:=two_at K0.out;obtain⟨i0,i1,i2,i3,i4,i5,i6⟩:=seven_at K1.out;obtain⟨p0,p1,p2⟩:=three_at K3.out;obtain⟨r1,r2⟩:=two_at K2.out;have f1:=frozen_at (i:=0) K2.out;have f2:=frozen_at (i:=1) K2.out;have f3:=frozen_at (i:=1) K0.out;have f4:=HRw.out.free (k*3) (by omega);have f5:=HRw.out.free (k*3+1) (by omega);have f6:=HRw.out.free (k*3+2) (by omega);obtain⟨y0,y1,y2⟩:=HRw.out.cell k hkn;have hkv9:KV k=.slice ak (P.m k) ck:=HKe.out;rw[hkv9]at y2
  have HRz:=hid ((HRw.out.other (g':=w.heap.size) (o:=1) (by omega) (.slice (some ⟨gp,0,none⟩) np cap)).all3 (P':=putB P k false) hkn false (P.rm k) (.slice ak (P.m k) ck) (fun j hj=>by rfl) (fun j hj=>by show P.rm j=(if j=k then P.rm k else P.rm j);split<;>rename_i e<;>first|rw[e]|rfl));clear hkv9;go_wp2;have hz2:((((W2.setCell ⟨w.heap.size,1,none⟩ (.slice (some ⟨gp,0,none⟩) np cap)).setCell ⟨gp,k*3,none⟩ (.bool false)).setCell ⟨gp,k*3+1,none⟩ (.int .i64 (P.rm k))).setCell ⟨gp,k*3+2,none⟩ (.slice ak (P.m k) ck)).heap[w.heap.size+2]?=some (.cells #[.slice none 0 0,.slice none 0 0] 27 (0,0)):=by
   rw[Below.heap_setCell _ _ _ _ (by show w.heap.size+2≠gp;omega),Below.heap_setCell _ _ _ _ (by show w.heap.size+2≠gp;omega),Below.heap_setCell _ _ _ _ (by show w.heap.size+2≠gp;omega),Below.heap_setCell _ _ _ _ (by show w.heap.size+2≠w.heap.size;omega)];exact K2.out
  have hBZ:Below w.heap.size w ((((W2.setCell ⟨w.heap.size,1,none⟩ (.slice (some ⟨gp,0,none⟩) np cap)).setCell ⟨gp,k*3,none⟩ (.bool false)).setCell ⟨gp,k*3+1,none⟩ (.int .i64 (P.rm k))).setCell ⟨gp,k*3+2,none⟩ (.slice ak (P.m k) ck)) :=
   ((hBX.out.setCell (p:=⟨gp,k*3,none⟩) (by show w.heap.size≤gp;omega) _).setCell (p:=⟨gp,k*3+1,none⟩) (by show w.heap.size≤gp;omega) _).setCell (p:=⟨gp,k*3+2,none⟩) (by show w.heap.size≤gp;omega) _
  refine ret2 (put2_whole hz2 _ _) Tryz.underlying27 ?_;have hBf:=put2_below (u0:=.slice ab n cb) (u1:=.slice (some ⟨gp,0,none⟩) np cap) hBZ (show w.heap.size≤w.heap.size+2 by omega);have hk9:=HL.out.below hBf;have hee:=HE0.out;have hmm:=HM0.out;rw[hee,hmm];have POf:PsO w.heap.size I np (fun j=>if j=k then Value.slice ak (P.m k) ck else KV j) UV (putB P k false):=fun s hs hI j hj=>by
   have h9:=(HMq.out s hs hI).2.2 j hj;show KeOff s (if j=k then Value.slice ak (P.m k) ck else KV j) (P.m j) (UV j) (P.t j);by_cases e:j=k
   ·rw[if_pos e,←(show KV k=Value.slice ak (P.m k) ck from HKe.out),←e]
    exact h9
   rw[if_neg e];exact h9
  refine happ_finO (P:=putB P k false) HV.out hBf (RowP.other (RowP.other HRz.out (by omega) _) (by omega) _) hcap h8 (fun s hs hI=>(HMq.out s hs hI).1) (by omega) (UV:=UV) POf (fun j hj=>?_);obtain⟨_,_,_,_,_,_,_,g9⟩:=hk9.at hj;have hkj:(if j=k then Value.slice ak (P.m k) ck else KV j)=KV j:=by
   split
   ·rename_i e
    rw[e];exact HKe.out.symm
   rfl
  show KeSl _ _ (if j=k then Value.slice ak (P.m k) ck else KV j) (P.m j) (UV j) (P.t j);rw[hkj];exact g9.mono hBf.size
theorem happened_comeO(I:Nat→Prop)(vb:Value)(n:Nat)(PV:Nat→Value)(b:Bk)(vl:Value)(np:Nat)(KV:Nat→Value)(UV:Nat→Nat→Value)(P:Ps)(N M:Int)(vd:Value)(len:Nat)(D:Nat→Int)(vp:Value)(lp:Nat)(X:Nat→Int)(need of:Int)(w:World)
 (hv:VeSl w w.heap.size vb n PV b) (hl:PsSl w w.heap.size vl np KV UV P) (hd:IntSl w w.heap.size vd len D) (hp:IntSl w w.heap.size vp lp X) (hR:MeshR n b np P) (hmo:∀s,s<w.heap.size→I s→MsOff s vb n PV b vl np KV UV P) (hpo:∀s,s<w.heap.size→I s→OfB s lp vp) (hN:0≤N∧N<(np:Int)) :
 Calls Tryz.prog 16 #[meshV vb vl,hapV ⟨3,N,M,len,D,lp,X,need,of⟩ vd vp] w (MsPostO w (happE ⟨n,b,np,P⟩ ⟨3,N,M,len,D,lp,X,need,of⟩) (happM ⟨n,b,np,P⟩ ⟨3,N,M,len,D,lp,X,need,of⟩) I):=by
 have HV:=hid hv
 have HL:=hid hl
 have HD:=hid hd
 have HP:=hid hp
 have HR:=hid hR
 have HMq:=hid hmo
 have HPq:=hid hpo
 clear hmo hpo
 have h8:=hR.few
 obtain⟨ab,cb,rfl,z1,z2⟩:=hv
 clear z1 z2
 obtain⟨al,cl,rfl,z1,z2⟩:=hl
 clear z1 z2
 obtain⟨ad,cd,rfl,z1,z2⟩:=hd
 clear z1 z2
 obtain⟨ap,cp,rfl,z1,z2⟩:=hp
 clear z1 z2
 have hb0:Below w.heap.size w (((w.alloc (.cells #[.slice ab n cb,.slice al np cl] 27)).alloc (.cells #[.int .i64 3,.int .i64 N,.int .i64 M,.slice ad len cd,.slice ap lp cp,.int .i64 need,.int .i64 of] 30)).alloc (.cells #[.slice none 0 0,.slice none 0 0] 27)):=(((Below.refl w.heap.size w).alloc (Nat.le_refl _) _).alloc (by simp) _).alloc (by simp<;>omega) _
 obtain⟨k0,k1,k2⟩:=heap_threeW w (.cells #[.slice ab n cb,.slice al np cl] 27) (.cells #[.int .i64 3,.int .i64 N,.int .i64 M,.slice ad len cd,.slice ap lp cp,.int .i64 need,.int .i64 of] 30) (.cells #[.slice none 0 0,.slice none 0 0] 27)
 obtain⟨U,hU⟩:∃u,((w.alloc (.cells #[.slice ab n cb,.slice al np cl] 27)).alloc (.cells #[.int .i64 3,.int .i64 N,.int .i64 M,.slice ad len cd,.slice ap lp cp,.int .i64 need,.int .i64 of] 30)).alloc (.cells #[.slice none 0 0,.slice none 0 0] 27)=u:=⟨_,rfl⟩
 rw[hU]at hb0 k0 k1 k2
 obtain⟨er,her⟩:∃c,happE ⟨n,b,np,P⟩ ⟨3,N,M,len,D,lp,X,need,of⟩=c:=⟨_,rfl⟩
 obtain⟨mz,hmz⟩:∃m,happM ⟨n,b,np,P⟩ ⟨3,N,M,len,D,lp,X,need,of⟩=m:=⟨_,rfl⟩
 rw[her,hmz]
 have HEr:=hid her
 have HMz:=hid hmz
 have B0:=hid hb0
 have D0:=hid k0
 have D1:=hid k1
 have D2:=hid k2
 have V0:=hid (HV.out.up hb0)
 have L0:=hid (HL.out.up hb0)
 have N0:=hid (HD.out.up hb0)
 have Q0:=hid (HP.out.up hb0)
 obtain⟨c0,c1⟩:=two_at k0
 obtain⟨h0,h1,h2,h3,h4,h5,h6⟩:=seven_at k1
 clear hb0 k0 k1 k2 her hmz hR
 have hn1:¬(3:Int)=1:=by omega
 have hn6:¬(3:Int)=6:=by omega
 have hn7:¬(3:Int)=7:=by omega
 have q1:((3:Int)==1)=false:=by rw[beq_eq_false_iff_ne];exact hn1
 have q6:((3:Int)==6)=false:=by rw[beq_eq_false_iff_ne];exact hn6
 have q7:((3:Int)==7)=false:=by rw[beq_eq_false_iff_ne];exact hn7
 have hin:decide (2≤(3:Int)∧(3:Int)≤5)=true:=decide_eq_true (by omega)
 have CI:=hid (in_any 3 2 5 U)
 rw[hin]at CI
 have HEo:Hid (er=lonE ⟨n,b,np,P⟩ ⟨3,N,M,len,D,lp,X,need,of⟩):=by
  show er=_;rw[←HEr.out];unfold happE;rw[if_neg hn1,if_neg hn6,if_neg hn7,if_pos (of_decide_eq_true hin)]
 have HMo:Hid (mz=⟨n,b,np,lonP ⟨n,b,np,P⟩ ⟨3,N,M,len,D,lp,X,need,of⟩⟩):=by
  show mz=_;rw[←HMz.out];unfold happM;rw[if_neg hn1,if_neg hn6,if_neg hn7]
 clear hin hn1 hn6 hn7
 unfold meshV hapV
 go_enter Tryz.func16,Tryz.ntmps16
 go_wp2_with fail
 refine Calls.mono CI.out ?_
 rintro e wq ⟨rfl,hwq⟩
 subst wq
 obtain⟨k,rfl⟩:∃k:Nat,N=k:=⟨N.toNat,by omega⟩
 have hkn:k<np:=by omega
 have hlo:¬(k:Int)<0:=by omega
 have hhi:¬(k:Int)≥(np:Int):=by omega
 have hki:(k:Int)<(np:Int):=by omega
 have hnw:¬((k:Int)<0∨(np:Int)≤(k:Int)):=by omega
 obtain⟨bl,off,rfl,hbl,g0,g1,g2,g3⟩:=L0.out.at hkn
 obtain⟨ak,ck,hke,z1,z2⟩:=g3
 clear z1 z2
 rw[hke]at g2
 have HKe:=hid hke
 obtain⟨t0,ht0⟩:∃t,P.th k=t:=⟨_,rfl⟩
 rw[ht0]at g0
 have HT0:=hid ht0
 have hsU:w.heap.size+2<U.heap.size:=(Array.getElem?_eq_some_iff.1 D2.out).1
 clear hke ht0 hN
 cases t0 with
 |true =>
  have HE6:Hid (er=6):=by
   show er=6;rw[HEo.out];unfold lonE;show(if(k:Int)<0∨(np:Int)≤(k:Int)then(4:Int)else if(3:Int)=2 then(if P.th (k:Int).toNat=true then 0 else 6)else if(3:Int)=3 then(if P.th (k:Int).toNat=true then 6 else 0)else _)=6;rw[if_neg hnw,Int.toNat_natCast,HT0.out];rfl
  clear hnw;have hb1:=below_alloc U (.cells #[.bool true,.int .i64 (P.rm k),.slice ak (P.m k) ck] 41);have kp:=heap_alloc_new U (.cells #[.bool true,.int .i64 (P.rm k),.slice ak (P.m k) ck] 41);have D1b:=hid (stayB D1.out hb1);have D2b:=hid (stayB D2.out hb1);have B1:=hid (B0.out.trans (hb1.mono B0.out.size));obtain⟨U1,hU1⟩:∃u,U.alloc (.cells #[.bool true,.int .i64 (P.rm k),.slice ak (P.m k) ck] 41)=u:=⟨_,rfl⟩;rw[hU1]at D1b D2b B1 kp;obtain⟨i0,i1,i2,i3,i4,i5,i6⟩:=seven_at D1b.out;obtain⟨p0,p1,p2⟩:=three_at kp;clear hb1 kp;go_wp2_with fail
  refine Calls.mono (happBad (6) U1) ?_;rintro e w9 ⟨rfl,hb9⟩;have o9:=stayB D2b.out hb9;have HO9:=hid o9;have HB9:=hid (B1.out.trans (hb9.mono B1.out.size));obtain⟨r1,r2⟩:=two_at o9;have f1:=frozen_at (i:=0) o9;have f2:=frozen_at (i:=1) o9;clear o9 hb9;go_wp2;refine ret2 (put2_whole HO9.out _ _) Tryz.underlying27 ?_;have hee:=HE6.out;rw[hee];exact mesh_noneO (put2_below HB9.out (by omega)) (by omega)
 |false =>
  have HE0:Hid (er=0):=by
   show er=0;rw[HEo.out];unfold lonE;show(if(k:Int)<0∨(np:Int)≤(k:Int)then(4:Int)else if(3:Int)=2 then(if P.th (k:Int).toNat=true then 0 else 6)else if(3:Int)=3 then(if P.th (k:Int).toNat=true then 6 else 0)else _)=0;rw[if_neg hnw,Int.toNat_natCast,HT0.out];rfl
  have HM0:Hid (mz=⟨n,b,np,putB P k true⟩):=by
   show mz=_;rw[HMo.out];unfold lonP;show Ms.mk n b np (if(3:Int)=2 then putB P (k:Int).toNat false else if(3:Int)=3 then putB P (k:Int).toNat true else _)=_;rw[Int.toNat_natCast];rfl
  clear hnw;have hb1:=below_alloc U (.cells #[.bool false,.int .i64 (P.rm k),.slice ak (P.m k) ck] 41);have kp:=heap_alloc_new U (.cells #[.bool false,.int .i64 (P.rm k),.slice ak (P.m k) ck] 41);obtain⟨U1,hU1⟩:∃u,U.alloc (.cells #[.bool false,.int .i64 (P.rm k),.slice ak (P.m k) ck] 41)=u:=⟨_,rfl⟩;rw[hU1]at hb1 kp;have D0b:=hid (stayB D0.out hb1);have D1b:=hid (stayB D1.out hb1);have D2b:=hid (stayB D2.out hb1);have B1:=hid (B0.out.trans (hb1.mono B0.out.size));obtain⟨e0,e1⟩:=two_at D0b.out;obtain⟨i0,i1,i2,i3,i4,i5,i6⟩:=seven_at D1b.out;obtain⟨p0,p1,p2⟩:=three_at kp;have f0:=frozen_at (i:=0) kp;have hbz:Below w.heap.size w (U1.setCell ⟨U.heap.size,0,none⟩ (.bool true)):=B1.out.setCell (p:=⟨U.heap.size,0,none⟩) (by show w.heap.size≤U.heap.size;omega) _
  have hbq:Below U.heap.size U (U1.setCell ⟨U.heap.size,0,none⟩ (.bool true)):=hb1.setCell (p:=⟨U.heap.size,0,none⟩) (Nat.le_refl _) _;have j0:=D0b.out;have j1:=D1b.out;have j2:=D2b.out;rw[←Below.heap_setCell U1 ⟨U.heap.size,0,none⟩ (.bool true) w.heap.size (by show w.heap.size≠U.heap.size;omega)]at j0;rw[←Below.heap_setCell U1 ⟨U.heap.size,0,none⟩ (.bool true) (w.heap.size+1) (by show w.heap.size+1≠U.heap.size;omega)]at j1;rw[←Below.heap_setCell U1 ⟨U.heap.size,0,none⟩ (.bool true) (w.heap.size+2) (by show w.heap.size+2≠U.heap.size;omega)]at j2;have j3:(U1.setCell ⟨U.heap.size,0,none⟩ (.bool true)).heap[U.heap.size]?=some (.cells #[.bool true,.int .i64 (P.rm k),.slice ak (P.m k) ck] 41 (0,0)):=by simp[World.setCell,Array.getElem?_modify,kp]
  clear kp hb1 hU;have BZ:=hid hbz;have HQ:=hid hbq;have J0:=hid j0;have J1:=hid j1;have J2:=hid j2;have J3:=hid j3;have CL:=hid (cloneP (L0.out.up hbq) (by omega));clear hbz hbq j0 j1 j2 j3;go_wp2_with fail
  refine Calls.mono CL.out ?_;rintro e W2 ⟨v9,rfl,hown,hbW⟩;clear hU1;obtain⟨gp,cap,rfl,hgp,hcap,hrow⟩:=rowP_of hown (by omega);have hsz1:=(Array.getElem?_eq_some_iff.1 J3.out).1;have B2:=hid (BZ.out.trans (hbW.mono BZ.out.size));have K0:=hid (stayB J0.out hbW);have K1:=hid (stayB J1.out hbW);have K2:=hid (stayB J2.out hbW);have K3:=hid (stayB J3.out hbW);have HRw:=hid hrow;have HGp:=hid hgp;have HBW:=hid hbW;have hgU:w.heap.size+2<gp:=by omega
  have hBX:=hid (B2.out.setCell (p:=⟨w.heap.size,1,none⟩) (Nat.le_refl _) (.slice (some ⟨gp,0,none⟩) np cap));clear hown hbW hrow CL hgp hsz1;obtain⟨e0,e1⟩:=two_at K0.out;obtain⟨i0,i1,i2,i3,i4,i5,i6⟩:=seven_at K1.out;obtain⟨p0,p1,p2⟩:=three_at K3.out;obtain⟨r1,r2⟩:=two_at K2.out;have f1:=frozen_at (i:=0) K2.out;have f2:=frozen_at (i:=1) K2.out;have f3:=frozen_at (i:=1) K0.out;have f4:=HRw.out.free (k*3) (by omega);have f5:=HRw.out.free (k*3+1) (by omega);have f6:=HRw.out.free (k*3+2) (by omega);obtain⟨y0,y1,y2⟩:=HRw.out.cell k hkn;have hkv9:KV k=.slice ak (P.m k) ck:=HKe.out;rw[hkv9]at y2
  have HRz:=hid ((HRw.out.other (g':=w.heap.size) (o:=1) (by omega) (.slice (some ⟨gp,0,none⟩) np cap)).all3 (P':=putB P k true) hkn true (P.rm k) (.slice ak (P.m k) ck) (fun j hj=>by rfl) (fun j hj=>by show P.rm j=(if j=k then P.rm k else P.rm j);split<;>rename_i e<;>first|rw[e]|rfl));clear hkv9;go_wp2;have hz2:((((W2.setCell ⟨w.heap.size,1,none⟩ (.slice (some ⟨gp,0,none⟩) np cap)).setCell ⟨gp,k*3,none⟩ (.bool true)).setCell ⟨gp,k*3+1,none⟩ (.int .i64 (P.rm k))).setCell ⟨gp,k*3+2,none⟩ (.slice ak (P.m k) ck)).heap[w.heap.size+2]?=some (.cells #[.slice none 0 0,.slice none 0 0] 27 (0,0)):=by
   rw[Below.heap_setCell _ _ _ _ (by show w.heap.size+2≠gp;omega),Below.heap_setCell _ _ _ _ (by show w.heap.size+2≠gp;omega),Below.heap_setCell _ _ _ _ (by show w.heap.size+2≠gp;omega),Below.heap_setCell _ _ _ _ (by show w.heap.size+2≠w.heap.size;omega)];exact K2.out
  have hBZ:Below w.heap.size w ((((W2.setCell ⟨w.heap.size,1,none⟩ (.slice (some ⟨gp,0,none⟩) np cap)).setCell ⟨gp,k*3,none⟩ (.bool true)).setCell ⟨gp,k*3+1,none⟩ (.int .i64 (P.rm k))).setCell ⟨gp,k*3+2,none⟩ (.slice ak (P.m k) ck)) :=
   ((hBX.out.setCell (p:=⟨gp,k*3,none⟩) (by show w.heap.size≤gp;omega) _).setCell (p:=⟨gp,k*3+1,none⟩) (by show w.heap.size≤gp;omega) _).setCell (p:=⟨gp,k*3+2,none⟩) (by show w.heap.size≤gp;omega) _
  refine ret2 (put2_whole hz2 _ _) Tryz.underlying27 ?_;have hBf:=put2_below (u0:=.slice ab n cb) (u1:=.slice (some ⟨gp,0,none⟩) np cap) hBZ (show w.heap.size≤w.heap.size+2 by omega);have hk9:=HL.out.below hBf;have hee:=HE0.out;have hmm:=HM0.out;rw[hee,hmm];have POf:PsO w.heap.size I np (fun j=>if j=k then Value.slice ak (P.m k) ck else KV j) UV (putB P k true):=fun s hs hI j hj=>by
   have h9:=(HMq.out s hs hI).2.2 j hj;show KeOff s (if j=k then Value.slice ak (P.m k) ck else KV j) (P.m j) (UV j) (P.t j);by_cases e:j=k
   ·rw[if_pos e,←(show KV k=Value.slice ak (P.m k) ck from HKe.out),←e]
    exact h9
   rw[if_neg e];exact h9
  refine happ_finO (P:=putB P k true) HV.out hBf (RowP.other (RowP.other HRz.out (by omega) _) (by omega) _) hcap h8 (fun s hs hI=>(HMq.out s hs hI).1) (by omega) (UV:=UV) POf (fun j hj=>?_);obtain⟨_,_,_,_,_,_,_,g9⟩:=hk9.at hj;have hkj:(if j=k then Value.slice ak (P.m k) ck else KV j)=KV j:=by
   split
   ·rename_i e
    rw[e];exact HKe.out.symm
   rfl
  show KeSl _ _ (if j=k then Value.slice ak (P.m k) ck else KV j) (P.m j) (UV j) (P.t j);rw[hkj];exact g9.mono hBf.size
theorem happened_loseO(I:Nat→Prop)(vb:Value)(n:Nat)(PV:Nat→Value)(b:Bk)(vl:Value)(np:Nat)(KV:Nat→Value)(UV:Nat→Nat→Value)(P:Ps)(N M:Int)(vd:Value)(len:Nat)(D:Nat→Int)(vp:Value)(lp:Nat)(X:Nat→Int)(need of:Int)(w:World)
 (hv:VeSl w w.heap.size vb n PV b) (hl:PsSl w w.heap.size vl np KV UV P) (hd:IntSl w w.heap.size vd len D) (hp:IntSl w w.heap.size vp lp X) (hR:MeshR n b np P) (hmo:∀s,s<w.heap.size→I s→MsOff s vb n PV b vl np KV UV P) (hpo:∀s,s<w.heap.size→I s→OfB s lp vp) (hN:0≤N∧N<(np:Int)) :
 Calls Tryz.prog 16 #[meshV vb vl,hapV ⟨4,N,M,len,D,lp,X,need,of⟩ vd vp] w (MsPostO w (happE ⟨n,b,np,P⟩ ⟨4,N,M,len,D,lp,X,need,of⟩) (happM ⟨n,b,np,P⟩ ⟨4,N,M,len,D,lp,X,need,of⟩) I):=by
 have HV:=hid hv
 have HL:=hid hl
 have HD:=hid hd
 have HP:=hid hp
 have HR:=hid hR
 have HMq:=hid hmo
 have HPq:=hid hpo
 clear hmo hpo
 have h8:=hR.few
 obtain⟨ab,cb,rfl,z1,z2⟩:=hv
 clear z1 z2
 obtain⟨al,cl,rfl,z1,z2⟩:=hl
 clear z1 z2
 obtain⟨ad,cd,rfl,z1,z2⟩:=hd
 clear z1 z2
 obtain⟨ap,cp,rfl,z1,z2⟩:=hp
 clear z1 z2
 have hb0:Below w.heap.size w (((w.alloc (.cells #[.slice ab n cb,.slice al np cl] 27)).alloc (.cells #[.int .i64 4,.int .i64 N,.int .i64 M,.slice ad len cd,.slice ap lp cp,.int .i64 need,.int .i64 of] 30)).alloc (.cells #[.slice none 0 0,.slice none 0 0] 27)):=(((Below.refl w.heap.size w).alloc (Nat.le_refl _) _).alloc (by simp) _).alloc (by simp<;>omega) _
 obtain⟨k0,k1,k2⟩:=heap_threeW w (.cells #[.slice ab n cb,.slice al np cl] 27) (.cells #[.int .i64 4,.int .i64 N,.int .i64 M,.slice ad len cd,.slice ap lp cp,.int .i64 need,.int .i64 of] 30) (.cells #[.slice none 0 0,.slice none 0 0] 27)
 obtain⟨U,hU⟩:∃u,((w.alloc (.cells #[.slice ab n cb,.slice al np cl] 27)).alloc (.cells #[.int .i64 4,.int .i64 N,.int .i64 M,.slice ad len cd,.slice ap lp cp,.int .i64 need,.int .i64 of] 30)).alloc (.cells #[.slice none 0 0,.slice none 0 0] 27)=u:=⟨_,rfl⟩
 rw[hU]at hb0 k0 k1 k2
 obtain⟨er,her⟩:∃c,happE ⟨n,b,np,P⟩ ⟨4,N,M,len,D,lp,X,need,of⟩=c:=⟨_,rfl⟩
 obtain⟨mz,hmz⟩:∃m,happM ⟨n,b,np,P⟩ ⟨4,N,M,len,D,lp,X,need,of⟩=m:=⟨_,rfl⟩
 rw[her,hmz]
 have HEr:=hid her
 have HMz:=hid hmz
 have B0:=hid hb0
 have D0:=hid k0
 have D1:=hid k1
 have D2:=hid k2
 have V0:=hid (HV.out.up hb0)
 have L0:=hid (HL.out.up hb0)
 have N0:=hid (HD.out.up hb0)
 have Q0:=hid (HP.out.up hb0)
 obtain⟨c0,c1⟩:=two_at k0
 obtain⟨h0,h1,h2,h3,h4,h5,h6⟩:=seven_at k1
 clear hb0 k0 k1 k2 her hmz hR
 have hn1:¬(4:Int)=1:=by omega
 have hn6:¬(4:Int)=6:=by omega
 have hn7:¬(4:Int)=7:=by omega
 have q1:((4:Int)==1)=false:=by rw[beq_eq_false_iff_ne];exact hn1
 have q6:((4:Int)==6)=false:=by rw[beq_eq_false_iff_ne];exact hn6
 have q7:((4:Int)==7)=false:=by rw[beq_eq_false_iff_ne];exact hn7
 have hin:decide (2≤(4:Int)∧(4:Int)≤5)=true:=decide_eq_true (by omega)
 have CI:=hid (in_any 4 2 5 U)
 rw[hin]at CI
 have HEo:Hid (er=lonE ⟨n,b,np,P⟩ ⟨4,N,M,len,D,lp,X,need,of⟩):=by
  show er=_;rw[←HEr.out];unfold happE;rw[if_neg hn1,if_neg hn6,if_neg hn7,if_pos (of_decide_eq_true hin)]
 have HMo:Hid (mz=⟨n,b,np,lonP ⟨n,b,np,P⟩ ⟨4,N,M,len,D,lp,X,need,of⟩⟩):=by
  show mz=_;rw[←HMz.out];unfold happM;rw[if_neg hn1,if_neg hn6,if_neg hn7]
 clear hin hn1 hn6 hn7
 unfold meshV hapV
 go_enter Tryz.func16,Tryz.ntmps16
 go_wp2_with fail
 refine Calls.mono CI.out ?_
 rintro e wq ⟨rfl,hwq⟩
 subst wq
 obtain⟨k,rfl⟩:∃k:Nat,N=k:=⟨N.toNat,by omega⟩
 have hkn:k<np:=by omega
 have hlo:¬(k:Int)<0:=by omega
 have hhi:¬(k:Int)≥(np:Int):=by omega
 have hki:(k:Int)<(np:Int):=by omega
 have hnw:¬((k:Int)<0∨(np:Int)≤(k:Int)):=by omega
 obtain⟨bl,off,rfl,hbl,g0,g1,g2,g3⟩:=L0.out.at hkn
 have G3:=hid g3
 obtain⟨ak,ck,hke,z1,z2⟩:=g3
 clear z1 z2
 rw[hke]at g2 G3
 have HKe:=hid hke
 obtain⟨t0,ht0⟩:∃t,P.th k=t:=⟨_,rfl⟩
 rw[ht0]at g0
 have HT0:=hid ht0
 have hsU:w.heap.size+2<U.heap.size:=(Array.getElem?_eq_some_iff.1 D2.out).1
 clear hke ht0 hN
 have hb1:=below_alloc U (.cells #[.bool t0,.int .i64 (P.rm k),.slice ak (P.m k) ck] 41)
 have kp:=heap_alloc_new U (.cells #[.bool t0,.int .i64 (P.rm k),.slice ak (P.m k) ck] 41)
 obtain⟨U1,hU1⟩:∃u,U.alloc (.cells #[.bool t0,.int .i64 (P.rm k),.slice ak (P.m k) ck] 41)=u:=⟨_,rfl⟩
 rw[hU1]at hb1 kp
 have D0b:=hid (stayB D0.out hb1)
 have D1b:=hid (stayB D1.out hb1)
 have D2b:=hid (stayB D2.out hb1)
 have B1:=hid (B0.out.trans (hb1.mono B0.out.size))
 obtain⟨e0,e1⟩:=two_at D0b.out
 obtain⟨i0,i1,i2,i3,i4,i5,i6⟩:=seven_at D1b.out
 obtain⟨p0,p1,p2⟩:=three_at kp
 have HE0:Hid (er=0):=by
  show er=0;rw[HEo.out];unfold lonE;show(if(k:Int)<0∨(np:Int)≤(k:Int)then(4:Int)else _)=0;rw[if_neg hnw];rfl
 have HM0:Hid (mz=⟨n,b,np,putT P k 0 (P.t k)⟩):=by
  show mz=_;rw[HMo.out];unfold lonP;show Ms.mk n b np (putT P (k:Int).toNat 0 (P.t (k:Int).toNat))=_;rw[Int.toNat_natCast]
 clear hnw
 have f0:=frozen_at (i:=2) kp
 have hbz:Below w.heap.size w (U1.setCell ⟨U.heap.size,2,none⟩ (.slice none 0 0)):=B1.out.setCell (p:=⟨U.heap.size,2,none⟩) (by show w.heap.size≤U.heap.size;omega) _
 have hbq:Below U.heap.size U (U1.setCell ⟨U.heap.size,2,none⟩ (.slice none 0 0)):=hb1.setCell (p:=⟨U.heap.size,2,none⟩) (Nat.le_refl _) _
 have j0:=D0b.out
 have j1:=D1b.out
 have j2:=D2b.out
 rw[←Below.heap_setCell U1 ⟨U.heap.size,2,none⟩ (.slice none 0 0) w.heap.size (by show w.heap.size≠U.heap.size;omega)]at j0
 rw[←Below.heap_setCell U1 ⟨U.heap.size,2,none⟩ (.slice none 0 0) (w.heap.size+1) (by show w.heap.size+1≠U.heap.size;omega)]at j1
 rw[←Below.heap_setCell U1 ⟨U.heap.size,2,none⟩ (.slice none 0 0) (w.heap.size+2) (by show w.heap.size+2≠U.heap.size;omega)]at j2
 have j3:(U1.setCell ⟨U.heap.size,2,none⟩ (.slice none 0 0)).heap[U.heap.size]?=some (.cells #[.bool t0,.int .i64 (P.rm k),.slice none 0 0] 41 (0,0)):=set_three kp _
 clear kp hb1 hU
 have BZ:=hid hbz
 have HQ:=hid hbq
 have J0:=hid j0
 have J1:=hid j1
 have J2:=hid j2
 have J3:=hid j3
 have CL:=hid (cloneP (L0.out.up hbq) (by omega))
 clear hbz hbq j0 j1 j2 j3
 go_wp2_with fail
 refine Calls.mono CL.out ?_
 rintro e W2 ⟨v9,rfl,hown,hbW⟩
 clear hU1
 obtain⟨gp,cap,rfl,hgp,hcap,hrow⟩:=rowP_of hown (by omega)
 have hsz1:=(Array.getElem?_eq_some_iff.1 J3.out).1
 have B2:=hid (BZ.out.trans (hbW.mono BZ.out.size))
 have K0:=hid (stayB J0.out hbW)
 have K1:=hid (stayB J1.out hbW)
 have K2:=hid (stayB J2.out hbW)
 have K3:=hid (stayB J3.out hbW)
 have HRw:=hid hrow
 have HGp:=hid hgp
 have HBW:=hid hbW
 have hgU:w.heap.size+2<gp:=by omega
 have hBX:=hid (B2.out.setCell (p:=⟨w.heap.size,1,none⟩) (Nat.le_refl _) (.slice (some ⟨gp,0,none⟩) np cap))
 clear hown hbW hrow CL hgp hsz1
 obtain⟨e0,e1⟩:=two_at K0.out
 obtain⟨i0,i1,i2,i3,i4,i5,i6⟩:=seven_at K1.out
 obtain⟨p0,p1,p2⟩:=three_at K3.out
 obtain⟨r1,r2⟩:=two_at K2.out
 have f1:=frozen_at (i:=0) K2.out
 have f2:=frozen_at (i:=1) K2.out
 have f3:=frozen_at (i:=1) K0.out
 have f4:=HRw.out.free (k*3) (by omega)
 have f5:=HRw.out.free (k*3+1) (by omega)
 have f6:=HRw.out.free (k*3+2) (by omega)
 obtain⟨y0,y1,y2⟩:=HRw.out.cell k hkn
 have hkv9:KV k=.slice ak (P.m k) ck:=HKe.out
 rw[hkv9]at y2
 have HRz:=hid ((HRw.out.other (g':=w.heap.size) (o:=1) (by omega) (.slice (some ⟨gp,0,none⟩) np cap)).all3 (P':=putT P k 0 (P.t k)) hkn t0 (P.rm k) (.slice none 0 0) (fun j hj=>by show P.th j=(if j=k then t0 else P.th j);split<;>rename_i e<;>first|(rw[e];exact HT0.out)|rfl) (fun j hj=>by show P.rm j=(if j=k then P.rm k else P.rm j);split<;>rename_i e<;>first|rw[e]|rfl))
 clear hkv9
 go_wp2
 have hz2:((((W2.setCell ⟨w.heap.size,1,none⟩ (.slice (some ⟨gp,0,none⟩) np cap)).setCell ⟨gp,k*3,none⟩ (.bool t0)).setCell ⟨gp,k*3+1,none⟩ (.int .i64 (P.rm k))).setCell ⟨gp,k*3+2,none⟩ (.slice none 0 0)).heap[w.heap.size+2]?=some (.cells #[.slice none 0 0,.slice none 0 0] 27 (0,0)):=by
  rw[Below.heap_setCell _ _ _ _ (by show w.heap.size+2≠gp;omega),Below.heap_setCell _ _ _ _ (by show w.heap.size+2≠gp;omega),Below.heap_setCell _ _ _ _ (by show w.heap.size+2≠gp;omega),Below.heap_setCell _ _ _ _ (by show w.heap.size+2≠w.heap.size;omega)];exact K2.out
 have hBZ:Below w.heap.size w ((((W2.setCell ⟨w.heap.size,1,none⟩ (.slice (some ⟨gp,0,none⟩) np cap)).setCell ⟨gp,k*3,none⟩ (.bool t0)).setCell ⟨gp,k*3+1,none⟩ (.int .i64 (P.rm k))).setCell ⟨gp,k*3+2,none⟩ (.slice none 0 0)) :=
  ((hBX.out.setCell (p:=⟨gp,k*3,none⟩) (by show w.heap.size≤gp;omega) _).setCell (p:=⟨gp,k*3+1,none⟩) (by show w.heap.size≤gp;omega) _).setCell (p:=⟨gp,k*3+2,none⟩) (by show w.heap.size≤gp;omega) _
 refine ret2 (put2_whole hz2 _ _) Tryz.underlying27 ?_
 have hBf:=put2_below (u0:=.slice ab n cb) (u1:=.slice (some ⟨gp,0,none⟩) np cap) hBZ (show w.heap.size≤w.heap.size+2 by omega)
 have hk9:=HL.out.below hBf
 have hee:=HE0.out
 have hmm:=HM0.out
 rw[hee,hmm]
 have POf:PsO w.heap.size I np (fun j=>if j=k then Value.slice none 0 0 else KV j) UV (putT P k 0 (P.t k)):=fun s hs hI j hj=>by
  have h9:=(HMq.out s hs hI).2.2 j hj;show KeOff s (if j=k then Value.slice none 0 0 else KV j) (if j=k then 0 else P.m j) (UV j) (if j=k then P.t k else P.t j);by_cases e:j=k
  ·rw[if_pos e,if_pos e,if_pos e]
   exact⟨Or.inl rfl,fun i hi=>absurd hi (Nat.not_lt_zero _)⟩
  rw[if_neg e,if_neg e,if_neg e];exact h9
 refine happ_finO (P:=putT P k 0 (P.t k)) HV.out hBf (RowP.other (RowP.other HRz.out (by omega) _) (by omega) _) hcap h8 (fun s hs hI=>(HMq.out s hs hI).1) (by omega) (UV:=UV) POf (fun j hj=>?_)
 obtain⟨_,_,_,_,_,_,_,g9⟩:=hk9.at hj
 show KeSl _ _ (if j=k then Value.slice none 0 0 else KV j) (if j=k then 0 else P.m j) (UV j) (if j=k then P.t k else P.t j)
 by_cases e:j=k
 ·rw[if_pos e,if_pos e,if_pos e]
  exact⟨none,0,rfl,⟨Nat.le_refl _,by omega⟩,Or.inl rfl⟩
 ·rw[if_neg e,if_neg e,if_neg e]
  exact g9.mono hBf.size
theorem happened_bendO(I:Nat→Prop)(vb:Value)(n:Nat)(PV:Nat→Value)(b:Bk)(vl:Value)(np:Nat)(KV:Nat→Value)(UV:Nat→Nat→Value)(P:Ps)(N M:Int)(vd:Value)(len:Nat)(D:Nat→Int)(vp:Value)(lp:Nat)(X:Nat→Int)(need of:Int)(w:World)
 (hv:VeSl w w.heap.size vb n PV b) (hl:PsSl w w.heap.size vl np KV UV P) (hd:IntSl w w.heap.size vd len D) (hp:IntSl w w.heap.size vp lp X) (hR:MeshR n b np P) (hmo:∀s,s<w.heap.size→I s→MsOff s vb n PV b vl np KV UV P) (hpo:∀s,s<w.heap.size→I s→OfB s lp vp) (hN:0≤N∧N<(np:Int)) :
 Calls Tryz.prog 16 #[meshV vb vl,hapV ⟨5,N,M,len,D,lp,X,need,of⟩ vd vp] w (MsPostO w (happE ⟨n,b,np,P⟩ ⟨5,N,M,len,D,lp,X,need,of⟩) (happM ⟨n,b,np,P⟩ ⟨5,N,M,len,D,lp,X,need,of⟩) I):=by
 have HV:=hid hv
 have HL:=hid hl
 have HD:=hid hd
 have HP:=hid hp
 have HR:=hid hR
 have HMq:=hid hmo
 have HPq:=hid hpo
 clear hmo hpo
 have h8:=hR.few
 obtain⟨ab,cb,rfl,z1,z2⟩:=hv
 clear z1 z2
 obtain⟨al,cl,rfl,z1,z2⟩:=hl
 clear z1 z2
 obtain⟨ad,cd,rfl,z1,z2⟩:=hd
 clear z1 z2
 obtain⟨ap,cp,rfl,z1,z2⟩:=hp
 clear z1 z2
 have hb0:Below w.heap.size w (((w.alloc (.cells #[.slice ab n cb,.slice al np cl] 27)).alloc (.cells #[.int .i64 5,.int .i64 N,.int .i64 M,.slice ad len cd,.slice ap lp cp,.int .i64 need,.int .i64 of] 30)).alloc (.cells #[.slice none 0 0,.slice none 0 0] 27)):=(((Below.refl w.heap.size w).alloc (Nat.le_refl _) _).alloc (by simp) _).alloc (by simp<;>omega) _
 obtain⟨k0,k1,k2⟩:=heap_threeW w (.cells #[.slice ab n cb,.slice al np cl] 27) (.cells #[.int .i64 5,.int .i64 N,.int .i64 M,.slice ad len cd,.slice ap lp cp,.int .i64 need,.int .i64 of] 30) (.cells #[.slice none 0 0,.slice none 0 0] 27)
 obtain⟨U,hU⟩:∃u,((w.alloc (.cells #[.slice ab n cb,.slice al np cl] 27)).alloc (.cells #[.int .i64 5,.int .i64 N,.int .i64 M,.slice ad len cd,.slice ap lp cp,.int .i64 need,.int .i64 of] 30)).alloc (.cells #[.slice none 0 0,.slice none 0 0] 27)=u:=⟨_,rfl⟩
 rw[hU]at hb0 k0 k1 k2
 obtain⟨er,her⟩:∃c,happE ⟨n,b,np,P⟩ ⟨5,N,M,len,D,lp,X,need,of⟩=c:=⟨_,rfl⟩
 obtain⟨mz,hmz⟩:∃m,happM ⟨n,b,np,P⟩ ⟨5,N,M,len,D,lp,X,need,of⟩=m:=⟨_,rfl⟩
 rw[her,hmz]
 have HEr:=hid her
 have HMz:=hid hmz
 have B0:=hid hb0
 have D0:=hid k0
 have D1:=hid k1
 have D2:=hid k2
 have V0:=hid (HV.out.up hb0)
 have L0:=hid (HL.out.up hb0)
 have N0:=hid (HD.out.up hb0)
 have Q0:=hid (HP.out.up hb0)
 obtain⟨c0,c1⟩:=two_at k0
 obtain⟨h0,h1,h2,h3,h4,h5,h6⟩:=seven_at k1
 clear hb0 k0 k1 k2 her hmz hR
 have hn1:¬(5:Int)=1:=by omega
 have hn6:¬(5:Int)=6:=by omega
 have hn7:¬(5:Int)=7:=by omega
 have q1:((5:Int)==1)=false:=by rw[beq_eq_false_iff_ne];exact hn1
 have q6:((5:Int)==6)=false:=by rw[beq_eq_false_iff_ne];exact hn6
 have q7:((5:Int)==7)=false:=by rw[beq_eq_false_iff_ne];exact hn7
 have hin:decide (2≤(5:Int)∧(5:Int)≤5)=true:=decide_eq_true (by omega)
 have CI:=hid (in_any 5 2 5 U)
 rw[hin]at CI
 have HEo:Hid (er=lonE ⟨n,b,np,P⟩ ⟨5,N,M,len,D,lp,X,need,of⟩):=by
  show er=_;rw[←HEr.out];unfold happE;rw[if_neg hn1,if_neg hn6,if_neg hn7,if_pos (of_decide_eq_true hin)]
 have HMo:Hid (mz=⟨n,b,np,lonP ⟨n,b,np,P⟩ ⟨5,N,M,len,D,lp,X,need,of⟩⟩):=by
  show mz=_;rw[←HMz.out];unfold happM;rw[if_neg hn1,if_neg hn6,if_neg hn7]
 clear hin hn1 hn6 hn7
 unfold meshV hapV
 go_enter Tryz.func16,Tryz.ntmps16
 go_wp2_with fail
 refine Calls.mono CI.out ?_
 rintro e wq ⟨rfl,hwq⟩
 subst wq
 obtain⟨k,rfl⟩:∃k:Nat,N=k:=⟨N.toNat,by omega⟩
 have hkn:k<np:=by omega
 have hlo:¬(k:Int)<0:=by omega
 have hhi:¬(k:Int)≥(np:Int):=by omega
 have hki:(k:Int)<(np:Int):=by omega
 have hnw:¬((k:Int)<0∨(np:Int)≤(k:Int)):=by omega
 obtain⟨bl,off,rfl,hbl,g0,g1,g2,g3⟩:=L0.out.at hkn
 have G3:=hid g3
 obtain⟨ak,ck,hke,z1,z2⟩:=g3
 clear z1 z2
 rw[hke]at g2 G3
 have HKe:=hid hke
 obtain⟨t0,ht0⟩:∃t,P.th k=t:=⟨_,rfl⟩
 rw[ht0]at g0
 have HT0:=hid ht0
 have hsU:w.heap.size+2<U.heap.size:=(Array.getElem?_eq_some_iff.1 D2.out).1
 clear hke ht0 hN
 have hb1:=below_alloc U (.cells #[.bool t0,.int .i64 (P.rm k),.slice ak (P.m k) ck] 41)
 have kp:=heap_alloc_new U (.cells #[.bool t0,.int .i64 (P.rm k),.slice ak (P.m k) ck] 41)
 obtain⟨U1,hU1⟩:∃u,U.alloc (.cells #[.bool t0,.int .i64 (P.rm k),.slice ak (P.m k) ck] 41)=u:=⟨_,rfl⟩
 rw[hU1]at hb1 kp
 have D0b:=hid (stayB D0.out hb1)
 have D1b:=hid (stayB D1.out hb1)
 have D2b:=hid (stayB D2.out hb1)
 have B1:=hid (B0.out.trans (hb1.mono B0.out.size))
 obtain⟨e0,e1⟩:=two_at D0b.out
 obtain⟨i0,i1,i2,i3,i4,i5,i6⟩:=seven_at D1b.out
 obtain⟨p0,p1,p2⟩:=three_at kp
 by_cases hMr:M<0∨((P.m k:Nat):Int)≤M
 ·have HE4:Hid (er=4):=by
   show er=4;rw[HEo.out];unfold lonE;show(if(k:Int)<0∨(np:Int)≤(k:Int)then(4:Int)else if M<0∨((P.m (k:Int).toNat:Nat):Int)≤M then 4 else 0)=4;rw[if_neg hnw,Int.toNat_natCast,if_pos hMr]
  clear hnw kp hb1;by_cases hM0:M<0
  ·clear hMr
   go_wp2_with fail
   refine Calls.mono (happBad (4) U1) ?_;rintro e w9 ⟨rfl,hb9⟩;have o9:=stayB D2b.out hb9;have HO9:=hid o9;have HB9:=hid (B1.out.trans (hb9.mono B1.out.size));obtain⟨r1,r2⟩:=two_at o9;have f1:=frozen_at (i:=0) o9;have f2:=frozen_at (i:=1) o9;clear o9 hb9;go_wp2;refine ret2 (put2_whole HO9.out _ _) Tryz.underlying27 ?_;have hee:=HE4.out;rw[hee];exact mesh_noneO (put2_below HB9.out (by omega)) (by omega)
  have hM1:M≥((P.m k:Nat):Int):=by omega
  clear hMr;go_wp2_with fail
  refine Calls.mono (happBad (4) U1) ?_;rintro e w9 ⟨rfl,hb9⟩;have o9:=stayB D2b.out hb9;have HO9:=hid o9;have HB9:=hid (B1.out.trans (hb9.mono B1.out.size));obtain⟨r1,r2⟩:=two_at o9;have f1:=frozen_at (i:=0) o9;have f2:=frozen_at (i:=1) o9;clear o9 hb9;go_wp2;refine ret2 (put2_whole HO9.out _ _) Tryz.underlying27 ?_;have hee:=HE4.out;rw[hee];exact mesh_noneO (put2_below HB9.out (by omega)) (by omega)
 ·obtain⟨mm,rfl⟩:∃m:Nat,M=m:=⟨M.toNat,by omega⟩
  have hmk:mm<P.m k:=by omega
  have hM0:¬(mm:Int)<0:=by omega
  have hM1:¬(mm:Int)≥((P.m k:Nat):Int):=by omega
  have hM2:(mm:Int)<((P.m k:Nat):Int):=by omega
  have HE0:Hid (er=0):=by
   show er=0;rw[HEo.out];unfold lonE;show(if(k:Int)<0∨(np:Int)≤(k:Int)then(4:Int)else if(mm:Int)<0∨((P.m (k:Int).toNat:Nat):Int)≤(mm:Int)then 4 else 0)=0;rw[if_neg hnw,Int.toNat_natCast,if_neg hMr]
  have HM0:Hid (mz=⟨n,b,np,putT P k (P.m k) (benT (P.t k) mm 1)⟩):=by
   show mz=_;rw[HMo.out];unfold lonP;show Ms.mk n b np (putT P (k:Int).toNat (P.m (k:Int).toNat) (benT (P.t (k:Int).toNat) (mm:Int).toNat 1))=_;rw[Int.toNat_natCast,Int.toNat_natCast]
  clear hnw hMr;have hPr:=HR.out.peer k hkn;have hm20:=(peerR_small hPr);obtain⟨hL1,hX0⟩:=oneK_some (hPr.right mm hmk).2;obtain⟨LL,hLL⟩:∃l,(P.t k).L mm=l:=⟨_,rfl⟩;obtain⟨x0,hx0⟩:∃x,(P.t k).X mm 0=x:=⟨_,rfl⟩;rw[hLL]at hL1;rw[hx0]at hX0;have HLL:=hid hLL;have HX0:=hid hx0;have f0:=frozen_at (i:=2) kp;have CT:=hid (cloneT (G3.out.up hb1) hm20);have KP:=hid kp;have HB1:=hid hb1;clear kp hb1 hU hPr;go_wp2_with fail
  refine Calls.mono CT.out ?_;rintro e W2a ⟨v9,rfl,hown,hbA⟩;clear hU1;have hbUA:Below U.heap.size U W2a:=HB1.out.trans (hbA.mono HB1.out.size);obtain⟨_,_,eg,_,hg3⟩:=G3.out;injection eg with eg1 _ eg3;subst eg1 eg3;rcases hg3 with h9|⟨bo,oo,rfl,hbo,hgo⟩;·exact absurd h9 (by omega)
  have hkel:=rowT_kel (l:=List.range (P.m k)) hown (by rw[List.length_range];omega) (fun i hi=>((hgo i (List.mem_range.1 hi)).2.2.2).up hbUA);simp only[List.length_range]at hown hkel;rcases hown.2 with⟨_,h0⟩|⟨gk,capk,cur,hv9,hgk,hhk,hck,_,_,_⟩;·omega
  subst hv9;obtain⟨_,_,e9,⟨hcp,_⟩,h2⟩:=hkel;injection e9 with e91 _ e93;subst e91 e93;rcases h2 with h9|⟨b9,o9,e9,hg9,hcl⟩;·exact absurd h9 (by omega)
  injection e9 with e9;injection e9 with e91 e92;subst e91 e92;have hgd:∀j,j<P.m k→(List.range (P.m k)).getD j 0=j:=fun j hj=>by simp[List.getD_eq_getElem?_getD,hj]
  have HC2:Hid (∀j,j<P.m k→W2a.cell? ⟨gk,j*3,none⟩=some (.int .i64 ((P.t k).V j))∧W2a.cell? ⟨gk,j*3+1,none⟩=some (.int .i64 ((P.t k).N j))∧W2a.cell? ⟨gk,j*3+2,none⟩=some (UV k j)):=fun j hj=>by
   obtain⟨q0,q1,q2,_⟩:=hcl j hj;rw[Nat.zero_add]at q0 q1 q2;have q0':W2a.cell? ⟨gk,j*3,none⟩=some (.int .i64 ((P.t k).V ((List.range (P.m k)).getD j 0))):=q0;have q1':W2a.cell? ⟨gk,j*3+1,none⟩=some (.int .i64 ((P.t k).N ((List.range (P.m k)).getD j 0))):=q1;have q2':W2a.cell? ⟨gk,j*3+2,none⟩=some (UV k ((List.range (P.m k)).getD j 0)):=q2;rw[hgd j hj]at q0' q1' q2';exact⟨q0',q1',q2'⟩
  have hih:=(hgo mm hmk).2.2.2;rw[hLL]at hih;have HIh:=hid hih;obtain⟨au,cu,hue,hur,z2⟩:=hih;clear z2;have D0c:=hid (stayB D0b.out hbA);have D1c:=hid (stayB D1b.out hbA);have D2c:=hid (stayB D2b.out hbA);have KPc:=hid (stayB KP.out hbA);have HhK:=hid hhk;have hgU:U1.heap.size≤gk:=hgk;have hU1s:U.heap.size<U1.heap.size:=(Array.getElem?_eq_some_iff.1 KP.out).1;have HUe:=hid hue;have HUr:=hid hur;have hbUB:Below U.heap.size U (W2a.setCell ⟨U.heap.size,2,none⟩ (.slice (some ⟨gk,0,none⟩) (P.m k) capk)):=hbUA.setCell (p:=⟨U.heap.size,2,none⟩) (Nat.le_refl _) _;have CV:=hid (clone_isl (HIh.out.up hbUB) hL1);rw[hue]at CV;have HUB:=hid hbUB;obtain⟨c2a,c2b,c2c⟩:=HC2.out mm hmk;rw[hue]at c2c;obtain⟨p0c,p1c,p2c⟩:=three_at KPc.out;obtain⟨i0c,i1c,i2c,i3c,i4c,i5c,i6c⟩:=seven_at D1c.out;have f0c:=frozen_at (i:=2) KPc.out
  clear hown hbA hbUA hhk hcl hgd hue hur hbUB e0 e1 i0 i1 i2 i3 i4 i5 i6 p0 p1 p2 f0 CT hgo;go_wp2_with fail
  refine Calls.mono CV.out ?_;rintro e W4 ⟨gv,capv,rfl,hcv,hrv⟩;have HCv:Hid (LL≤capv∧LL*8≤140737488351232):=⟨hcv,HUr.out.2⟩;have HCk:Hid (P.m k≤capk):=hcp;have hB4:=hrv.below;have hz2b:(W2a.setCell ⟨U.heap.size,2,none⟩ (.slice (some ⟨gk,0,none⟩) (P.m k) capk)).heap.size=W2a.heap.size:=by simp[World.setCell]
  have hgv:W2a.heap.size≤gv:=by have:=hrv.ge;rw[hz2b]at this;exact this
  have hgk2:gk<W2a.heap.size:=(Array.getElem?_eq_some_iff.1 HhK.out).1;have hUk:U.heap.size≠gk:=by omega
  have k0:W4.heap[w.heap.size]?=some (.cells #[.slice ab n cb,.slice (some ⟨bl,off,none⟩) np cl] 27 (0,0)):=stayB (by rw[Below.heap_setCell _ _ _ _ (by show w.heap.size≠U.heap.size;omega)];exact D0c.out) hB4;have k1:W4.heap[w.heap.size+1]?=some (.cells #[.int .i64 5,.int .i64 (k:Int),.int .i64 (mm:Int),.slice ad len cd,.slice ap lp cp,.int .i64 need,.int .i64 of] 30 (0,0)):=stayB (by rw[Below.heap_setCell _ _ _ _ (by show w.heap.size+1≠U.heap.size;omega)];exact D1c.out) hB4;have k2:W4.heap[w.heap.size+2]?=some (.cells #[.slice none 0 0,.slice none 0 0] 27 (0,0)):=stayB (by rw[Below.heap_setCell _ _ _ _ (by show w.heap.size+2≠U.heap.size;omega)];exact D2c.out) hB4;have k3:W4.heap[U.heap.size]?=some (.cells #[.bool t0,.int .i64 (P.rm k),.slice (some ⟨gk,0,none⟩) (P.m k) capk] 41 (0,0)):=stayB (set_three KPc.out _) hB4
  have k4:∀o,W4.cell? ⟨gk,o,none⟩=W2a.cell? ⟨gk,o,none⟩:=fun o=>by
   rw[hB4.cell (by show gk<_;rw[hz2b];exact hgk2),cell_set_lit (Or.inl (fun e=>hUk e.symm))]
  have k5:∀o,W4.frozen? ⟨gk,o,none⟩=false:=fun o=>by
   rw[hB4.frozen (by show gk<_;rw[hz2b];exact hgk2),frozen_set];exact frozen_at HhK.out
  have k6:W4.cell? ⟨gv,0,none⟩=some (.int .i64 x0):=by rw[←HX0.out];exact hrv.cell 0 (by omega)
  have k7:=hrv.free 0 (by omega);have k8:=k5 (mm*3+2);have k9:W4.cell? ⟨gk,mm*3+2,none⟩=some (.slice au LL cu):=by rw[k4];exact c2c
  have hgvk:gv≠gk:=by omega
  have hB4w:Below w.heap.size w W4:=B0.out.trans ((HUB.out.trans (hB4.mono (by rw[hz2b];exact Nat.le_trans (by have:=HB1.out.size;omega) (Nat.le_of_lt hgk2)))).mono B0.out.size);have hB4q:Below U.heap.size U W4:=HUB.out.trans (hB4.mono (by rw[hz2b];omega));have hbz:Below w.heap.size w ((W4.setCell ⟨gv,0,none⟩ (.int .i64 ((x0+1)%31))).setCell ⟨gk,mm*3+2,none⟩ (.slice (some ⟨gv,0,none⟩) LL capv)):=(hB4w.setCell (p:=⟨gv,0,none⟩) (by show w.heap.size≤gv;omega) _).setCell (p:=⟨gk,mm*3+2,none⟩) (by show w.heap.size≤gk;omega) _;have hbq:Below U.heap.size U ((W4.setCell ⟨gv,0,none⟩ (.int .i64 ((x0+1)%31))).setCell ⟨gk,mm*3+2,none⟩ (.slice (some ⟨gv,0,none⟩) LL capv)):=(hB4q.setCell (p:=⟨gv,0,none⟩) (by show U.heap.size≤gv;omega) _).setCell (p:=⟨gk,mm*3+2,none⟩) (by show U.heap.size≤gk;omega) _
  have j0:((W4.setCell ⟨gv,0,none⟩ (.int .i64 ((x0+1)%31))).setCell ⟨gk,mm*3+2,none⟩ (.slice (some ⟨gv,0,none⟩) LL capv)).heap[w.heap.size]?=some (.cells #[.slice ab n cb,.slice (some ⟨bl,off,none⟩) np cl] 27 (0,0)):=by rw[Below.heap_setCell _ _ _ _ (by show w.heap.size≠gk;omega),Below.heap_setCell _ _ _ _ (by show w.heap.size≠gv;omega)];exact k0
  have j1:((W4.setCell ⟨gv,0,none⟩ (.int .i64 ((x0+1)%31))).setCell ⟨gk,mm*3+2,none⟩ (.slice (some ⟨gv,0,none⟩) LL capv)).heap[w.heap.size+1]?=some (.cells #[.int .i64 5,.int .i64 (k:Int),.int .i64 (mm:Int),.slice ad len cd,.slice ap lp cp,.int .i64 need,.int .i64 of] 30 (0,0)):=by rw[Below.heap_setCell _ _ _ _ (by show w.heap.size+1≠gk;omega),Below.heap_setCell _ _ _ _ (by show w.heap.size+1≠gv;omega)];exact k1
  have j2:((W4.setCell ⟨gv,0,none⟩ (.int .i64 ((x0+1)%31))).setCell ⟨gk,mm*3+2,none⟩ (.slice (some ⟨gv,0,none⟩) LL capv)).heap[w.heap.size+2]?=some (.cells #[.slice none 0 0,.slice none 0 0] 27 (0,0)):=by rw[Below.heap_setCell _ _ _ _ (by show w.heap.size+2≠gk;omega),Below.heap_setCell _ _ _ _ (by show w.heap.size+2≠gv;omega)];exact k2
  have j3:((W4.setCell ⟨gv,0,none⟩ (.int .i64 ((x0+1)%31))).setCell ⟨gk,mm*3+2,none⟩ (.slice (some ⟨gv,0,none⟩) LL capv)).heap[U.heap.size]?=some (.cells #[.bool t0,.int .i64 (P.rm k),.slice (some ⟨gk,0,none⟩) (P.m k) capk] 41 (0,0)):=by rw[Below.heap_setCell _ _ _ _ (by show U.heap.size≠gk;omega),Below.heap_setCell _ _ _ _ (by show U.heap.size≠gv;omega)];exact k3
  have hz5:((W4.setCell ⟨gv,0,none⟩ (.int .i64 ((x0+1)%31))).setCell ⟨gk,mm*3+2,none⟩ (.slice (some ⟨gv,0,none⟩) LL capv)).heap.size=W4.heap.size:=by simp[World.setCell]
  have HG5:Hid (gk<((W4.setCell ⟨gv,0,none⟩ (.int .i64 ((x0+1)%31))).setCell ⟨gk,mm*3+2,none⟩ (.slice (some ⟨gv,0,none⟩) LL capv)).heap.size∧gv<((W4.setCell ⟨gv,0,none⟩ (.int .i64 ((x0+1)%31))).setCell ⟨gk,mm*3+2,none⟩ (.slice (some ⟨gv,0,none⟩) LL capv)).heap.size):=by
   show _∧_;rw[hz5];exact⟨Nat.lt_of_lt_of_le hgk2 (by have:=hB4.size;rw[hz2b]at this;exact this),cell_lt k6⟩
  have HC5:Hid (∀j,j<P.m k→((W4.setCell ⟨gv,0,none⟩ (.int .i64 ((x0+1)%31))).setCell ⟨gk,mm*3+2,none⟩ (.slice (some ⟨gv,0,none⟩) LL capv)).cell? ⟨gk,j*3,none⟩=some (.int .i64 ((P.t k).V j))∧((W4.setCell ⟨gv,0,none⟩ (.int .i64 ((x0+1)%31))).setCell ⟨gk,mm*3+2,none⟩ (.slice (some ⟨gv,0,none⟩) LL capv)).cell? ⟨gk,j*3+1,none⟩=some (.int .i64 ((P.t k).N j))∧((W4.setCell ⟨gv,0,none⟩ (.int .i64 ((x0+1)%31))).setCell ⟨gk,mm*3+2,none⟩ (.slice (some ⟨gv,0,none⟩) LL capv)).cell? ⟨gk,j*3+2,none⟩=some (if j=mm then Value.slice (some ⟨gv,0,none⟩) LL capv else UV k j)):=fun j hj=>by
   obtain⟨q0,q1,q2⟩:=HC2.out j hj;refine⟨by rw[cell_set_lit (Or.inr (by omega)),cell_set_lit (Or.inl (fun e=>hgvk e.symm)),k4];exact q0,by rw[cell_set_lit (Or.inr (by omega)),cell_set_lit (Or.inl (fun e=>hgvk e.symm)),k4];exact q1,?_⟩;by_cases e:j=mm
   ·subst e
    rw[if_pos rfl];exact cell_set_same (by rw[cell_set_lit (Or.inl (fun e=>hgvk e.symm))];exact k9) _
   rw[if_neg e,cell_set_lit (Or.inr (by omega)),cell_set_lit (Or.inl (fun e=>hgvk e.symm)),k4];exact q2
  have HV5:Hid (∀r,r<LL→((W4.setCell ⟨gv,0,none⟩ (.int .i64 ((x0+1)%31))).setCell ⟨gk,mm*3+2,none⟩ (.slice (some ⟨gv,0,none⟩) LL capv)).cell? ⟨gv,r,none⟩=some (.int .i64 (if r=0 then((P.t k).X mm 0+1)%31 else(P.t k).X mm r))):=fun r hr=>by
   rw[cell_set_lit (Or.inl hgvk)];by_cases e:r=0
   ·subst e
    rw[if_pos rfl,HX0.out];exact cell_set_same k6 _
   rw[if_neg e,cell_set_lit (Or.inr e)];exact hrv.cell r hr
  have hU1:True:=trivial;obtain⟨e0,e1⟩:=two_at k0;obtain⟨i0,i1,i2,i3,i4,i5,i6⟩:=seven_at k1;obtain⟨p0,p1,p2⟩:=three_at k3;clear hrv hB4 hB4w hB4q k0 k1 k2 k3 k4 k5 CV c2a c2b c2c p0c p1c p2c i0c i1c i2c i3c i4c i5c i6c f0c hgU hz5 hz2b;have BZ:=hid hbz;have HQ:=hid hbq;have J0:=hid j0;have J1:=hid j1;have J2:=hid j2;have J3:=hid j3;have CL:=hid (cloneP (L0.out.up hbq) (by omega));clear hbz hbq j0 j1 j2 j3;go_wp2_with fail
  refine Calls.mono CL.out ?_;rintro e W2 ⟨v9,rfl,hown,hbW⟩;clear hU1;obtain⟨gp,cap,rfl,hgp,hcap,hrow⟩:=rowP_of hown (by omega);have hsz1:=(Array.getElem?_eq_some_iff.1 J3.out).1;have B2:=hid (BZ.out.trans (hbW.mono BZ.out.size));have K0:=hid (stayB J0.out hbW);have K1:=hid (stayB J1.out hbW);have K2:=hid (stayB J2.out hbW);have K3:=hid (stayB J3.out hbW);have HRw:=hid hrow;have HGp:=hid hgp;have HBW:=hid hbW;have hgU:w.heap.size+2<gp:=by omega
  have hBX:=hid (B2.out.setCell (p:=⟨w.heap.size,1,none⟩) (Nat.le_refl _) (.slice (some ⟨gp,0,none⟩) np cap));clear hown hbW hrow CL hgp hsz1;obtain⟨e0,e1⟩:=two_at K0.out;obtain⟨i0,i1,i2,i3,i4,i5,i6⟩:=seven_at K1.out;obtain⟨p0,p1,p2⟩:=three_at K3.out;obtain⟨r1,r2⟩:=two_at K2.out;have f1:=frozen_at (i:=0) K2.out;have f2:=frozen_at (i:=1) K2.out;have f3:=frozen_at (i:=1) K0.out;have f4:=HRw.out.free (k*3) (by omega);have f5:=HRw.out.free (k*3+1) (by omega);have f6:=HRw.out.free (k*3+2) (by omega);obtain⟨y0,y1,y2⟩:=HRw.out.cell k hkn;have hkv9:KV k=.slice (some ⟨bo,oo,none⟩) (P.m k) ck:=HKe.out;rw[hkv9]at y2
  have HRz:=hid ((HRw.out.other (g':=w.heap.size) (o:=1) (by omega) (.slice (some ⟨gp,0,none⟩) np cap)).all3 (P':=putT P k (P.m k) (benT (P.t k) mm 1)) hkn t0 (P.rm k) (.slice (some ⟨gk,0,none⟩) (P.m k) capk) (fun j hj=>by show P.th j=(if j=k then t0 else P.th j);split<;>rename_i e<;>first|(rw[e];exact HT0.out)|rfl) (fun j hj=>by show P.rm j=(if j=k then P.rm k else P.rm j);split<;>rename_i e<;>first|rw[e]|rfl));clear hkv9;go_wp2;have hz2:((((W2.setCell ⟨w.heap.size,1,none⟩ (.slice (some ⟨gp,0,none⟩) np cap)).setCell ⟨gp,k*3,none⟩ (.bool t0)).setCell ⟨gp,k*3+1,none⟩ (.int .i64 (P.rm k))).setCell ⟨gp,k*3+2,none⟩ (.slice (some ⟨gk,0,none⟩) (P.m k) capk)).heap[w.heap.size+2]?=some (.cells #[.slice none 0 0,.slice none 0 0] 27 (0,0)):=by
   rw[Below.heap_setCell _ _ _ _ (by show w.heap.size+2≠gp;omega),Below.heap_setCell _ _ _ _ (by show w.heap.size+2≠gp;omega),Below.heap_setCell _ _ _ _ (by show w.heap.size+2≠gp;omega),Below.heap_setCell _ _ _ _ (by show w.heap.size+2≠w.heap.size;omega)];exact K2.out
  have hBZ:Below w.heap.size w ((((W2.setCell ⟨w.heap.size,1,none⟩ (.slice (some ⟨gp,0,none⟩) np cap)).setCell ⟨gp,k*3,none⟩ (.bool t0)).setCell ⟨gp,k*3+1,none⟩ (.int .i64 (P.rm k))).setCell ⟨gp,k*3+2,none⟩ (.slice (some ⟨gk,0,none⟩) (P.m k) capk)) :=
   ((hBX.out.setCell (p:=⟨gp,k*3,none⟩) (by show w.heap.size≤gp;omega) _).setCell (p:=⟨gp,k*3+1,none⟩) (by show w.heap.size≤gp;omega) _).setCell (p:=⟨gp,k*3+2,none⟩) (by show w.heap.size≤gp;omega) _
  refine ret2 (put2_whole hz2 _ _) Tryz.underlying27 ?_;have hBf:=put2_below (u0:=.slice ab n cb) (u1:=.slice (some ⟨gp,0,none⟩) np cap) hBZ (show w.heap.size≤w.heap.size+2 by omega);have hk9:=HL.out.below hBf;have hee:=HE0.out;have hmm:=HM0.out;rw[hee,hmm];have POf:PsO w.heap.size I np (fun j=>if j=k then Value.slice (some ⟨gk,0,none⟩) (P.m k) capk else KV j) (fun j=>if j=k then(fun i=>if i=mm then Value.slice (some ⟨gv,0,none⟩) LL capv else UV k i)else UV j) (putT P k (P.m k) (benT (P.t k) mm 1)):=fun s hs hI j hj=>by
   have h9:=(HMq.out s hs hI).2.2 j hj;show KeOff s (if j=k then Value.slice (some ⟨gk,0,none⟩) (P.m k) capk else KV j) (if j=k then P.m k else P.m j) (if j=k then(fun i=>if i=mm then Value.slice (some ⟨gv,0,none⟩) LL capv else UV k i)else UV j) (if j=k then benT (P.t k) mm 1 else P.t j);by_cases e:j=k
   ·subst e
    rw[if_pos rfl,if_pos rfl,if_pos rfl,if_pos rfl];refine⟨Or.inr fun ad n' c e=>?_,fun i hi=>?_⟩
    ·injection e with e
     injection e with e;subst e;show gk≠s;omega
    show OfB s ((P.t j).L i) (if i=mm then Value.slice (some ⟨gv,0,none⟩) LL capv else UV j i);by_cases ei:i=mm
    ·rw[if_pos ei]
     refine Or.inr fun ad n' c e=>?_;injection e with e;injection e with e;subst e;show gv≠s;omega
    rw[if_neg ei];exact h9.2 i hi
   rw[if_neg e,if_neg e,if_neg e,if_neg e];exact h9
  refine happ_finO (P:=putT P k (P.m k) (benT (P.t k) mm 1)) HV.out hBf (RowP.other (RowP.other HRz.out (by omega) _) (by omega) _) hcap h8 (fun s hs hI=>(HMq.out s hs hI).1) (by omega) (UV:=fun j=>if j=k then(fun i=>if i=mm then Value.slice (some ⟨gv,0,none⟩) LL capv else UV k i)else UV j) POf (fun j hj=>?_);obtain⟨_,_,_,_,_,_,_,g9⟩:=hk9.at hj;show KeSl _ _ (if j=k then Value.slice (some ⟨gk,0,none⟩) (P.m k) capk else KV j) (if j=k then P.m k else P.m j) (if j=k then(fun i=>if i=mm then Value.slice (some ⟨gv,0,none⟩) LL capv else UV k i)else UV j) (if j=k then benT (P.t k) mm 1 else P.t j);by_cases e:j=k
  ·rw[if_pos e,if_pos e,if_pos e,if_pos e]
   subst e;have hce:∀g o,g<((W4.setCell ⟨gv,0,none⟩ (.int .i64 ((x0+1)%31))).setCell ⟨gk,mm*3+2,none⟩ (.slice (some ⟨gv,0,none⟩) LL capv)).heap.size→g≠w.heap.size→g≠w.heap.size+2→(put2 ((((W2.setCell ⟨w.heap.size,1,none⟩ (.slice (some ⟨gp,0,none⟩) np cap)).setCell ⟨gp,j*3,none⟩ (.bool t0)).setCell ⟨gp,j*3+1,none⟩ (.int .i64 (P.rm j))).setCell ⟨gp,j*3+2,none⟩ (.slice (some ⟨gk,0,none⟩) (P.m j) capk)) (w.heap.size+2) (.slice ab n cb) (.slice (some ⟨gp,0,none⟩) np cap)).cell? ⟨g,o,none⟩=((W4.setCell ⟨gv,0,none⟩ (.int .i64 ((x0+1)%31))).setCell ⟨gk,mm*3+2,none⟩ (.slice (some ⟨gv,0,none⟩) LL capv)).cell? ⟨g,o,none⟩:=fun g o h1 h2 h3=>by
    have h4:g≠gp:=by have:=HGp.out;omega
    unfold put2;rw[cell_set_lit (Or.inl h3),cell_set_lit (Or.inl h3),cell_set_lit (Or.inl h4),cell_set_lit (Or.inl h4),cell_set_lit (Or.inl h4),cell_set_lit (Or.inl h2)];exact HBW.out.cell h1
   obtain⟨ad9,c9,e9,hr9,hk9'⟩:=g9;rw[HKe.out]at e9;injection e9 with e91 e92 e93;have hsz9:gk<((W4.setCell ⟨gv,0,none⟩ (.int .i64 ((x0+1)%31))).setCell ⟨gk,mm*3+2,none⟩ (.slice (some ⟨gv,0,none⟩) LL capv)).heap.size∧gv<((W4.setCell ⟨gv,0,none⟩ (.int .i64 ((x0+1)%31))).setCell ⟨gk,mm*3+2,none⟩ (.slice (some ⟨gv,0,none⟩) LL capv)).heap.size:=HG5.out;refine⟨_,capk,rfl,⟨HCk.out,hr9.2⟩,Or.inr ⟨gk,0,rfl,Nat.lt_of_lt_of_le hsz9.1 (by have:=HBW.out.size;simpa[put2,World.setCell]using this),fun i hi=>?_⟩⟩;obtain⟨q0,q1,q2⟩:=HC5.out i hi;rw[Nat.zero_add];refine⟨(hce gk _ hsz9.1 (by omega) (by omega)).trans q0,(hce gk _ hsz9.1 (by omega) (by omega)).trans q1,(hce gk _ hsz9.1 (by omega) (by omega)).trans q2,?_⟩
   show IntSl _ _ (if i=mm then Value.slice (some ⟨gv,0,none⟩) LL capv else UV j i) ((P.t j).L i) ((benT (P.t j) mm 1).X i);by_cases ei:i=mm
   ·subst ei
    rw[if_pos rfl,HLL.out];refine⟨_,capv,rfl,⟨HCv.out.1,HCv.out.2⟩,Or.inr ⟨gv,0,rfl,Nat.lt_of_lt_of_le hsz9.2 (by have:=HBW.out.size;simpa[put2,World.setCell]using this),fun r hr=>?_⟩⟩;rw[Nat.zero_add,ben_X];refine(hce gv _ hsz9.2 (by omega) (by omega)).trans ((HV5.out r hr).trans ?_);by_cases e8:r=0;·rw[if_pos e8,if_pos ⟨rfl,e8⟩]
    rw[if_neg e8,if_neg (fun h=>e8 h.2)]
   rw[if_neg ei];rcases hk9' with h9|⟨_,_,_,_,h9⟩;·exact absurd hi (by omega)
   have h8:=(h9 i hi).2.2.2;refine(h8.mono hBf.size).congr fun r hr=>?_;rw[ben_X,if_neg (fun h=>ei h.1)]
  rw[if_neg e,if_neg e,if_neg e,if_neg e];exact g9.mono hBf.size
theorem happened_forgetO(I:Nat→Prop)(vb:Value)(n:Nat)(PV:Nat→Value)(b:Bk)(vl:Value)(np:Nat)(KV:Nat→Value)(UV:Nat→Nat→Value)(P:Ps)(N M:Int)(vd:Value)(len:Nat)(D:Nat→Int)(vp:Value)(lp:Nat)(X:Nat→Int)(need of:Int)(w:World)
 (hv:VeSl w w.heap.size vb n PV b) (hl:PsSl w w.heap.size vl np KV UV P) (hd:IntSl w w.heap.size vd len D) (hp:IntSl w w.heap.size vp lp X) (hR:MeshR n b np P) (hmo:∀s,s<w.heap.size→I s→MsOff s vb n PV b vl np KV UV P) (hpo:∀s,s<w.heap.size→I s→OfB s lp vp) :
 Calls Tryz.prog 16 #[meshV vb vl,hapV ⟨7,N,M,len,D,lp,X,need,of⟩ vd vp] w (MsPostO w (happE ⟨n,b,np,P⟩ ⟨7,N,M,len,D,lp,X,need,of⟩) (happM ⟨n,b,np,P⟩ ⟨7,N,M,len,D,lp,X,need,of⟩) I):=by
 have HV:=hid hv
 have HL:=hid hl
 have HD:=hid hd
 have HP:=hid hp
 have HR:=hid hR
 have HMq:=hid hmo
 have HPq:=hid hpo
 clear hmo hpo
 have h8:=hR.few
 obtain⟨ab,cb,rfl,z1,z2⟩:=hv
 clear z1 z2
 obtain⟨al,cl,rfl,z1,z2⟩:=hl
 clear z1 z2
 obtain⟨ad,cd,rfl,z1,z2⟩:=hd
 clear z1 z2
 obtain⟨ap,cp,rfl,z1,z2⟩:=hp
 clear z1 z2
 have hb0:Below w.heap.size w (((w.alloc (.cells #[.slice ab n cb,.slice al np cl] 27)).alloc (.cells #[.int .i64 7,.int .i64 N,.int .i64 M,.slice ad len cd,.slice ap lp cp,.int .i64 need,.int .i64 of] 30)).alloc (.cells #[.slice none 0 0,.slice none 0 0] 27)):=(((Below.refl w.heap.size w).alloc (Nat.le_refl _) _).alloc (by simp) _).alloc (by simp<;>omega) _
 obtain⟨k0,k1,k2⟩:=heap_threeW w (.cells #[.slice ab n cb,.slice al np cl] 27) (.cells #[.int .i64 7,.int .i64 N,.int .i64 M,.slice ad len cd,.slice ap lp cp,.int .i64 need,.int .i64 of] 30) (.cells #[.slice none 0 0,.slice none 0 0] 27)
 obtain⟨U,hU⟩:∃u,((w.alloc (.cells #[.slice ab n cb,.slice al np cl] 27)).alloc (.cells #[.int .i64 7,.int .i64 N,.int .i64 M,.slice ad len cd,.slice ap lp cp,.int .i64 need,.int .i64 of] 30)).alloc (.cells #[.slice none 0 0,.slice none 0 0] 27)=u:=⟨_,rfl⟩
 rw[hU]at hb0 k0 k1 k2
 obtain⟨er,her⟩:∃c,happE ⟨n,b,np,P⟩ ⟨7,N,M,len,D,lp,X,need,of⟩=c:=⟨_,rfl⟩
 obtain⟨mz,hmz⟩:∃m,happM ⟨n,b,np,P⟩ ⟨7,N,M,len,D,lp,X,need,of⟩=m:=⟨_,rfl⟩
 rw[her,hmz]
 have HEr:=hid her
 have HMz:=hid hmz
 have B0:=hid hb0
 have D0:=hid k0
 have D1:=hid k1
 have D2:=hid k2
 have V0:=hid (HV.out.up hb0)
 have L0:=hid (HL.out.up hb0)
 have N0:=hid (HD.out.up hb0)
 have Q0:=hid (HP.out.up hb0)
 obtain⟨c0,c1⟩:=two_at k0
 obtain⟨h0,h1,h2,h3,h4,h5,h6⟩:=seven_at k1
 clear hb0 k0 k1 k2 her hmz hR
 have hn12:n≤12:=(right_of HR.out.book).le
 have CV:=hid (version_any _ n PV b _ np KV UV P N U V0.out L0.out)
 have HEf:Hid (er=forgE n b np P N):=HEr.out.symm
 have HMf:Hid (mz=⟨n,b,np,forgP P N⟩):=HMz.out.symm
 obtain⟨vc,hvc⟩:∃c,verM n b np P N=c:=⟨_,rfl⟩
 rw[hvc]at CV
 have HVc:=hid hvc
 unfold meshV at CV
 clear hvc
 unfold meshV hapV
 go_enter Tryz.func16,Tryz.ntmps16
 go_wp2_with fail
 refine Calls.mono CV.out ?_
 rintro e W1 ⟨rfl,hb1⟩
 have D0b:=hid (stayB D0.out hb1)
 have D1b:=hid (stayB D1.out hb1)
 have D2b:=hid (stayB D2.out hb1)
 have B1:=hid (B0.out.trans (hb1.mono B0.out.size))
 have V1:=hid (V0.out.up hb1)
 have L1:=hid (L0.out.up hb1)
 have hsU:w.heap.size+2<W1.heap.size:=(Array.getElem?_eq_some_iff.1 D2b.out).1
 obtain⟨e0,e1⟩:=two_at D0b.out
 obtain⟨i0,i1,i2,i3,i4,i5,i6⟩:=seven_at D1b.out
 clear hb1 c0 c1 h0 h1 h2 h3 h4 h5 h6 CV
 by_cases hv0:vc=0
 ·subst hv0
  have CH:=hid (headsOf_any n _ PV b hn12 W1.drew (V1.out.up (drew_below W1)));unfold bookV at CH;have HD1:Hid (Below W1.heap.size W1 W1.drew):=drew_below W1;have hne:Nonempty (Of (Below W1.heap.size W1)):=⟨⟨W1,Below.refl _ _⟩⟩;have F0:∀u:Of (Below W1.heap.size W1),u.val.cell? ⟨w.heap.size,0,none⟩=some (.slice ab n cb):=fun u=>by rw[u.is.cell (cell_lt e0)];exact e0
  have F1:∀u:Of (Below W1.heap.size W1),u.val.cell? ⟨w.heap.size+1,1,none⟩=some (.int .i64 N):=fun u=>by rw[u.is.cell (cell_lt i1)];exact i1
  go_wp2_with fail
  refine region_mixed (Below W1.heap.size W1) [([0,1,3,4],2),([],5)] [6] (by kernel_rfl) (by kernel_rfl) HD1.out ?_;refine mixO_cons ?_;repeat(go_big_quiet_step (fail))
  refine wpQuiet_nil ?_;intro K hK;go_wp2_with fail
  refine Calls.mono CH.out ?_;rintro e W2 ⟨hb2,vo,rfl,hol⟩;have H2:Hid (Below W1.heap.size W1 W2):=HD1.out.trans (hb2.mono HD1.out.size);have hll:(headsL b n n).length≤12:=Nat.le_trans (headsL_len b n n) hn12;have CC:=hid (contains_sl (hol.isl (by omega)) N);rw[hasB_memW]at CC;obtain⟨db,hdb⟩:∃d,decide (N∈headsL b n n)=d:=⟨_,rfl⟩;rw[hdb]at CC;have HDb:=hid hdb;clear hdb;obtain⟨aw,cw,hvo⟩:=own_shapeH hol.1;subst hvo;clear hb2 hol CH;go_wp2;refine⟨rfl,hK _ _ H2.out ?_⟩;clear hK K;refine mixO_cons (lq:=[]) ?_ rfl;refine wpQuiet_nil ?_;intro K hK;go_wp2_with fail
  refine Calls.mono CC.out ?_;rintro e W3 ⟨rfl,hw3⟩;subst W3;go_wp2;refine⟨rfl,hK _ _ H2.out ?_⟩;clear hK K CC;refine mixO_nil ?_;repeat(go_big_quiet_step (fail))
  refine wpQuiet_nil ?_;clear F0 F1 hne;have D0c:=hid (stayB D0b.out H2.out);have D1c:=hid (stayB D1b.out H2.out);have D2c:=hid (stayB D2b.out H2.out);have B2:=hid (B1.out.trans (H2.out.mono B1.out.size));have L2:=hid (L1.out.up H2.out);clear e0 e1 i0 i1 i2 i3 i4 i5 i6;obtain⟨e0,e1⟩:=two_at D0c.out;obtain⟨i0,i1,i2,i3,i4,i5,i6⟩:=seven_at D1c.out;have hs2:W1.heap.size≤W2.heap.size:=H2.out.size;cases db with
  |true =>
   have hin:N∈headsL b n n:=of_decide_eq_true HDb.out;have HE0:Hid (er=0):=by
    show er=0;rw[HEf.out];unfold forgE;rw[if_pos HVc.out,if_pos hin]
   clear hin;have CL:=hid (cloneP L2.out (by omega));go_wp2_with fail
   refine Calls.mono CL.out ?_;rintro e W3 ⟨v9,rfl,hown,hbW⟩;have hbU3:=H2.out.trans (hbW.mono H2.out.size);have D0d:=hid (stayB D0c.out hbW);have D1d:=hid (stayB D1c.out hbW);have D2d:=hid (stayB D2c.out hbW);have B3:=hid (B2.out.trans (hbW.mono B2.out.size));clear e0 e1 i0 i1 i2 i3 i4 i5 i6 CL;obtain⟨e0,e1⟩:=two_at D0d.out;obtain⟨i0,i1,i2,i3,i4,i5,i6⟩:=seven_at D1d.out;have f1:=frozen_at (i:=1) D0d.out;by_cases hnp:np=0
   ·subst hnp;have hv9:∃a c,v9=.slice a 0 c:=by
     rcases hown.2 with⟨h1,_⟩|⟨g,cap,cur,h1,_⟩;·exact⟨none,0,h1⟩
     exact⟨_,_,h1⟩
    obtain⟨a9,c9,rfl⟩:=hv9;have hBq:=hid (B3.out.setCell (p:=⟨w.heap.size,1,none⟩) (Nat.le_refl _) (.slice a9 0 c9));have hz2:(W3.setCell ⟨w.heap.size,1,none⟩ (.slice a9 0 c9)).heap[w.heap.size+2]?=some (.cells #[.slice none 0 0,.slice none 0 0] 27 (0,0)):=by
     rw[Below.heap_setCell _ _ _ _ (by show w.heap.size+2≠w.heap.size;omega)];exact D2d.out
    have HZ2:=hid hz2;obtain⟨r1,r2⟩:=two_at D2d.out;have f2:=frozen_at (i:=0) D2d.out;have f3:=frozen_at (i:=1) D2d.out;clear hown hbW hz2;have hx0:(W3.setCell ⟨w.heap.size,1,none⟩ (.slice a9 0 c9)).heap[w.heap.size]?=some (.cells #[.slice ab n cb,.slice a9 0 c9] 27 (0,0)):=by simp[World.setCell,Array.getElem?_modify,D0d.out]
    have HX0:=hid hx0;clear hx0;go_wp2;clear e0 e1 i0 i1 i2 i3 i4 i5 i6 f1 r1 r2 f2 f3;go_loopw [67] (fun iv wr=>iv=.int .i64 0∧wr=W3.setCell ⟨w.heap.size,1,none⟩ (.slice a9 0 c9)) (fun _ _=>0)
    case atStart=>exact⟨rfl,rfl⟩
    case round =>
     obtain⟨rfl,rfl⟩:=hrel;obtain⟨e0,e1⟩:=two_at HX0.out;obtain⟨r1,r2⟩:=two_at HZ2.out;have f2:=frozen_at (i:=0) HZ2.out;have f3:=frozen_at (i:=1) HZ2.out;go_wp2;refine ret2 (put2_whole HZ2.out _ _) Tryz.underlying27 ?_;have hee:=HE0.out;have hmm:=HMf.out;rw[hee,hmm];have hBf:=put2_below (u0:=.slice ab n cb) (u1:=.slice a9 0 c9) hBq.out (show w.heap.size≤w.heap.size+2 by omega);exact⟨hBf,_,_,n,0,PV,KV,UV,rfl,by rw[if_pos rfl],by rw[if_pos rfl],(HV.out.below hBf).mono hBf.size,⟨a9,c9,rfl,⟨Nat.zero_le _,by omega⟩,Or.inl rfl⟩,fun s hs hI=>⟨(HMq.out s hs hI).1,Or.inl rfl,fun j hj=>absurd hj (Nat.not_lt_zero _)⟩⟩
   obtain⟨gp,cap,rfl,hgp,hcap,hrow⟩:=rowP_of hown (by omega);have hgw:w.heap.size+2<gp:=by omega
   have L3:=hid (L2.out.up hbW);have J0:Hid (FgInv w (W3.setCell ⟨w.heap.size,1,none⟩ (.slice (some ⟨gp,0,none⟩) np cap)) ab (some ⟨gp,0,none⟩) n cb np cap gp #[.int .i64 7,.int .i64 N,.int .i64 M,.slice ad len cd,.slice ap lp cp,.int .i64 need,.int .i64 of] KV UV P N KV UV 0):=by
    refine⟨B3.out.setCell (p:=⟨w.heap.size,1,none⟩) (Nat.le_refl _) _,?_,?_,?_,hrow.other (by omega) _,fun k hk=>?_,fun k _ _=>⟨rfl,rfl⟩,hgw⟩;·simp[World.setCell,Array.getElem?_modify,D0d.out]
    ·rw[Below.heap_setCell _ _ _ _ (by show w.heap.size+1≠w.heap.size;omega)];exact D1d.out
    ·rw[Below.heap_setCell _ _ _ _ (by show w.heap.size+2≠w.heap.size;omega)];exact D2d.out
    have hbs:Below w.heap.size w (W3.setCell ⟨w.heap.size,1,none⟩ (.slice (some ⟨gp,0,none⟩) np cap)):=B3.out.setCell (p:=⟨w.heap.size,1,none⟩) (Nat.le_refl _) _;obtain⟨ad9,c9,_,_,hq⟩:=HL.out.below hbs;rcases hq with hq|⟨_,_,_,_,hq⟩;·omega
    unfold fgM fgT;rw[if_neg (Nat.not_lt_zero _),if_neg (Nat.not_lt_zero _)];exact(hq k hk).2.2.2.mono hbs.size
   have HCap:Hid (np≤cap):=hcap;have hn1:1≤np:=by omega
   clear hown hbW hrow hgp hcap hnp L3;go_wp2;clear e0 e1 i0 i1 i2 i3 i4 i5 i6 f1;go_loopw [67] (fun iv wr=>∃(i:Nat) (KVi:Nat→Value) (UVi:Nat→Nat→Value),i≤np∧iv=.int .i64 i∧Hid (FgInv w wr ab (some ⟨gp,0,none⟩) n cb np cap gp #[.int .i64 7,.int .i64 N,.int .i64 M,.slice ad len cd,.slice ap lp cp,.int .i64 need,.int .i64 of] KV UV P N KVi UVi i)∧Hid (PsO w.heap.size I np KVi UVi (fgP P N i))) (fun iv _=>np-(intOf iv).toNat)
   case atStart=>exact⟨0,KV,UV,Nat.zero_le _,rfl,J0,fun s hs hI=>(HMq.out s hs hI).2.2⟩
   case round =>
    obtain⟨i,KVi,UVi,hi,rfl,J,JO⟩:=hrel;by_cases hlt:i<np
    ·have hii:(i:Int)<(np:Int):=by omega
     obtain⟨g0,g1,g2⟩:=J.out.row.cell i hlt;have HMi:Hid (∀s,s<w.heap.size→I s→∀j,j<P.m i→OfB s ((P.t i).L j) (UV i j)):=fun s hs hI=>((HMq.out s hs hI).2.2 i hlt).2;obtain⟨hkv,huv⟩:=J.out.rest i (Nat.le_refl _) hlt;have g3:=J.out.kept i hlt;unfold fgM fgT at g3;rw[if_neg (Nat.lt_irrefl _),if_neg (Nat.lt_irrefl _),huv]at g3;have G3:=hid g3;obtain⟨ak,ck,hke,z1,z2⟩:=g3;clear z1 z2;rw[hke]at g2 G3;have HKe:=hid hke;obtain⟨t0,ht0⟩:∃t,P.th i=t:=⟨_,rfl⟩;rw[ht0]at g0;have HT0:=hid ht0;have hbA:=below_alloc wr (.cells #[.bool t0,.int .i64 (P.rm i),.slice ak (P.m i) ck] 41);have kp:=heap_alloc_new wr (.cells #[.bool t0,.int .i64 (P.rm i),.slice ak (P.m i) ck] 41);obtain⟨W4,hW4⟩:∃u,wr.alloc (.cells #[.bool t0,.int .i64 (P.rm i),.slice ak (P.m i) ck] 41)=u:=⟨_,rfl⟩;rw[hW4]at hbA kp
     obtain⟨bp,hbp⟩:∃q,wr.heap.size=q:=⟨_,rfl⟩;rw[hbp]at kp;obtain⟨p0,p1,p2⟩:=three_at kp;have JA:=hid (J.out.up hbA);have GA:=hid (G3.out.up hbA);clear hkv huv hke ht0 hbA;cases t0 with
     |false =>
      have JB:=hid (JA.out.skip HT0.out);clear kp;go_wp2;go_roundw
      case rel=>exact⟨i+1,_,_,by omega,by go_num,JB,(by show PsO _ _ _ _ _ _;rw[fgP_skip HT0.out];exact JO.out)⟩
      case measure=>simp only[intOf];omega
     |true =>
      have hgpw:gp<wr.heap.size:=J.out.row.lt;have hbpg:bp≠gp:=by omega
      have hsw:w.heap.size+2<wr.heap.size:=(Array.getElem?_eq_some_iff.1 J.out.out).1;obtain⟨e0,e1⟩:=two_at JA.out.box;obtain⟨i0,i1,i2,i3,i4,i5,i6⟩:=seven_at JA.out.hap;have hne:Nonempty (Of (fun u=>W4.grownBy u (some gp))):=⟨⟨W4,rfl,rfl,rfl,Nat.le_refl _,fun _ _ _=>rfl⟩⟩;have F0:∀u:Of (fun u=>W4.grownBy u (some gp)),u.val.cell? ⟨w.heap.size,1,none⟩=some (.slice (some ⟨gp,0,none⟩) np cap):=fun u=>u.is.cell e1 (by simp;omega);have F1:∀u:Of (fun u=>W4.grownBy u (some gp)),u.val.cell? ⟨w.heap.size+1,1,none⟩=some (.int .i64 N):=fun u=>u.is.cell i1 (by simp;omega);have F2:∀u:Of (fun u=>W4.grownBy u (some gp)),u.val.cell? ⟨bp,0,none⟩=some (.bool true):=fun u=>u.is.cell p0 (by simp;omega)
      have F3:∀u:Of (fun u=>W4.grownBy u (some gp)),u.val.cell? ⟨bp,1,none⟩=some (.int .i64 (P.rm i)):=fun u=>u.is.cell p1 (by simp;omega);have F4:∀u:Of (fun u=>W4.grownBy u (some gp)),u.val.cell? ⟨bp,2,none⟩=some (.slice ak (P.m i) ck):=fun u=>u.is.cell p2 (by simp;omega);have hm20:=peerR_small (HR.out.peer i hlt);clear kp;go_wp2_with fail
      refine region_mixed (fun u=>W4.grownBy u (some gp)) [([0,1,2,3,4,5],6),([7],8)] [] (by kernel_rfl) (by kernel_rfl) (drew_grown W4 _) ?_;have hb0:=drew_below W4;obtain⟨U0,hU0⟩:∃U,W4.drew=U:=⟨_,rfl⟩;rw[hU0]at hb0 ⊢;have HU0:=hid hb0;have CW:=hid (without_anyO true (P.rm i) _ (P.m i) (UV i) (P.t i) N U0 hm20 (GA.out.up hb0));unfold peerV at CW;clear hU0 hb0;refine mixO_cons ?_;repeat(go_big_quiet_step (fail))
      refine wpQuiet_nil ?_;intro K hK;go_wp2_with fail
      refine Calls.mono CW.out ?_;rintro e U1 ⟨hb1,r,UR,rfl,hkr,hof⟩;have HKr:=hid hkr;obtain⟨ar,cr,rfl,z1,z2⟩:=hkr;clear z1 z2;have hb01:=HU0.out.trans (hb1.mono HU0.out.size);have J1:=hid (JA.out.up hb01);have HB1:=hid hb01;obtain⟨q1,q2,q3⟩:=J1.out.row.cell i hlt;rw[HKe.out]at q3;rw[HT0.out]at q1;have S1:=setCell_same q1;have S2:=setCell_same q2;have f1:=J1.out.row.free (i*3) (by omega);have f2:=J1.out.row.free (i*3+1) (by omega);have f3:=J1.out.row.free (i*3+2) (by omega);have JP:=hid (J1.out.put hlt HT0.out HKr.out);have HOf:Hid (∀s,s<w.heap.size→I s→KeOff s (.slice ar (butL (P.t i) N (P.m i)).length cr) (butL (P.t i) N (P.m i)).length UR (selT (P.t i) (butL (P.t i) N (P.m i)))):=fun s hs hI=>hof s (Nat.lt_of_lt_of_le hs (Nat.le_trans JA.out.below.size HU0.out.size)) (HMi.out s hs hI)
      have JQ:Hid (PsO w.heap.size I np (fun k=>if k=i then .slice ar (butL (P.t i) N (P.m i)).length cr else KVi k) (fun k=>if k=i then UR else UVi k) (fgP P N (i+1))):=by
       show PsO _ _ _ _ _ _;obtain⟨e1,e2⟩:=fgP_at (N:=N) HT0.out;refine JO.out.put (fun k _ hkq=>fgP_old hkq) ?_;rw[e1,e2];exact HOf.out
      have HYd:Hid (W4.grownBy (U1.setCell ⟨gp,i*3+2,none⟩ (.slice ar (butL (P.t i) N (P.m i)).length cr)) (some gp)):=by
       show World.grownBy _ _ _;have h9:W4.grownBy U1 (some gp):=grown_of_below HB1.out _;exact⟨h9.os,h9.tape,h9.output,by simpa[World.setCell]using h9.size,fun k hk hkg=>by rw[Below.heap_setCell _ _ _ _ (by show k≠gp;intro e;exact hkg (by rw[e]))];exact h9.block k hk hkg⟩
      unfold peerV;clear hb1 hb01 CW hof;go_wp2;refine⟨rfl,hK _ _ (grown_of_below HB1.out _) ?_⟩;clear hK K;refine mixO_cons ?_;repeat(go_big_quiet_step (fail))
      refine wpQuiet_nil ?_;intro K hK;go_wp2;refine⟨rfl,hK _ _ HYd.out ?_⟩;clear hK K;refine mixO_nil (lq:=[]) ?_ rfl;repeat(go_big_quiet_step (fail))
      refine wpQuiet_nil ?_;clear F0 F1 F2 F3 F4 hne q1 q2 q3 S1 S2 f1 f2 f3 e0 e1 i0 i1 i2 i3 i4 i5 i6 p0 p1 p2;go_wp2;go_roundw
      case rel=>exact⟨i+1,_,_,by omega,by go_num,JP,JQ⟩
      case measure=>simp only[intOf];omega
    have hie:np=i:=by omega
    subst hie;have hjn:¬(np:Int)<(np:Int):=by omega
    obtain⟨e0,e1⟩:=two_at J.out.box;obtain⟨r1,r2⟩:=two_at J.out.out;have f2:=frozen_at (i:=0) J.out.out;have f3:=frozen_at (i:=1) J.out.out;go_wp2;refine ret2 (put2_whole J.out.out _ _) Tryz.underlying27 ?_;have hee:=HE0.out;have hmm:=HMf.out;rw[hee,hmm];exact fg_finO J.out HV.out HCap.out h8 (fun s hs hI=>(HMq.out s hs hI).1) JO.out
  |false =>
   have hin:N∉headsL b n n:=of_decide_eq_false HDb.out;have HE6:Hid (er=6):=by
    show er=6;rw[HEf.out];unfold forgE;rw[if_pos HVc.out,if_neg hin]
   clear hin;go_wp2_with fail
   refine Calls.mono (happBad (6) W2) ?_;rintro e w9 ⟨rfl,hb9⟩;have o9:=stayB D2c.out hb9;have HO9:=hid o9;have HB9:=hid (B2.out.trans (hb9.mono B2.out.size));obtain⟨r1,r2⟩:=two_at o9;have f1:=frozen_at (i:=0) o9;have f2:=frozen_at (i:=1) o9;clear o9 hb9;go_wp2;refine ret2 (put2_whole HO9.out _ _) Tryz.underlying27 ?_;have hee:=HE6.out;rw[hee];exact mesh_noneO (put2_below HB9.out (by omega)) (by omega)
 ·have hcb:(vc != 0)=true:=by simpa using hv0
  have HEv:Hid (er=vc):=by
   show er=vc;rw[HEf.out];unfold forgE;rw[HVc.out,if_neg hv0]
  have HV0:=hid hv0;clear hv0;go_wp2_with fail
  refine Calls.mono (happBad (vc) W1) ?_;rintro e w9 ⟨rfl,hb9⟩;have o9:=stayB D2b.out hb9;have HO9:=hid o9;have HB9:=hid (B1.out.trans (hb9.mono B1.out.size));obtain⟨r1,r2⟩:=two_at o9;have f1:=frozen_at (i:=0) o9;have f2:=frozen_at (i:=1) o9;clear o9 hb9;go_wp2;refine ret2 (put2_whole HO9.out _ _) Tryz.underlying27 ?_;have hee:=HEv.out;rw[hee];exact mesh_noneO (put2_below HB9.out (by omega)) HV0.out
theorem happened_anyO(I:Nat→Prop)(vb:Value)(n:Nat)(PV:Nat→Value)(b:Bk)(vl:Value)(np:Nat)(KV:Nat→Value)(UV:Nat→Nat→Value)(P:Ps)(x:Hp)(vd vp:Value)(w:World)(hv:VeSl w w.heap.size vb n PV b)(hl:PsSl w w.heap.size vl np KV UV P)(hx:HpAt w w.heap.size x vd vp)(hR:MeshR n b np P)(hmo:∀s,s<w.heap.size→I s→MsOff s vb n PV b vl np KV UV P)(hpo:∀s,s<w.heap.size→I s→OfB s x.lp vp):
 Calls Tryz.prog 16 #[meshV vb vl,hapV x vd vp] w (MsPostO w (happE ⟨n,b,np,P⟩ x) (happM ⟨n,b,np,P⟩ x) I):=by
 obtain⟨kd,N,M,len,D,lp,X,need,of⟩:=x
 obtain⟨hd,hp⟩:=hx
 by_cases h1:kd<1∨7<kd
 ·exact happened_formO I vb n PV b vl np KV UV P kd N M vd len D vp lp X need of w hv hl hd hp hR hmo hpo h1
 by_cases e1:kd=1
 ·subst e1;exact happened_saveO I vb n PV b vl np KV UV P N M vd len D vp lp X need of w hv hl hd hp hR hmo hpo
 by_cases e6:kd=6
 ·subst e6;exact happened_mendO I vb n PV b vl np KV UV P N M vd len D vp lp X need of w hv hl hd hp hR hmo hpo
 by_cases e7:kd=7
 ·subst e7;exact happened_forgetO I vb n PV b vl np KV UV P N M vd len D vp lp X need of w hv hl hd hp hR hmo hpo
 by_cases hN:N<0∨(np:Int)≤N
 ·exact happened_whoO I vb n PV b vl np KV UV P kd N M vd len D vp lp X need of w hv hl hd hp hR hmo hpo (by omega) hN
 have hN':0≤N∧N<(np:Int):=by omega
 by_cases e2:kd=2
 ·subst e2;exact happened_leaveO I vb n PV b vl np KV UV P N M vd len D vp lp X need of w hv hl hd hp hR hmo hpo hN'
 by_cases e3:kd=3
 ·subst e3;exact happened_comeO I vb n PV b vl np KV UV P N M vd len D vp lp X need of w hv hl hd hp hR hmo hpo hN'
 by_cases e4:kd=4
 ·subst e4;exact happened_loseO I vb n PV b vl np KV UV P N M vd len D vp lp X need of w hv hl hd hp hR hmo hpo hN'
 obtain rfl:kd=5:=by omega
 exact happened_bendO I vb n PV b vl np KV UV P N M vd len D vp lp X need of w hv hl hd hp hR hmo hpo hN'
end Go.Proofs.YtajmnlhfnhbleaaGreat
