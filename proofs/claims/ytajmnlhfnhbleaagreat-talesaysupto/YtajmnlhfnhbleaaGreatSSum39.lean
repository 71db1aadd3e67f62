/- Several texts of one proof, in their order. -/
import Derived.Test.YtajmnlhfnhbleaaGreatSSum38
import Derived.Deep.Strs
namespace Go.Proofs.YtajmnlhfnhbleaaGreat
open Go.RowKit CurveMath Go.ChangeShapes Go.WideShapes Go.ChangeAt Go.Deep
set_option linter.unusedVariables false
set_option maxHeartbeats 16000000
set_option maxRecDepth 10000
theorem lack_spare{n:Nat}{b:Bk}{np:Nat}{P:Ps}{k:Int}(h:verM n b np P k=0):∃o d:Int,b.of k.toNat=o∧b.nd k.toNat=d∧spV n b np P k=o-lackV n b np P k-d∧(0≤lackV n b np P k+8∧lackV n b np P k≤8)∧(1≤d∧d≤4)∧(d≤o∧o≤8):=by
 obtain⟨hR,hk0,hkn⟩:=verM_ok h;obtain⟨⟨p1,p2⟩,⟨p3,p4⟩,_,_⟩:=plan_bd hR (q:=k.toNat) (by omega);have h9:=thAll_len hR k np (Nat.le_refl _);have h8:=hR.few;refine⟨_,_,rfl,rfl,?_,?_,⟨p1,p2⟩,⟨p3,p4⟩⟩
 ·unfold spV lackV laN spN
  rw[if_pos h,if_pos h];omega
 unfold lackV laN thereL;rw[if_pos h];omega
theorem taleSays_of(hO:MeshCore)(hW:WorldOwes)(hT:TaleOwes)(vr:Value)(lr:Nat)(Z:Nat→Int)(vs:Value)(len:Nat)(DV QV:Nat→Value)(H:Nat→Hp)(vb:Value)(n:Nat)(PV:Nat→Value)(b:Bk)(vl:Value)(np:Nat)(KV:Nat→Value)(UV:Nat→Nat→Value)(P:Ps)(k:Int)(w:World)
 (hr:IntSl w w.heap.size vr lr Z) (hlr:lr≤1048576) (hs:HpSl w w.heap.size vs len DV QV H) (hv:VeSl w w.heap.size vb n PV b) (hl:PsSl w w.heap.size vl np KV UV P) :
 Calls Tryz.prog 8 #[vr,vs,meshV vb vl,.int .i64 k] w fun e w'=>e=.returned (.bool true)∧Below w.heap.size w w':=by
 have HJ:Hid (∀u:World,_):=fun u=>told_any hO hT u
 have HT:=hid hT
 obtain⟨ie,hie,hez0,hez1,hez2⟩:=info_parts Tryz.infoLs
 obtain⟨ab,cb,rfl,z1,z2⟩:=id hv
 clear z1 z2
 obtain⟨al,cl,rfl,z1,z2⟩:=id hl
 clear z1 z2
 have hb0:=below_alloc w (.cells #[.slice ab n cb,.slice al np cl] 27)
 have A0:=hid (MsAt.box hv hl)
 obtain⟨U,hU⟩:∃u,w.alloc (.cells #[.slice ab n cb,.slice al np cl] 27)=u:=⟨_,rfl⟩
 rw[hU]at hb0 A0
 obtain⟨g0,hg0⟩:∃g,w.heap.size=g:=⟨_,rfl⟩
 have HB:=hid hb0
 have A1:Hid (MsAt U g0 ab n cb PV b al np cl KV UV P):=by rw[←hg0];exact A0.out
 have HR:=hid (hr.up hb0)
 have HS:=hid (hs.up hb0)
 have CK:=hid (HT.out.saved _ lr Z _ len DV QV H U HR.out hlr HS.out)
 obtain⟨ar,cr,rfl,z1,z2⟩:=id hr
 obtain⟨av0,cv0,rfl,⟨hvc,hvb⟩,z4⟩:=id hs
 obtain⟨er,her⟩:∃c,savE lr Z len=c:=⟨_,rfl⟩
 rw[her]at CK
 unfold savE at her
 have HEr:=hid her
 clear hb0 A0 hr hs hv hl hO hW hT her z1 z2 z4
 unfold meshV
 go_enter Tryz.func8,Tryz.ntmps8
 go_wp2_with fail
 refine Calls.mono CK.out ?_
 rintro e u1 ⟨hb,vsv,n9,VV,rfl,hn9,hls⟩
 have HN9:=hid hn9
 have LS:=hid hls
 obtain⟨a9,c9,rfl,z1,z2⟩:=hls
 replace A1:=hid (A1.out.up hb)
 replace HB:=hid (HB.out.trans (hb.mono HB.out.size))
 replace HR:=hid (HR.out.up hb)
 replace HS:=hid (HS.out.up hb)
 clear hb CK hU hg0 z1 z2 hn9
 have CK:=hid (HT.out.spare _ n PV b _ np KV UV P k u1 A1.out.2.1 A1.out.2.2)
 obtain⟨S,hS⟩:∃c,spV n b np P k=c:=⟨_,rfl⟩
 obtain⟨ve,hve⟩:∃c,verM n b np P k=c:=⟨_,rfl⟩
 rw[hS,hve]at CK
 unfold meshV at CK
 obtain⟨c0,c1⟩:=A1.out.cells
 go_wp2_with fail
 refine Calls.mono CK.out ?_
 rintro e u2 ⟨rfl,hb⟩
 replace A1:=hid (A1.out.up hb)
 replace HB:=hid (HB.out.trans (hb.mono HB.out.size))
 replace HR:=hid (HR.out.up hb)
 replace HS:=hid (HS.out.up hb)
 replace LS:=hid (LS.out.up hb)
 clear hb CK c0 c1
 have CK:=hid (lackingIn_any _ n PV b _ np KV UV P k u2 A1.out.2.1 A1.out.2.2)
 obtain⟨la,hla⟩:∃c,lackV n b np P k=c:=⟨_,rfl⟩
 rw[hla,hve]at CK
 unfold meshV at CK
 have HSv:=hid hS
 have HLa:=hid hla
 have HVe:=hid hve
 obtain⟨c0,c1⟩:=A1.out.cells
 clear hS hla hve
 go_wp2_with fail
 refine Calls.mono CK.out ?_
 rintro e u3 ⟨rfl,hb⟩
 replace A1:=hid (A1.out.up hb)
 replace HB:=hid (HB.out.trans (hb.mono HB.out.size))
 replace HR:=hid (HR.out.up hb)
 replace HS:=hid (HS.out.up hb)
 replace LS:=hid (LS.out.up hb)
 clear hb CK c0 c1
 obtain⟨c0,c1⟩:=A1.out.cells
 by_cases h0:ve=0
 subst h0
 obtain⟨o,d,ho,hd,hsp,⟨hl1,hl2⟩,⟨hd1,hd2⟩,⟨ho1,ho2⟩⟩:=lack_spare HVe.out
 rw[HSv.out,HLa.out]at hsp
 rw[HLa.out]at hl1 hl2
 obtain⟨_,hk0,hkn⟩:=verM_ok HVe.out
 obtain⟨q,rfl⟩:∃q:Nat,k=q:=⟨k.toNat,by omega⟩
 rw[Int.toNat_natCast]at ho hd
 obtain⟨bv,ov,rfl,hbv,_,v1,v2,_,_⟩:=ve_at A1.out.2.1 (i:=q) (by omega)
 rw[ho]at v2
 rw[hd]at v1
 have hcm:(S != o-la-d)=false:=by rw[hsp];simp
 have hki:(q:Int)<(n:Int):=hkn
 go_wp2_with fail
 have HDr:Hid (Below u3.heap.size u3 u3.drew):=drew_below u3
 have hne:Nonempty (Of (Below u3.heap.size u3)):=⟨⟨u3,Below.refl _ _⟩⟩
 have F0:∀u:Of (Below u3.heap.size u3),u.val.cell? _=some _:=fun u=>by rw[u.is.cell (cell_lt c0)];exact c0
 have F1:∀u:Of (Below u3.heap.size u3),u.val.cell? _=some _:=fun u=>by rw[u.is.cell (cell_lt v1)];exact v1
 have F2:∀u:Of (Below u3.heap.size u3),u.val.cell? _=some _:=fun u=>by rw[u.is.cell (cell_lt v2)];exact v2
 refine region_mixed (Below u3.heap.size u3) [] [0,1,2,3,4,5,6,7,8,9,10,11,12,13,14,15,16,17,18,19] (by kernel_rfl) (by kernel_rfl) HDr.out ?_
 refine mixO_nil ?_
 repeat(go_big_quiet_step (fail))
 refine wpQuiet_nil ?_
 replace A1:=hid (A1.out.up HDr.out)
 replace HB:=hid (HB.out.trans (HDr.out.mono HB.out.size))
 replace HR:=hid (HR.out.up HDr.out)
 replace HS:=hid (HS.out.up HDr.out)
 replace LS:=hid (LS.out.up HDr.out)
 clear F0 F1 F2 hne HDr c0 c1 v1 v2
 clear hki hcm hsp hl1 hl2 hd1 hd2 ho1 ho2 ho hd
 go_wp2_with fail
 rotate_left
 have hcb:(ve==0)=false:=by rw[beq_eq_false_iff_ne];exact h0
 have hS0:S=0:=by rw[←HSv.out];unfold spV;rw[HVe.out,if_neg h0]
 have hl0:la=0:=by rw[←HLa.out];unfold lackV;rw[HVe.out,if_neg h0]
 subst hS0 hl0
 clear c0 c1
 go_wp2_with fail
 all_goals
  refine Calls.mono (HJ.out _) ?_
  rintro e u4 ⟨rfl,hb⟩
  replace HB:=hid (HB.out.trans (hb.mono HB.out.size))
  replace HR:=hid (HR.out.up hb)
  replace HS:=hid (HS.out.up hb)
  replace LS:=hid (LS.out.up hb)
  clear hb A1
  have CF:=hid (freshMesh_any _ lr Z u4 HR.out hlr)
  obtain⟨en,hen⟩:∃c,newE lr Z=c:=⟨_,rfl⟩
  rw[hen]at CF HEr
  have HEn:=hid hen
  clear hen
  go_wp2_with fail
  refine Calls.mono CF.out ?_
  rintro e u5 hMp
  obtain⟨hb,b1,n1,e1,PV1,l1,np1,f1,KV1,UV1,rfl,hn1,hp1,hv9,hl9⟩:=mesh_open hMp
  have HN1:=hid hn1
  have HP1:=hid hp1
  replace HB:=hid (HB.out.trans (hb.mono HB.out.size))
  replace HS:=hid (HS.out.up hb)
  replace LS:=hid (LS.out.up hb)
  obtain⟨V1,gx,hV1,hgx,q0,q1,f0,f2,Y1,hY1,hb1,bx⟩:=ms_boxed hv9 hl9
  have X1:=hid bx
  have HGx:Hid (u5.heap.size≤gx):=Nat.le_of_eq hgx
  have HB1:=hid hb1
  clear hb hb1 bx hv9 hl9 hMp CF HR hn1 hp1
  by_cases h1:en=0
  ·subst h1
   have hn1:=HN1.out;have hp1:=HP1.out;rw[if_pos rfl]at hn1 hp1;have hp2:=hp1.symm;subst hn1 hp2;have her:=HEr.out;rw[if_pos rfl]at her;by_cases hlen:len≤100
   ·rw[if_pos hlen]at her
    subst her;have hn9:=HN9.out;rw[if_pos rfl]at hn9;subst hn9;obtain⟨M,hM⟩:∃m:Ms,(⟨0,noB,lr,freshP Z⟩:Ms)=m:=⟨_,rfl⟩;rw[hM]at LS ⊢;have hM0:msE M=0:=by rw[←hM];exact HEn.out
    have HM0:=hid hM0;have hng:¬(len:Int)>100:=by omega
    have J0:Hid (TsInv u5 Y1 gx (runM M (hapL H 0)) b1 e1 l1 f1 PV1 KV1 UV1 (.slice none 0 0) [] (savedL M (hapL H 0))):=by
     rw[←hM];exact⟨HGx.out,X1.out,(LsInv.nil u5).up HB1.out,fun s hs=>by cases hs⟩
    clear hM hM0;go_wp2;clear q0 q1 f0 f2 hV1 hgx hY1;go_loopw [17,97] (fun vo iv wr=>∃(i:Nat) (a0:Option Addr) (c0:Nat) (a1:Option Addr) (c1:Nat) (PVi KVi:Nat→Value) (UVi:Nat→Nat→Value) (VW:List Value),i≤len∧iv=.int .i64 i∧Hid (TsInv u5 wr gx (runM M (hapL H i)) a0 c0 a1 c1 PVi KVi UVi vo VW (savedL M (hapL H i)))) (fun _ iv _=>len-(intOf iv).toNat)
    case atStart=>exact⟨0,_,_,_,_,_,_,_,_,Nat.zero_le _,rfl,J0⟩
    case round =>
     obtain⟨i,a0,c0,a1,c1,PVi,KVi,UVi,VW,hi,rfl,J⟩:=hrel;by_cases hlt:i<len
     ·have hii:(i:Int)<(len:Int):=by omega
      obtain⟨bl,off,rfl,hbl,⟨x0,x1,x2,x3,x4,x5,x6⟩,hat⟩:=(HS.out.up J.out.ls.below).at hlt;have hat5:HpAt u5 u5.heap.size (H i) (DV i) (QV i):=by obtain⟨_,_,_,_,_,h⟩:=HS.out.at hlt;exact h
      have HAt:=hid hat;obtain⟨⟨avd,cvd,hvd,_,_⟩,⟨avp,cvp,hvp,_,_⟩⟩:=hat;rw[hvd]at x3 HAt hat5;rw[hvp]at x4 HAt hat5;obtain⟨x,hx⟩:∃x,H i=x:=⟨_,rfl⟩;obtain⟨Q,hQ⟩:∃Q,runM M (hapL H i)=Q:=⟨_,rfl⟩;have hsv:=savedL_next M H i;have hnx:=runM_next M H i;rw[hx]at x0 x1 x2 x3 x4 x5 x6 HAt hat5 hsv hnx;rw[hQ]at hsv hnx J;have HAt5:=hid hat5;have hQ0:msE Q=0:=by rw[←hQ];exact run_right _ HM0.out
      have HQR:=hid (ms_right hQ0);obtain⟨V2,g11,hV2,hg11,⟨p0,p1,p2,p3,p4,p5,p6⟩,⟨r0,r1,r2,r3,r4,r5,r6⟩,Y2,hY2,hb2,kx⟩:=hap_boxed wr x (.slice avd x.len cvd) (.slice avp x.lp cvp);replace J:=hid (J.out.up hb2);replace HAt:=hid (HAt.out.up hb2);have KX:=hid kx;obtain⟨y0,y1,y2,y3,y4,y5,y6⟩:=seven_atC kx;obtain⟨q0,q1⟩:=J.out.made.cells;have HLt:=hid J.out.ls.own.lt;have CH:=hid (happened_anyO (fun s=>u17.ownBlock=some s) _ Q.n PVi Q.b _ Q.np KVi UVi Q.P x _ _ Y2 J.out.made.2.1 J.out.made.2.2 HAt.out HQR.out (fun s _ hs=>J.out.off s hs) (fun s _ hs=>offB_isl HAt5.out.2 (HLt.out s hs).1));obtain⟨e9,he9⟩:∃c,happE Q x=c:=⟨_,rfl⟩;rw[show happE ⟨Q.n,Q.b,Q.np,Q.P⟩ x=e9 from he9]at CH;rw[he9]at hsv;have HE9:=hid he9;have HSv9:=hid hsv;have HNx:=hid hnx;have hll:=savedL_len (hapL H i) M;rw[hapL_len]at hll
      have HLl:=hid hll;unfold meshV hapV at CH;clear hb2 kx he9 hsv hnx hll hvd hvp hat5 hx hQ hQ0;go_wp2_with fail
      refine Calls.mono CH.out ?_;rintro e u9 hMp;obtain⟨hb,vb5,vl5,n5,np5,PV5,KV5,UV5,rfl,hn5,hp5,hv5,hl5,hmo⟩:=(show MeshPostO _ _ _ _ _ _ _ _ _ from hMp);obtain⟨a5,c5,rfl,z1,z2⟩:=id hv5;clear z1 z2;obtain⟨l5,d5,rfl,z1,z2⟩:=id hl5;clear z1 z2;have HMo:=hid hmo;have HN5:=hid hn5;have HP5:=hid hp5;replace J:=hid (J.out.up hb);have kx:=stayB KX.out hb;clear hMp hmo hn5 hp5 CH y0 y1 y2 y3 y4 y5 y6 q0 q1 p0 p1 p2 p3 p4 p5 p6 r0 r1 r2 r3 r4 r5 r6 x0 x1 x2 x3 x4 x5 x6 hV2 hY2 hg11 KX;obtain⟨V5,g5,hV5,hg5,t0,t1,w0,w1,Y5,hY5,hb5,b5⟩:=ms_boxed hv5 hl5;have X5:=hid b5;replace J:=hid (J.out.up hb5);replace HAt:=hid ((HAt.out.up hb).up hb5);obtain⟨y0,_,_,y3,_,_,_⟩:=seven_atC (stayB kx hb5);unfold meshV;obtain⟨q0,q1⟩:=J.out.made.cells;obtain⟨s0,s1⟩:=X5.out.cells;have h27:=frozen_at (i:=0) J.out.made.1
      have h28:=frozen_at (i:=1) J.out.made.1;clear hb hb5 b5 hv5 hl5 kx;by_cases h9:e9=0
      ·subst h9
       have hn5:=HN5.out;have hp5:=HP5.out;rw[if_pos rfl]at hn5 hp5;subst hn5 hp5;have hst:stepM Q x=happM Q x:=by unfold stepM;rw[if_pos HE9.out]
       have HSt:=hid hst;have J6:=hid (J.out.next (Q':=happM Q x) X5.out.2.1 X5.out.2.2 (fun s hs=>HMo.out s (HLt.out s hs).2 hs));have k6:(put2 Y5 gx (.slice a5 (happM Q x).n c5) (.slice l5 (happM Q x).np d5)).cell? ⟨g11,0,none⟩=some (.int .i64 x.kd)∧(put2 Y5 gx (.slice a5 (happM Q x).n c5) (.slice l5 (happM Q x).np d5)).cell? ⟨g11,3,none⟩=some (.slice avd x.len cvd):=by
        have hne:g11≠gx:=fun e=>by
         rw[e,q0]at y0;injection y0 with y0;cases y0
        unfold put2;exact⟨by rw[cell_off hne,cell_off hne];exact y0,by rw[cell_off hne,cell_off hne];exact y3⟩
       obtain⟨Y6,hY6⟩:∃y,put2 Y5 gx (.slice a5 (happM Q x).n c5) (.slice l5 (happM Q x).np d5)=y:=⟨_,rfl⟩;rw[hY6]at J6 k6;have HY:Hid (IntSl Y6 Y6.heap.size (.slice avd x.len cvd) x.len x.D):=by
        show IntSl _ _ _ _ _;rw[←hY6];exact isl_put2D J.out.made.1 HAt.out.1 _ _
       unfold put2 at hY6;obtain⟨k0,k3⟩:=k6;obtain⟨kd,hkd⟩:∃c,x.kd=c:=⟨_,rfl⟩;rw[hkd]at k0 y0;have HKd:=hid hkd;clear hst J hkd;by_cases c1:kd=1
       ·subst c1
        have hsn:=HSv9.out;rw[HKd.out,if_pos ⟨rfl,rfl⟩]at hsn;have HSn:=hid hsn;have hb1:=below_alloc Y6 (.cells #[.slice avd x.len cvd] 28);have k9:=heap_alloc_new Y6 (.cells #[.slice avd x.len cvd] 28);obtain⟨V7,hV7⟩:∃v,World.alloc Y6 (.cells #[.slice avd x.len cvd] 28)=v:=⟨_,rfl⟩;obtain⟨g7,hg7⟩:∃g,Y6.heap.size=g:=⟨_,rfl⟩;rw[hV7]at hb1 k9;rw[hg7]at k9;have J7:=hid (J6.out.up hb1);have HY7:=hid (HY.out.up hb1);have KN:=hid k9;have HOf:Hid (∀s,u17.ownBlock=some s→OfB s x.len (.slice avd x.len cvd)):=fun s hs=>offB_isl HAt5.out.1 (HLt.out s hs).1;clear hsn hb1 k9 J6 HY
        go_wp2_with(at_builtin;go_must(refine wpList_append_own_at _ rfl (.tmp 113) (.tmp 116) 53 rfl u5.heap.size 28 ie (.slice none 0 0) 1 24 Tryz.underlying53 hie hez0 hez1 hez2 rfl (by decide) u17 (savedL M (hapL H i)).length _ rfl J7.out.ls.own ⟨g7,0,none⟩ 1 1 [.slice avd x.len cvd] rfl rfl (one_ls KN.out) (by intro u hu;simp at hu;subst hu;rfl) (by have:=HLl.out;unfold maxLen;omega) (by have:=HLl.out;omega) J7.out.ls.below.size ?_;intro v9 w9 ho9 hg9 _ hat9;have J9:=hid (J7.out.grow HY7.out HOf.out hg9 ho9 hat9);clear ho9 hg9 hat9))
        go_roundw
        case rel=>exact⟨i+1,_,_,_,_,_,_,_,_,by omega,by go_num,by rw[HNx.out,HSt.out,HSn.out];exact J9⟩
        case measure=>simp only[intOf];omega
       have hk1:(kd==1)=false:=by rw[beq_eq_false_iff_ne];exact c1
       have hsn:=HSv9.out;rw[HKd.out,if_neg (fun q=>c1 q.1),List.append_nil]at hsn;have HSn:=hid hsn;clear hsn c1;go_wp2;go_roundw
       case rel=>exact⟨i+1,_,_,_,_,_,_,_,_,by omega,by go_num,by rw[HNx.out,HSt.out,HSn.out];exact J6⟩
       case measure=>simp only[intOf];omega
      have hc9:(e9==0)=false:=by rw[beq_eq_false_iff_ne];exact h9
      have hst:stepM Q x=Q:=by unfold stepM;rw[HE9.out,if_neg h9]
      have HSt:=hid hst;have hsn:=HSv9.out;rw[if_neg (fun q=>h9 q.2),List.append_nil]at hsn;have HSn:=hid hsn;clear hst hsn h9;go_wp2;go_roundw
      case rel=>exact⟨i+1,_,_,_,_,_,_,_,_,by omega,by go_num,by rw[HNx.out,HSt.out,HSn.out];exact J⟩
      case measure=>simp only[intOf];omega
     have hie:i=len:=by omega
     subst hie;have hjn:¬(i:Int)<(i:Int):=by omega
     have hll:=savedL_len (hapL H i) M;rw[hapL_len]at hll;have hls:=J.out.ls.lisl (by omega);have CE:=hid (eqLists (by omega) (LS.out.up J.out.ls.below) hls);obtain⟨aw,cw,rfl,_,_⟩:=hls;have HBZ:=hid (HB.out.trans (J.out.ls.below.mono HB.out.size));clear hll;go_wp2_with fail
     refine Calls.mono CE.out ?_;rintro e u7 ⟨rfl,hb⟩;replace HBZ:=hid (HBZ.out.trans (hb.mono HBZ.out.size));clear hb CE;go_wp2;go_ret;exact⟨rfl,HBZ.out⟩
   rw[if_neg hlen]at her;subst her;have hn9:=HN9.out;rw[if_neg (by decide)]at hn9;subst hn9;have hgt:(len:Int)>100:=by omega
   have HBZ:=hid (HB.out.trans (HB1.out.mono HB.out.size));clear hlen;go_wp2;go_ret;exact⟨rfl,HBZ.out⟩
  ·have hcx:(en==0)=false:=by rw[beq_eq_false_iff_ne];exact h1
   have hcy:(en != 0)=true:=by simpa using h1
   have her:=HEr.out;rw[if_neg h1]at her;subst her;have hn1:=HN1.out;have hp1:=HP1.out;have hn9:=HN9.out;rw[if_neg h1]at hn1 hp1 hn9;subst hn1 hp1 hn9;have HBZ:=hid (HB.out.trans (HB1.out.mono HB.out.size));clear h1;go_wp2;go_ret;exact⟨rfl,HBZ.out⟩
section
variable {H : Type} {enc : TypeId × Value → H} {W : World}
theorem Tryz.cellsInts:Tryz.prog.cellsOf 28=1:=by kernel_rfl
theorem Tryz.cellsPlan:Tryz.prog.cellsOf 59=3:=by kernel_rfl
theorem agg_of{v:Value}{n:Nat}(hn:n≠1)(h:v.cells.toList.length=n):v=.agg v.cells:=by
 cases v<;>first|rfl|(simp[Value.cells]at h;omega)
theorem isl_cell{fuel:Nat}{cs:List Value}{x:DataW H×List MemPlace}(h:DataW.trod enc Tryz.prog W 0 (fun _=>true) true fuel 28 cs=some x)(hs:∀y∈x.1.weights Tryz.prog 28,y≤reachBytes):
 ∃a len cap X,cs=[.slice a len cap]∧SlArg W a len cap X:=by
 have key:∃a len cap,cs=[.slice a len cap]:=by
  rcases open_ints Tryz.underlying28 Tryz.underlying3 Tryz.cellsInt h with⟨hcs,_⟩|⟨x,l,c,zs,hcs,_⟩;·exact⟨_,_,_,hcs⟩
  exact⟨_,_,_,hcs⟩
 obtain⟨a,len,cap,rfl⟩:=key
 obtain⟨X,hX⟩:=slArg_open (enc:=enc) (W:=W) (a:=a) (len:=len) (cap:=cap) (d:=x.1) (p:=x.2) Tryz.underlying28 ⟨fuel,by simpa[Value.cells]using h⟩ (fun elems spare hd=>by
  refine hs _ ?_;rw[hd];simp[DataW.weights,Tryz.underlying28])
 exact⟨a,len,cap,X,rfl,hX⟩
theorem weightsAll_mem{P:Program}{e:TypeId}{l:List (DataW H)}{d:DataW H}(h:d∈l){y:Nat}(hy:y∈d.weights P e):y∈DataW.weightsAll P e l:=by
 induction l with
 |nil=>cases h
 |cons x l ih =>
  simp only[DataW.weightsAll,List.mem_append];rcases List.mem_cons.1 h with rfl|h;·exact Or.inl hy
  exact Or.inr (ih h)
end
section
variable {H : Type} {enc : TypeId × Value → H} {W : World}
theorem Tryz.cellsVer:Tryz.prog.cellsOf 61=4:=by kernel_rfl
theorem Tryz.cellsVers:Tryz.prog.cellsOf 22=1:=by kernel_rfl
theorem Tryz.cellsBook:Tryz.prog.cellsOf 24=1:=by kernel_rfl
theorem Tryz.bytesVer:Tryz.prog.bytesOf 61=48:=by kernel_rfl
theorem plan_cells{fuel:Nat}{cs:List Value}{x:DataW H×List MemPlace}(h:DataW.trod enc Tryz.prog W 0 (fun _=>true) true fuel 59 cs=some x):
 ∃nd of sz:Int,cs=[.int .i64 nd,.int .i64 of,.int .i64 sz]:=by
 obtain⟨y0,y1,y2,n,hx,hl,h0,h1,h2⟩:=trod_struct3 Tryz.underlying59 h
 rw[Tryz.cellsPlan]at hl
 rw[Tryz.cellsInt]at h0 h1 h2
 obtain⟨a,e0,_,b0⟩:=DataW.trod_int Tryz.underlying3 h0
 obtain⟨b,e1,_,b1⟩:=DataW.trod_int Tryz.underlying3 h1
 obtain⟨c,e2,_,b2⟩:=DataW.trod_int Tryz.underlying3 h2
 refine⟨a,b,c,?_⟩
 match cs,hl with
 |[u0,u1,u2],_ =>
  simp at e0 e1 e2;subst e0 e1 e2;rfl
theorem ver_cells{fuel:Nat}{cs:List Value}{x:DataW H×List MemPlace}(h:DataW.trod enc Tryz.prog W 0 (fun _=>true) true fuel 61 cs=some x)(hs:∀y∈x.1.weights Tryz.prog 61,y≤reachBytes):
 ∃(a:Option Addr) (len cap:Nat) (X:Nat→Int) (nd of sz:Int),cs=[.slice a len cap,.int .i64 nd,.int .i64 of,.int .i64 sz]∧SlArg W a len cap X:=by
 obtain⟨y0,y1,n,hx,hl,h0,h1⟩:=trod_struct2 Tryz.underlying61 h
 rw[Tryz.cellsVer]at hl
 rw[Tryz.cellsInts]at h0
 rw[Tryz.cellsPlan]at h1
 have hd:x.1=.agg [y0.1,y1.1]:=congrArg Prod.fst hx
 obtain⟨a,len,cap,X,e0,hX⟩:=isl_cell h0 (fun y hy=>hs y (by
  rw[hd];simp only[DataW.weights,Tryz.underlying61,List.map_cons,List.map_nil,DataW.weightsEach,List.mem_append];exact Or.inl hy))
 obtain⟨nd,of,sz,e1⟩:=plan_cells h1
 refine⟨a,len,cap,X,nd,of,sz,?_,hX⟩
 match cs,hl with
 |[u0,u1,u2,u3],_ =>
  simp at e0 e1;obtain⟨rfl,rfl,rfl⟩:=e1;subst e0;rfl
theorem vers_cell{fuel:Nat}{cs:List Value}{x:DataW H×List MemPlace}(h:DataW.trod enc Tryz.prog W 0 (fun _=>true) true fuel 22 cs=some x)(hs:∀y∈x.1.weights Tryz.prog 22,y≤reachBytes):
 ∃v n PV b,cs=[v]∧VeSl W W.heap.size v n PV b:=by
 rcases open_slice Tryz.underlying22 h with⟨hcs,_⟩|⟨ad,len,cap,m,n,D,Pl,hcs,_,hl,hm,hmm,hx,hall⟩
 ·exact⟨_,0,fun _=>undef,⟨fun _=>0,fun _ _=>0,fun _=>0,fun _=>0,fun _=>0⟩,hcs,none,0,rfl,⟨Nat.le_refl _,by omega⟩,Or.inl rfl⟩
 ·simp only[if_true]at hmm
  subst hmm;have hd:x.1=.slice ((List.range len).map D) ((List.range (m-len)).map fun j=>D (len+j)):=congrArg Prod.fst hx;rw[Tryz.cellsVer]at hall;have each:∀i,i<len→∃q:Value×Nat×(Nat→Int)×Int×Int×Int,W.cell? (Addr.add ad (i*4))=some q.1∧W.cell? (Addr.add ad (i*4+1))=some (.int .i64 q.2.2.2.1)∧W.cell? (Addr.add ad (i*4+2))=some (.int .i64 q.2.2.2.2.1)∧W.cell? (Addr.add ad (i*4+3))=some (.int .i64 q.2.2.2.2.2)∧IntSl W W.heap.size q.1 q.2.1 q.2.2.1:=by
   intro i hi;obtain⟨cs',h1,h2⟩:=hall i (by omega);obtain⟨_,_,hcell⟩:=World.cells?_some h1;obtain⟨a1,l1,c1,X1,nd,of,sz,e,hX⟩:=ver_cells h2 (fun y hy=>hs y (by
    rw[hd];simp only[DataW.weights,Tryz.underlying22,List.mem_cons,List.mem_append];exact Or.inr (Or.inl (weightsAll_mem (d:=D i) (List.mem_map.2 ⟨i,List.mem_range.2 hi,rfl⟩) hy))))
   subst e;have e0:=hcell 0 (by omega);have e1:=hcell 1 (by omega);have e2:=hcell 2 (by omega);have e3:=hcell 3 (by omega);rw[add_add]at e0 e1 e2 e3;exact⟨⟨.slice a1 l1 c1,l1,X1,nd,of,sz⟩,e0,e1,e2,e3,hX.isl⟩
  obtain⟨q,hq⟩:=choose_lt each;have hr:(len+(m-len))*48≤140737488351232:=by
   have h1:=hs ((len+(m-len))*Tryz.prog.bytesOf 61) (by
    rw[hd];simp[DataW.weights,Tryz.underlying22])
   rw[Tryz.bytesVer]at h1;simpa[reachBytes]using h1
  refine⟨_,len,fun i=>(q i).1,⟨fun i=>(q i).2.1,fun i=>(q i).2.2.1,fun i=>(q i).2.2.2.1,fun i=>(q i).2.2.2.2.1,fun i=>(q i).2.2.2.2.2⟩,hcs,some ad,m,rfl,⟨hl,by omega⟩,?_⟩;by_cases h0:len=0;·exact Or.inl h0
  obtain⟨b,off,spot⟩:=ad;have hspot:spot=none:=by simpa[Addr.add]using World.cell?_spot (hq 0 (by omega)).1
  subst hspot;refine Or.inr ⟨b,off,rfl,?_,fun j hj=>?_⟩
  ·have h1:=cell_lt (hq 0 (by omega)).1
   simpa[Addr.add]using h1
  obtain⟨c0,c1,c2,c3,hi⟩:=hq j hj;rw[Go.WideShapes.add_plain]at c0 c1 c2 c3;exact⟨c0,by simpa[Nat.add_assoc]using c1,by simpa[Nat.add_assoc]using c2,by simpa[Nat.add_assoc]using c3,hi⟩
end
section
variable {H : Type} {enc : TypeId × Value → H} {W : World}
theorem Tryz.cellsBool:Tryz.prog.cellsOf 4=1:=by kernel_rfl
theorem Tryz.cellsShr:Tryz.prog.cellsOf 81=2:=by kernel_rfl
theorem Tryz.cellsKept:Tryz.prog.cellsOf 83=3:=by kernel_rfl
theorem Tryz.cellsKepts:Tryz.prog.cellsOf 39=1:=by kernel_rfl
theorem Tryz.cellsPeer:Tryz.prog.cellsOf 41=3:=by kernel_rfl
theorem Tryz.bytesKept:Tryz.prog.bytesOf 83=40:=by kernel_rfl
theorem shr_cells{fuel:Nat}{cs:List Value}{x:DataW H×List MemPlace}(h:DataW.trod enc Tryz.prog W 0 (fun _=>true) true fuel 81 cs=some x)(hs:∀y∈x.1.weights Tryz.prog 81,y≤reachBytes):
 ∃(N:Int) (a:Option Addr) (len cap:Nat) (X:Nat→Int),cs=[.int .i64 N,.slice a len cap]∧SlArg W a len cap X:=by
 obtain⟨y0,y1,n,hx,hl,h0,h1⟩:=trod_struct2 Tryz.underlying81 h
 rw[Tryz.cellsShr]at hl
 rw[Tryz.cellsInt]at h0
 rw[Tryz.cellsInts]at h1
 obtain⟨N,e0,_,b0⟩:=DataW.trod_int Tryz.underlying3 h0
 have hd:x.1=.agg [y0.1,y1.1]:=congrArg Prod.fst hx
 obtain⟨a,len,cap,X,e1,hX⟩:=isl_cell h1 (fun y hy=>hs y (by
  rw[hd];simp only[DataW.weights,Tryz.underlying81,List.map_cons,List.map_nil,DataW.weightsEach,List.mem_append];exact Or.inr (Or.inl hy)))
 refine⟨N,a,len,cap,X,?_,hX⟩
 match cs,hl with
 |[u0,u1],_ =>
  simp at e0 e1;subst e0 e1;rfl
theorem kept_cells{fuel:Nat}{cs:List Value}{x:DataW H×List MemPlace}(h:DataW.trod enc Tryz.prog W 0 (fun _=>true) true fuel 83 cs=some x)(hs:∀y∈x.1.weights Tryz.prog 83,y≤reachBytes):
 ∃(ver N:Int) (a:Option Addr) (len cap:Nat) (X:Nat→Int),cs=[.int .i64 ver,.int .i64 N,.slice a len cap]∧SlArg W a len cap X:=by
 obtain⟨y0,y1,n,hx,hl,h0,h1⟩:=trod_struct2 Tryz.underlying83 h
 rw[Tryz.cellsKept]at hl
 rw[Tryz.cellsInt]at h0
 rw[Tryz.cellsShr]at h1
 obtain⟨ver,e0,_,b0⟩:=DataW.trod_int Tryz.underlying3 h0
 have hd:x.1=.agg [y0.1,y1.1]:=congrArg Prod.fst hx
 obtain⟨N,a,len,cap,X,e1,hX⟩:=shr_cells h1 (fun y hy=>hs y (by
  rw[hd];simp only[DataW.weights,Tryz.underlying83,List.map_cons,List.map_nil,DataW.weightsEach,List.mem_append];exact Or.inr (Or.inl hy)))
 refine⟨ver,N,a,len,cap,X,?_,hX⟩
 match cs,hl with
 |[u0,u1,u2],_ =>
  simp at e0 e1;obtain⟨rfl,rfl⟩:=e1;subst e0;rfl
theorem kepts_cell{fuel:Nat}{cs:List Value}{x:DataW H×List MemPlace}(h:DataW.trod enc Tryz.prog W 0 (fun _=>true) true fuel 39 cs=some x)(hs:∀y∈x.1.weights Tryz.prog 39,y≤reachBytes):
 ∃v n UV t,cs=[v]∧KeSl W W.heap.size v n UV t:=by
 rcases open_slice Tryz.underlying39 h with⟨hcs,_⟩|⟨ad,len,cap,m,n,D,Pl,hcs,_,hl,hm,hmm,hx,hall⟩
 ·exact⟨_,0,fun _=>undef,⟨fun _=>0,fun _=>0,fun _=>0,fun _ _=>0⟩,hcs,none,0,rfl,⟨Nat.le_refl _,by omega⟩,Or.inl rfl⟩
 ·simp only[if_true]at hmm
  subst hmm;have hd:x.1=.slice ((List.range len).map D) ((List.range (m-len)).map fun j=>D (len+j)):=congrArg Prod.fst hx;rw[Tryz.cellsKept]at hall;have each:∀i,i<len→∃q:Int×Int×Value×Nat×(Nat→Int),W.cell? (Addr.add ad (i*3))=some (.int .i64 q.1)∧W.cell? (Addr.add ad (i*3+1))=some (.int .i64 q.2.1)∧W.cell? (Addr.add ad (i*3+2))=some q.2.2.1∧IntSl W W.heap.size q.2.2.1 q.2.2.2.1 q.2.2.2.2:=by
   intro i hi;obtain⟨cs',h1,h2⟩:=hall i (by omega);obtain⟨_,_,hcell⟩:=World.cells?_some h1;obtain⟨ver,N,a1,l1,c1,X1,e,hX⟩:=kept_cells h2 (fun y hy=>hs y (by
    rw[hd];simp only[DataW.weights,Tryz.underlying39,List.mem_cons,List.mem_append];exact Or.inr (Or.inl (weightsAll_mem (d:=D i) (List.mem_map.2 ⟨i,List.mem_range.2 hi,rfl⟩) hy))))
   subst e;have e0:=hcell 0 (by omega);have e1:=hcell 1 (by omega);have e2:=hcell 2 (by omega);rw[add_add]at e0 e1 e2;exact⟨⟨ver,N,.slice a1 l1 c1,l1,X1⟩,e0,e1,e2,hX.isl⟩
  obtain⟨q,hq⟩:=choose_lt each;have hr:(len+(m-len))*40≤140737488351232:=by
   have h1:=hs ((len+(m-len))*Tryz.prog.bytesOf 83) (by
    rw[hd];simp[DataW.weights,Tryz.underlying39])
   rw[Tryz.bytesKept]at h1;simpa[reachBytes]using h1
  refine⟨_,len,fun i=>(q i).2.2.1,⟨fun i=>(q i).1,fun i=>(q i).2.1,fun i=>(q i).2.2.2.1,fun i=>(q i).2.2.2.2⟩,hcs,some ad,m,rfl,⟨hl,by omega⟩,?_⟩;by_cases h0:len=0;·exact Or.inl h0
  obtain⟨b,off,spot⟩:=ad;have hspot:spot=none:=by simpa[Addr.add]using World.cell?_spot (hq 0 (by omega)).1
  subst hspot;refine Or.inr ⟨b,off,rfl,?_,fun j hj=>?_⟩
  ·have h1:=cell_lt (hq 0 (by omega)).1
   simpa[Addr.add]using h1
  obtain⟨c0,c1,c2,hi⟩:=hq j hj;rw[Go.WideShapes.add_plain]at c0 c1 c2;exact⟨c0,by simpa[Nat.add_assoc]using c1,by simpa[Nat.add_assoc]using c2,hi⟩
end
section
variable {H : Type} {enc : TypeId × Value → H} {W : World}
theorem Tryz.bytesPeer:Tryz.prog.bytesOf 41=40:=by kernel_rfl
theorem Tryz.cellsPeers:Tryz.prog.cellsOf 25=1:=by kernel_rfl
theorem peer_cells{fuel:Nat}{cs:List Value}{x:DataW H×List MemPlace}(h:DataW.trod enc Tryz.prog W 0 (fun _=>true) true fuel 41 cs=some x)(hs:∀y∈x.1.weights Tryz.prog 41,y≤reachBytes):
 ∃(th:Bool) (room:Int) (vk:Value) (m:Nat) (UV:Nat→Value) (t:Kt),cs=[.bool th,.int .i64 room,vk]∧KeSl W W.heap.size vk m UV t:=by
 obtain⟨y0,y1,y2,n,hx,hl,h0,h1,h2⟩:=trod_struct3 Tryz.underlying41 h
 rw[Tryz.cellsPeer]at hl
 rw[Tryz.cellsBool]at h0
 rw[Tryz.cellsInt]at h1
 rw[Tryz.cellsKepts]at h2
 obtain⟨th,e0,_⟩:=DataW.trod_bool Tryz.underlying4 h0
 obtain⟨room,e1,_,b1⟩:=DataW.trod_int Tryz.underlying3 h1
 have hd:x.1=.agg [y0.1,y1.1,y2.1]:=congrArg Prod.fst hx
 obtain⟨vk,m,UV,t,e2,hk⟩:=kepts_cell h2 (fun y hy=>hs y (by
  rw[hd];simp only[DataW.weights,Tryz.underlying41,List.map_cons,List.map_nil,DataW.weightsEach,List.mem_append];exact Or.inr (Or.inr (Or.inl hy))))
 refine⟨th,room,vk,m,UV,t,?_,hk⟩
 match cs,hl with
 |[u0,u1,u2],_ =>
  simp at e0 e1 e2;subst e0 e1 e2;rfl
theorem peers_cell{fuel:Nat}{cs:List Value}{x:DataW H×List MemPlace}(h:DataW.trod enc Tryz.prog W 0 (fun _=>true) true fuel 25 cs=some x)(hs:∀y∈x.1.weights Tryz.prog 25,y≤reachBytes):
 ∃v n KV UV P,cs=[v]∧PsSl W W.heap.size v n KV UV P:=by
 rcases open_slice Tryz.underlying25 h with⟨hcs,_⟩|⟨ad,len,cap,m,n,D,Pl,hcs,_,hl,hm,hmm,hx,hall⟩
 ·exact⟨_,0,fun _=>undef,fun _ _=>undef,⟨fun _=>false,fun _=>0,fun _=>0,fun _=>⟨fun _=>0,fun _=>0,fun _=>0,fun _ _=>0⟩⟩,hcs,none,0,rfl,⟨Nat.le_refl _,by omega⟩,Or.inl rfl⟩
 ·simp only[if_true]at hmm
  subst hmm;have hd:x.1=.slice ((List.range len).map D) ((List.range (m-len)).map fun j=>D (len+j)):=congrArg Prod.fst hx;rw[Tryz.cellsPeer]at hall;have each:∀i,i<len→∃q:Bool×Int×Value×Nat×(Nat→Value)×Kt,W.cell? (Addr.add ad (i*3))=some (.bool q.1)∧W.cell? (Addr.add ad (i*3+1))=some (.int .i64 q.2.1)∧W.cell? (Addr.add ad (i*3+2))=some q.2.2.1∧KeSl W W.heap.size q.2.2.1 q.2.2.2.1 q.2.2.2.2.1 q.2.2.2.2.2:=by
   intro i hi;obtain⟨cs',h1,h2⟩:=hall i (by omega);obtain⟨_,_,hcell⟩:=World.cells?_some h1;obtain⟨th,room,vk,mk,UV,t,e,hX⟩:=peer_cells h2 (fun y hy=>hs y (by
    rw[hd];simp only[DataW.weights,Tryz.underlying25,List.mem_cons,List.mem_append];exact Or.inr (Or.inl (weightsAll_mem (d:=D i) (List.mem_map.2 ⟨i,List.mem_range.2 hi,rfl⟩) hy))))
   subst e;have e0:=hcell 0 (by omega);have e1:=hcell 1 (by omega);have e2:=hcell 2 (by omega);rw[add_add]at e0 e1 e2;exact⟨⟨th,room,vk,mk,UV,t⟩,e0,e1,e2,hX⟩
  haveI:Inhabited Kt:=⟨⟨fun _=>0,fun _=>0,fun _=>0,fun _ _=>0⟩⟩
  obtain⟨q,hq⟩:=choose_lt each;have hr:(len+(m-len))*40≤140737488351232:=by
   have h1:=hs ((len+(m-len))*Tryz.prog.bytesOf 41) (by
    rw[hd];simp[DataW.weights,Tryz.underlying25])
   rw[Tryz.bytesPeer]at h1;simpa[reachBytes]using h1
  refine⟨_,len,fun i=>(q i).2.2.1,fun i=>(q i).2.2.2.2.1,⟨fun i=>(q i).1,fun i=>(q i).2.1,fun i=>(q i).2.2.2.1,fun i=>(q i).2.2.2.2.2⟩,hcs,some ad,m,rfl,⟨hl,by omega⟩,?_⟩;by_cases h0:len=0;·exact Or.inl h0
  obtain⟨b,off,spot⟩:=ad;have hspot:spot=none:=by simpa[Addr.add]using World.cell?_spot (hq 0 (by omega)).1
  subst hspot;refine Or.inr ⟨b,off,rfl,?_,fun j hj=>?_⟩
  ·have h1:=cell_lt (hq 0 (by omega)).1
   simpa[Addr.add]using h1
  obtain⟨c0,c1,c2,hi⟩:=hq j hj;rw[Go.WideShapes.add_plain]at c0 c1 c2;exact⟨c0,by simpa[Nat.add_assoc]using c1,by simpa[Nat.add_assoc]using c2,hi⟩
end
section
variable {H : Type} {enc : TypeId × Value → H} {W : World}
theorem Tryz.cellsMesh:Tryz.prog.cellsOf 27=2:=by kernel_rfl
theorem book_cell{fuel:Nat}{cs:List Value}{x:DataW H×List MemPlace}(h:DataW.trod enc Tryz.prog W 0 (fun _=>true) true fuel 24 cs=some x)(hs:∀y∈x.1.weights Tryz.prog 24,y≤reachBytes):
 ∃vs n PV b,cs=[vs]∧VeSl W W.heap.size vs n PV b:=by
 obtain⟨y0,n,hx,hl,h0⟩:=trod_struct1 Tryz.underlying24 h
 rw[Tryz.cellsBook]at hl
 rw[Tryz.cellsVers]at h0
 have hd:x.1=.agg [y0.1]:=congrArg Prod.fst hx
 obtain⟨vs,m,PV,b,e,hv⟩:=vers_cell h0 (fun y hy=>hs y (by
  rw[hd];simp only[DataW.weights,Tryz.underlying24,List.map_cons,List.map_nil,DataW.weightsEach,List.mem_append];exact Or.inl hy))
 refine⟨vs,m,PV,b,?_,hv⟩
 match cs,hl with
 |[u0],_ =>
  simp at e;subst e;rfl
theorem mesh_arg{v:Value}{d:DataW H}{p:List MemPlace}(h:DataW.Trod enc Tryz.prog W 0 (fun _=>true) true 27 v d p)(hs:∀y∈d.weights Tryz.prog 27,y≤reachBytes):
 ∃vb n PV b vl np KV UV P,v=meshV vb vl∧VeSl W W.heap.size vb n PV b∧PsSl W W.heap.size vl np KV UV P:=by
 obtain⟨fuel,hf⟩:=h
 obtain⟨y0,y1,n,hx,hl,h0,h1⟩:=trod_struct2 Tryz.underlying27 hf
 rw[Tryz.cellsMesh]at hl
 have hv:=agg_of (by omega) hl
 rw[Tryz.cellsBook]at h0
 rw[Tryz.cellsPeers]at h1
 have hd:d=.agg [y0.1,y1.1]:=congrArg Prod.fst hx
 obtain⟨vb,nb,PV,b,e0,hb⟩:=book_cell h0 (fun y hy=>hs y (by
  rw[hd];simp only[DataW.weights,Tryz.underlying27,List.map_cons,List.map_nil,DataW.weightsEach,List.mem_append];exact Or.inl hy))
 obtain⟨vl,np,KV,UV,P,e1,hp⟩:=peers_cell h1 (fun y hy=>hs y (by
  rw[hd];simp only[DataW.weights,Tryz.underlying27,List.map_cons,List.map_nil,DataW.weightsEach,List.mem_append];exact Or.inr (Or.inl hy)))
 refine⟨vb,nb,PV,b,vl,np,KV,UV,P,?_,hb,hp⟩
 rw[hv]
 generalize v.cells=cs at *
 obtain⟨l⟩:=cs
 match l,hl with
 |[u0,u1],_ =>
  simp at e0 e1;subst e0 e1;rfl
theorem bulk_one(d:DataW H):1≤Rows.uptoBulk d:=by
 rcases d with l|_|_|_|_|_|_|_;·rcases l<;>simp[Rows.uptoBulk]
 all_goals simp[Rows.uptoBulk]
theorem bulk_len(l:List (DataW H)):l.length≤Rows.uptoBulkAll l:=by
 induction l with
 |nil=>exact Nat.zero_le _
 |cons x r ih =>
  have h:=bulk_one x;rw[List.length_cons,Rows.uptoBulkAll];omega
theorem bulk_part{d:DataW H}{l:List (DataW H)}(h:d∈l):Rows.uptoBulk d≤Rows.uptoBulkAll l:=by
 induction l with
 |nil=>exact absurd h List.not_mem_nil
 |cons x r ih =>
  rw[Rows.uptoBulkAll];rcases List.mem_cons.1 h with rfl|h2;·exact Nat.le_add_right _ _
  exact Nat.le_trans (ih h2) (Nat.le_add_left _ _)
theorem ints_len{T:TypeId}{a:Option Addr}{len cap:Nat}{d:DataW H}{p:List MemPlace}(ht:Tryz.prog.underlying T=some (.slice 3))
 (h:DataW.Trod enc Tryz.prog W 0 (fun _=>true) true T (.slice a len cap) d p):len≤Rows.uptoBulk d:=by
 obtain⟨fuel,hf⟩:=h
 rcases open_ints ht Tryz.underlying3 Tryz.cellsInt hf with⟨hcs,_⟩|⟨x,l,c,zs,hcs,_,hl,hm,hz,hx,hcell,hwz⟩
 ·simp[Value.cells]at hcs
  obtain⟨rfl,rfl,rfl⟩:=hcs;exact Nat.zero_le _
 ·simp[Value.cells]at hcs
  obtain⟨rfl,rfl,rfl⟩:=hcs;simp only[if_true]at hz;have hd:d=.slice (lits .i64 (zs.take len)) (lits .i64 (zs.drop len)):=congrArg Prod.fst hx;rw[hd];have h1:=bulk_len (H:=H) (lits .i64 (zs.take len));have h2:(lits (H:=H) .i64 (zs.take len)).length=len:=by simp only[lits,List.length_map,List.length_take];omega
  simp only[Rows.uptoBulk];omega
end
section
variable {H : Type} {enc : TypeId × Value → H} {W : World}
theorem Tryz.cellsHap:Tryz.prog.cellsOf 30=7:=by kernel_rfl
theorem Tryz.cellsHaps:Tryz.prog.cellsOf 45=1:=by kernel_rfl
theorem Tryz.bytesHap:Tryz.prog.bytesOf 30=88:=by kernel_rfl
theorem trod_struct7{P:Program}{w:World}{base:Nat}{spare:Nat→Bool}{held:Bool}{t:TypeId}{f0 f1 f2 f3 f4 f5 f6:Field}{fuel:Nat}{cs:List Value}{x:DataW H×List MemPlace}(ht:P.underlying t=some (.struct #[f0,f1,f2,f3,f4,f5,f6]))(h:DataW.trod enc P w base spare held fuel t cs=some x):
 ∃y0 y1 y2 y3 y4 y5 y6 n,x.1=.agg [y0.1,y1.1,y2.1,y3.1,y4.1,y5.1,y6.1]∧cs.length=P.cellsOf t∧DataW.trod enc P w base spare held n f0.type ((cs.drop f0.offset).take (P.cellsOf f0.type))=some y0 ∧
  DataW.trod enc P w base spare held n f1.type ((cs.drop f1.offset).take (P.cellsOf f1.type))=some y1∧DataW.trod enc P w base spare held n f2.type ((cs.drop f2.offset).take (P.cellsOf f2.type))=some y2 ∧
  DataW.trod enc P w base spare held n f3.type ((cs.drop f3.offset).take (P.cellsOf f3.type))=some y3∧DataW.trod enc P w base spare held n f4.type ((cs.drop f4.offset).take (P.cellsOf f4.type))=some y4 ∧
  DataW.trod enc P w base spare held n f5.type ((cs.drop f5.offset).take (P.cellsOf f5.type))=some y5∧DataW.trod enc P w base spare held n f6.type ((cs.drop f6.offset).take (P.cellsOf f6.type))=some y6:=by
 obtain⟨xs,n,_,rfl,hl,hlen,hf⟩:=DataW.trod_struct ht h
 match xs,hlen with
 |[y0,y1,y2,y3,y4,y5,y6],_=>exact⟨y0,y1,y2,y3,y4,y5,y6,n,by simp,hl,by simpa using hf 0 f0 rfl,by simpa using hf 1 f1 rfl,by simpa using hf 2 f2 rfl,by simpa using hf 3 f3 rfl,by simpa using hf 4 f4 rfl,by simpa using hf 5 f5 rfl,by simpa using hf 6 f6 rfl⟩
theorem hap_cells{fuel:Nat}{cs:List Value}{x:DataW H×List MemPlace}(h:DataW.trod enc Tryz.prog W 0 (fun _=>true) true fuel 30 cs=some x)(hs:∀y∈x.1.weights Tryz.prog 30,y≤reachBytes):
 ∃(p:Hp) (a1 a2:Option Addr) (c1 c2:Nat),cs=[.int .i64 p.kd,.int .i64 p.N,.int .i64 p.M,.slice a1 p.len c1,.slice a2 p.lp c2,.int .i64 p.need,.int .i64 p.of]∧SlArg W a1 p.len c1 p.D∧SlArg W a2 p.lp c2 p.X:=by
 obtain⟨y0,y1,y2,y3,y4,y5,y6,n,hd,hl,h0,h1,h2,h3,h4,h5,h6⟩:=trod_struct7 Tryz.underlying30 h
 rw[Tryz.cellsHap]at hl
 rw[Tryz.cellsInt]at h0 h1 h2 h5 h6
 rw[Tryz.cellsInts]at h3 h4
 obtain⟨z0,e0,_,_⟩:=DataW.trod_int Tryz.underlying3 h0
 obtain⟨z1,e1,_,_⟩:=DataW.trod_int Tryz.underlying3 h1
 obtain⟨z2,e2,_,_⟩:=DataW.trod_int Tryz.underlying3 h2
 obtain⟨z5,e5,_,_⟩:=DataW.trod_int Tryz.underlying3 h5
 obtain⟨z6,e6,_,_⟩:=DataW.trod_int Tryz.underlying3 h6
 obtain⟨a1,l1,c1,X1,e3,s1⟩:=isl_cell h3 (fun y hy=>hs y (by
  rw[hd];simp only[DataW.weights,Tryz.underlying30,List.map_cons,List.map_nil,DataW.weightsEach,List.mem_append];exact Or.inr (Or.inr (Or.inr (Or.inl hy)))))
 obtain⟨a2,l2,c2,X2,e4,s2⟩:=isl_cell h4 (fun y hy=>hs y (by
  rw[hd];simp only[DataW.weights,Tryz.underlying30,List.map_cons,List.map_nil,DataW.weightsEach,List.mem_append];exact Or.inr (Or.inr (Or.inr (Or.inr (Or.inl hy))))))
 refine⟨⟨z0,z1,z2,l1,X1,l2,X2,z5,z6⟩,a1,a2,c1,c2,?_,s1,s2⟩
 match cs,hl with
 |[u0,u1,u2,u3,u4,u5,u6],_ =>
  simp at e0 e1 e2 e3 e4 e5 e6;subst e0 e1 e2 e3 e4 e5 e6;rfl
theorem haps_cell{fuel:Nat}{cs:List Value}{x:DataW H×List MemPlace}(h:DataW.trod enc Tryz.prog W 0 (fun _=>true) true fuel 45 cs=some x)(hs:∀y∈x.1.weights Tryz.prog 45,y≤reachBytes):
 ∃(v:Value) (n:Nat) (DV QV:Nat→Value) (X:Nat→Hp),cs=[v]∧HpSl W W.heap.size v n DV QV X:=by
 rcases open_slice Tryz.underlying45 h with⟨hcs,_⟩|⟨ad,len,cap,m,n,D,Pl,hcs,_,hl,hm,hmm,hx,hall⟩
 ·exact⟨_,0,fun _=>undef,fun _=>undef,fun _=>⟨0,0,0,0,fun _=>0,0,fun _=>0,0,0⟩,hcs,none,0,rfl,⟨Nat.le_refl _,by omega⟩,Or.inl rfl⟩
 ·simp only[if_true]at hmm
  subst hmm;have hd:x.1=.slice ((List.range len).map D) ((List.range (m-len)).map fun j=>D (len+j)):=congrArg Prod.fst hx;rw[Tryz.cellsHap]at hall;have each:∀i,i<len→∃q:Hp×Value×Value,(W.cell? (Addr.add ad (i*7))=some (.int .i64 q.1.kd)∧W.cell? (Addr.add ad (i*7+1))=some (.int .i64 q.1.N)∧W.cell? (Addr.add ad (i*7+2))=some (.int .i64 q.1.M)∧W.cell? (Addr.add ad (i*7+3))=some q.2.1 ∧
   W.cell? (Addr.add ad (i*7+4))=some q.2.2∧W.cell? (Addr.add ad (i*7+5))=some (.int .i64 q.1.need)∧W.cell? (Addr.add ad (i*7+6))=some (.int .i64 q.1.of))∧HpAt W W.heap.size q.1 q.2.1 q.2.2:=by
   intro i hi
   obtain⟨cs',h1,h2⟩:=hall i (by omega)
   obtain⟨_,_,hcell⟩:=World.cells?_some h1
   obtain⟨z,a1,a2,c1,c2,e,s1,s2⟩:=hap_cells h2 (fun y hy=>hs y (by
    rw[hd];simp only[DataW.weights,Tryz.underlying45,List.mem_cons,List.mem_append];exact Or.inr (Or.inl (weightsAll_mem (d:=D i) (List.mem_map.2 ⟨i,List.mem_range.2 hi,rfl⟩) hy))))
   subst e
   have e0:=hcell 0 (by omega)
   have e1:=hcell 1 (by omega)
   have e2:=hcell 2 (by omega)
   have e3:=hcell 3 (by omega)
   have e4:=hcell 4 (by omega)
   have e5:=hcell 5 (by omega)
   have e6:=hcell 6 (by omega)
   rw[add_add]at e0 e1 e2 e3 e4 e5 e6
   exact⟨⟨z,.slice a1 z.len c1,.slice a2 z.lp c2⟩,⟨e0,e1,e2,e3,e4,e5,e6⟩,s1.isl,s2.isl⟩
  haveI:Inhabited Hp:=⟨⟨0,0,0,0,fun _=>0,0,fun _=>0,0,0⟩⟩
  obtain⟨q,hq⟩:=choose_lt each;have hr:(len+(m-len))*88≤140737488351232:=by
   have h1:=hs ((len+(m-len))*Tryz.prog.bytesOf 30) (by
    rw[hd];simp[DataW.weights,Tryz.underlying45])
   rw[Tryz.bytesHap]at h1;simpa[reachBytes]using h1
  refine⟨_,len,fun i=>(q i).2.1,fun i=>(q i).2.2,fun i=>(q i).1,hcs,some ad,m,rfl,⟨hl,by omega⟩,?_⟩;by_cases h0:len=0;·exact Or.inl h0
  obtain⟨b,off,spot⟩:=ad;have hspot:spot=none:=by simpa[Addr.add]using World.cell?_spot (hq 0 (by omega)).1.1
  subst hspot;refine Or.inr ⟨b,off,rfl,?_,fun j hj=>?_⟩
  ·have h1:=cell_lt (hq 0 (by omega)).1.1
   simpa[Addr.add]using h1
  obtain⟨⟨c0,c1,c2,c3,c4,c5,c6⟩,hi⟩:=hq j hj;rw[Go.WideShapes.add_plain]at c0 c1 c2 c3 c4 c5 c6;exact⟨⟨c0,by simpa[Nat.add_assoc]using c1,by simpa[Nat.add_assoc]using c2,by simpa[Nat.add_assoc]using c3,by simpa[Nat.add_assoc]using c4,by simpa[Nat.add_assoc]using c5,by simpa[Nat.add_assoc]using c6⟩,hi⟩
theorem haps_open{v:Value}{d:DataW H}{p:List MemPlace}(h:DataW.Trod enc Tryz.prog W 0 (fun _=>true) true 45 v d p)(hv:v.cells=#[v])(hs:∀y∈d.weights Tryz.prog 45,y≤reachBytes):
 ∃(n:Nat) (DV QV:Nat→Value) (X:Nat→Hp),HpSl W W.heap.size v n DV QV X:=by
 obtain⟨fuel,hf⟩:=h
 obtain⟨u,n,DV,QV,X,e,hk⟩:=haps_cell hf hs
 rw[hv]at e
 injection e with e1
 subst e1
 exact⟨n,DV,QV,X,hk⟩
end
end Go.Proofs.YtajmnlhfnhbleaaGreat
