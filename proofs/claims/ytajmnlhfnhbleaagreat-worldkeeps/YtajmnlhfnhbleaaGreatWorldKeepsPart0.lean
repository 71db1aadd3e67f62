/- Several texts of one proof, in their order. -/
import Derived.Test.YtajmnlhfnhbleaaGreatKw15
import Derived.Test.YtajmnlhfnhbleaaGreatKw40
namespace Go.Proofs.YtajmnlhfnhbleaaGreat
open Go.RowKit CurveMath
set_option linter.unusedVariables false
set_option maxHeartbeats 8000000
set_option maxRecDepth 10000
theorem ve_front{w:World}{B:Nat}{a:Option Addr}{m c:Nat}{PV:Nat→Value}{b:Bk}(h:VeSl w B (.slice a m c) m PV b){n:Nat}(hn:n≤m):VeSl w B (.slice a n c) n PV b∧m≤c:=by
 obtain⟨ad,cap,e,⟨h0,hr⟩,h2⟩:=h;injection e with e1 _ e3;subst e1 e3;refine⟨⟨_,_,rfl,⟨by omega,by omega⟩,?_⟩,h0⟩;rcases h2 with h2|⟨bl,off,rfl,h4,h5⟩;·exact Or.inl (by omega)
 exact Or.inr ⟨bl,off,rfl,h4,fun j hj=>h5 j (by omega)⟩
theorem worldKeeps_of(hO:MeshCore)(hW:WorldOwes)(vb:Value)(n:Nat)(PV:Nat→Value)(b:Bk)(vl:Value)(np:Nat)(KV:Nat→Value)(UV:Nat→Nat→Value)(P:Ps)(x:Hp)(vd vp:Value)(w:World)(hv:VeSl w w.heap.size vb n PV b)(hl:PsSl w w.heap.size vl np KV UV P)(hx:HpAt w w.heap.size x vd vp):
 Calls Tryz.prog 4 #[meshV vb vl,hapV x vd vp] w fun e w'=>e=.returned (.bool true)∧Below w.heap.size w w':=by
 have HJ:Hid (∀u:World,_):=fun u=>done_any hO hW u
 have HWo:=hid hW
 have HOc:=hid hO
 have HX:=hid hx
 obtain⟨ab,cb,rfl,z1,z2⟩:=id hv
 clear z1 z2
 obtain⟨al,cl,rfl,z1,z2⟩:=id hl
 clear z1 z2
 obtain⟨ad,cd,rfl,z1,z2⟩:=hx.1
 clear z1 z2
 obtain⟨ap,cp,rfl,z1,z2⟩:=hx.2
 clear z1 z2
 have hb0:Below w.heap.size w ((w.alloc (.cells #[.slice ab n cb,.slice al np cl] 27)).alloc (.cells #[.int .i64 x.kd,.int .i64 x.N,.int .i64 x.M,.slice ad x.len cd,.slice ap x.lp cp,.int .i64 x.need,.int .i64 x.of] 30)):=((Below.refl w.heap.size w).alloc (Nat.le_refl _) _).alloc (by simp) _
 have k0:=heap_two_old w (.cells #[.slice ab n cb,.slice al np cl] 27) (.cells #[.int .i64 x.kd,.int .i64 x.N,.int .i64 x.M,.slice ad x.len cd,.slice ap x.lp cp,.int .i64 x.need,.int .i64 x.of] 30)
 have k1:=heap_two_new w (.cells #[.slice ab n cb,.slice al np cl] 27) (.cells #[.int .i64 x.kd,.int .i64 x.N,.int .i64 x.M,.slice ad x.len cd,.slice ap x.lp cp,.int .i64 x.need,.int .i64 x.of] 30)
 obtain⟨U,hU⟩:∃u,(w.alloc (.cells #[.slice ab n cb,.slice al np cl] 27)).alloc (.cells #[.int .i64 x.kd,.int .i64 x.N,.int .i64 x.M,.slice ad x.len cd,.slice ap x.lp cp,.int .i64 x.need,.int .i64 x.of] 30)=u:=⟨_,rfl⟩
 rw[hU]at hb0 k0 k1
 have HB:=hid hb0
 have A0:Hid (MsAt U w.heap.size ab n cb PV b al np cl KV UV P):=⟨k0,hv.up hb0,hl.up hb0⟩
 have A1:=hid k1
 have AX:=hid (HX.out.up hb0)
 obtain⟨c0,c1⟩:=A0.out.cells
 obtain⟨h0,h1,h2,h3,h4,h5,h6⟩:=seven_atC k1
 have CD:=hid (HWo.out.does _ n PV b _ np KV UV P x _ _ U A0.out.2.1 A0.out.2.2 AX.out)
 unfold meshV hapV at CD
 clear hb0 k0 k1 hv hl hO hW hx HX
 unfold meshV hapV
 go_enter Tryz.func4,Tryz.ntmps4
 go_wp2_with fail
 refine Calls.mono CD.out ?_
 rintro e u1 hM
 obtain⟨hb,ab1,n1,cb1,PV1,al1,np1,cl1,KV1,UV1,rfl,hn1,hp1,hv9,hl9⟩:=mesh_open (show MeshPost _ _ _ _ _ _ _ _ from hM)
 obtain⟨er,her⟩:∃c,doE ⟨n,b,np,P⟩ x=c:=⟨_,rfl⟩
 rw[her]at hn1 hp1
 rw[her]
 have HEr:=hid her
 have hb2:=below_alloc u1 (.cells #[.slice ab1 n1 cb1,.slice al1 np1 cl1] 27)
 have hx1:=MsAt.box hv9 hl9
 obtain⟨V1,hV1⟩:∃v,World.alloc u1 (.cells #[.slice ab1 n1 cb1,.slice al1 np1 cl1] 27)=v:=⟨_,rfl⟩
 rw[hV1]at hb2 hx1
 replace hb:=hb.trans (hb2.mono hb.size)
 replace HB:=hid (HB.out.trans (hb.mono HB.out.size))
 obtain⟨gx,hgx⟩:∃g,u1.heap.size=g:=⟨_,rfl⟩
 rw[hgx]at hx1
 have X1:=hid hx1
 replace A0:=hid (A0.out.up hb)
 replace A1:=hid (stayB A1.out hb)
 replace AX:=hid (AX.out.up hb)
 have HN1:=hid hn1
 have HP1:=hid hp1
 clear hM hb hb2 hx1 CD hv9 hl9 her c0 c1 h0 h1 h2 h3 h4 h5 h6 hU hn1 hp1
 go_wp2_with fail
 refine Calls.mono (HJ.out V1) ?_
 rintro e u3 ⟨rfl,hb⟩
 replace HB:=hid (HB.out.trans (hb.mono HB.out.size))
 replace A0:=hid (A0.out.up hb)
 replace A1:=hid (stayB A1.out hb)
 replace AX:=hid (AX.out.up hb)
 replace X1:=hid (X1.out.up hb)
 clear hb hV1
 by_cases he0:er=0
 ·subst he0
  have HMe:Hid (msE ⟨n,b,np,P⟩=0):=by
   show _=_;refine Classical.byContradiction fun hm=>?_;have h9:=HEr.out;unfold doE at h9;rw[if_neg hm]at h9;exact hm h9
  have HHe:Hid (happE ⟨n,b,np,P⟩ x=0):=by
   show _=_;have h9:=HEr.out;unfold doE at h9;rw[if_pos HMe.out]at h9;exact h9
  have hr:=happ_right HMe.out HHe.out;have hnp9:(happM ⟨n,b,np,P⟩ x).np=np:=happ_np _ _;have hn9:(happM ⟨n,b,np,P⟩ x).n=if x.kd=1 then n+1 else n:=happ_n _ _
  have HBk:Hid (bookB n n (happM ⟨n,b,np,P⟩ x).b b=true):=happ_book ⟨n,b,np,P⟩ x;have HPe:Hid (∀k,k<np→((2≤x.kd∧x.kd≤5)∧(k:Int)≠x.N)∨(¬(2≤x.kd∧x.kd≤5)∧P.th k=false)→(happM ⟨n,b,np,P⟩ x).P.th k=P.th k∧(happM ⟨n,b,np,P⟩ x).P.rm k=P.rm k∧(happM ⟨n,b,np,P⟩ x).P.m k=P.m k∧(happM ⟨n,b,np,P⟩ x).P.t k=P.t k):=fun k hk hc=>happ_peer (m:=⟨n,b,np,P⟩) HMe.out HHe.out hk hc;have hn1:=HN1.out;have hp1:=HP1.out;rw[if_pos rfl]at hn1 hp1;unfold msE at hr;obtain⟨Q,hQ⟩:∃Q,happM ⟨n,b,np,P⟩ x=Q:=⟨_,rfl⟩;rw[hQ]at hr hnp9 hn9 HBk HPe hn1 hp1 X1;rw[hnp9]at hp1;subst hp1;have h8:np1≤8:=(ms_right HMe.out).few;have hn12:n≤12:=(right_of (ms_right HMe.out).book).le;rw[←hn1,hnp9]at hr;rw[←hn1]at hn9;have hle:n≤n1∧n1≤n+1:=by rw[hn9];split<;>omega
  have HK1:Hid (n<n1→x.kd=1):=fun h=>by
   rw[hn9]at h;by_cases c:x.kd=1;·exact c
   rw[if_neg c]at h;omega
  clear hn1 hn9 hQ hnp9;obtain⟨c0,c1⟩:=A0.out.cells;obtain⟨h0,h1,h2,h3,h4,h5,h6⟩:=seven_atC A1.out;obtain⟨d0,d1⟩:=X1.out.cells;have hne:Nonempty (Of (Below u3.heap.size u3)):=⟨⟨u3,Below.refl _ _⟩⟩;have F0:∀u:Of (Below u3.heap.size u3),u.val.cell? ⟨w.heap.size,0,none⟩=some (.slice ab n cb):=fun u=>by rw[u.is.cell (cell_lt c0)];exact c0
  have F1:∀u:Of (Below u3.heap.size u3),u.val.cell? ⟨w.heap.size,1,none⟩=some (.slice al np1 cl):=fun u=>by rw[u.is.cell (cell_lt c1)];exact c1
  have F2:∀u:Of (Below u3.heap.size u3),u.val.cell? ⟨w.heap.size+1,0,none⟩=some (.int .i64 x.kd):=fun u=>by rw[u.is.cell (cell_lt h0)];exact h0
  have F3:∀u:Of (Below u3.heap.size u3),u.val.cell? ⟨gx,0,none⟩=some (.slice ab1 n1 cb1):=fun u=>by rw[u.is.cell (cell_lt d0)];exact d0
  have F4:∀u:Of (Below u3.heap.size u3),u.val.cell? ⟨gx,1,none⟩=some (.slice al1 np1 cl1):=fun u=>by rw[u.is.cell (cell_lt d1)];exact d1
  have HD1:Hid (Below u3.heap.size u3 u3.drew):=drew_below u3;have CC:=hid (HOc.out.check _ n1 PV1 Q.b _ np1 KV1 UV1 Q.P u3.drew (X1.out.2.1.up HD1.out) (X1.out.2.2.up HD1.out));rw[hr]at CC;have hcap:=(ve_front X1.out.2.1 hle.1).2;have hnl:¬(n1:Int)<(n:Int):=by omega
  have hdn:decide (n1<n)=false:=decide_eq_false (by omega);have hni:(0:Int)≤(n:Int):=by omega
  have hnc:(n:Int)≤(cb1:Int):=by omega
  have HLe:=hid hle;unfold meshV at CC;clear hr;go_wp2_with fail
  refine region_mixed (Below u3.heap.size u3) [([0],1),([2,3,4,5,6,7,8,9,10,11,12,13,14,15,16,17,18,19,20,21,22,23,24,25,26,27,28],29)] [30,31,32,33,34,35,36,37,38,39,40,41,42,43,44] (by kernel_rfl) (by kernel_rfl) HD1.out ?_;refine mixO_cons ?_ (by simp only[pickO,List.getElem?_cons_zero];exact rfl);repeat(go_big_quiet_step (fail))
  refine wpQuiet_nil ?_;intro K hK;go_wp2_with fail
  refine Calls.mono CC.out ?_;rintro e u5 ⟨rfl,hb5⟩;have H5:Hid (Below u3.heap.size u3 u5):=HD1.out.trans (hb5.mono HD1.out.size);clear hb5 CC;go_wp2;refine⟨rfl,hK _ _ H5.out ?_⟩;clear hK K;have CB:=hid (bkSame (ve_front (X1.out.2.1.up H5.out) HLe.out.1).1 (A0.out.2.1.up H5.out));rw[HBk.out]at CB;unfold bookV at CB;refine mixO_cons ?_;repeat(go_big_quiet_step (fail))
  refine wpQuiet_nil ?_;intro K hK;go_wp2_with fail
  refine Calls.mono CB.out ?_;rintro e u6 ⟨rfl,hb6⟩;have H6:Hid (Below u3.heap.size u3 u6):=H5.out.trans (hb6.mono H5.out.size);clear hb6 CB;go_wp2;refine⟨rfl,hK _ _ H6.out ?_⟩;clear hK K;by_cases hgt:n<n1
  ·have hkd:=HK1.out hgt
   have hkb:(x.kd != 1)=false:=by rw[hkd];rfl
   have hgi:(n1:Int)>(n:Int):=by omega
   have hdg:decide (n<n1)=true:=decide_eq_true hgt;refine mixO_nil ?_;repeat(go_big_quiet_step (fail))
   refine wpQuiet_nil ?_;clear F0 F1 F2 F3 F4 hne c0 c1 d0 d1 h0 h1 h2 h3 h4 h5 h6 hkd hkb;replace A0:=hid (A0.out.up H6.out);replace A1:=hid (stayB A1.out H6.out);replace X1:=hid (X1.out.up H6.out);replace HB:=hid (HB.out.trans (H6.out.mono HB.out.size));obtain⟨c0,c1⟩:=A0.out.cells;go_wp2;clear c0 c1;go_loopw [76] (fun iv wr=>∃j:Nat,j≤np1∧iv=.int .i64 j∧Hid (MsAt wr w.heap.size ab n cb PV b al np1 cl KV UV P)∧Hid (wr.heap[w.heap.size+1]?=some (.cells #[.int .i64 x.kd,.int .i64 x.N,.int .i64 x.M,.slice ad x.len cd,.slice ap x.lp cp,.int .i64 x.need,.int .i64 x.of] 30 (0,0)))∧Hid (MsAt wr gx ab1 n1 cb1 PV1 Q.b al1 np1 cl1 KV1 UV1 Q.P)∧Hid (Below w.heap.size w wr)) (fun iv _=>np1-(intOf iv).toNat)
   case atStart=>exact⟨0,Nat.zero_le _,rfl,A0,A1,X1,HB⟩
   case round =>
    obtain⟨j,hj,rfl,A0,A1,X1,HB⟩:=hrel;by_cases hlt:j<np1
    ·have hji:(j:Int)<(np1:Int):=by omega
     obtain⟨bl,off,rfl,hbl,g0,g1,g2,g3⟩:=A0.out.2.2.at hlt;have G3:=hid g3;obtain⟨ak,ck,hke,z1,z2⟩:=g3;clear z1 z2;rw[hke]at g2 G3;obtain⟨t0,ht0⟩:∃t,P.th j=t:=⟨_,rfl⟩;rw[ht0]at g0;have HT0:=hid ht0;have hbA:=below_alloc wr (.cells #[.bool t0,.int .i64 (P.rm j),.slice ak (P.m j) ck] 41);have kp:=heap_alloc_new wr (.cells #[.bool t0,.int .i64 (P.rm j),.slice ak (P.m j) ck] 41);obtain⟨W1,hW1⟩:∃u,wr.alloc (.cells #[.bool t0,.int .i64 (P.rm j),.slice ak (P.m j) ck] 41)=u:=⟨_,rfl⟩;rw[hW1]at hbA kp;obtain⟨bp,hbp⟩:∃q,wr.heap.size=q:=⟨_,rfl⟩;rw[hbp]at kp;obtain⟨p0,p1,p2⟩:=three_at kp;have GA:=hid (G3.out.up hbA);replace A0:=hid (A0.out.up hbA);replace A1:=hid (stayB A1.out hbA);replace X1:=hid (X1.out.up hbA);replace HB:=hid (HB.out.trans (hbA.mono HB.out.size))
     obtain⟨h0,h1,h2,h3,h4,h5,h6⟩:=seven_atC A1.out;obtain⟨d0,d1⟩:=X1.out.cells;obtain⟨bl1,off1,rfl,hbl1,y0,y1,y2,y3⟩:=X1.out.2.2.at hlt;have GY:=hid y3;obtain⟨ay,cy,hye,z1,z2⟩:=y3;clear z1 z2;rw[hye]at y2 GY;clear hke ht0 hbA kp hye;by_cases q2:2≤x.kd
     ·have e2:decide (2≤x.kd)=true:=decide_eq_true q2
      have Q2:=hid q2;clear q2;by_cases q5:x.kd≤5
      ·have e5:decide (x.kd≤5)=true:=decide_eq_true q5
       have Q5:=hid q5;clear q5;by_cases hN:(j:Int)=x.N
       ·have hNb:((j:Int) != x.N)=false:=by rw[hN];simp
        clear hN;have HDz:Hid (Below W1.heap.size W1 W1.drew):=drew_below W1;have hne:Nonempty (Of (Below W1.heap.size W1)):=⟨⟨W1,Below.refl _ _⟩⟩;have F0:∀u:Of (Below W1.heap.size W1),u.val.cell? ⟨w.heap.size+1,1,none⟩=some (.int .i64 x.N):=fun u=>by rw[u.is.cell (cell_lt h1)];exact h1
        have F1:∀u:Of (Below W1.heap.size W1),u.val.cell? ⟨gx,1,none⟩=some (.slice (some ⟨bl1,off1,none⟩) np1 cl1):=fun u=>by rw[u.is.cell (cell_lt d1)];exact d1
        have F2:∀u:Of (Below W1.heap.size W1),u.val.cell? ⟨bp,0,none⟩=some (.bool t0):=fun u=>by rw[u.is.cell (cell_lt p0)];exact p0
        have F3:∀u:Of (Below W1.heap.size W1),u.val.cell? ⟨bp,1,none⟩=some (.int .i64 (P.rm j)):=fun u=>by rw[u.is.cell (cell_lt p1)];exact p1
        have F4:∀u:Of (Below W1.heap.size W1),u.val.cell? ⟨bp,2,none⟩=some (.slice ak (P.m j) ck):=fun u=>by rw[u.is.cell (cell_lt p2)];exact p2
        have F5:∀u:Of (Below W1.heap.size W1),u.val.cell? ⟨bl1,off1+j*3,none⟩=some (.bool (Q.P.th j)):=fun u=>by rw[u.is.cell (cell_lt y0)];exact y0
        have F6:∀u:Of (Below W1.heap.size W1),u.val.cell? ⟨bl1,off1+j*3+1,none⟩=some (.int .i64 (Q.P.rm j)):=fun u=>by rw[u.is.cell (cell_lt y1)];exact y1
        have F7:∀u:Of (Below W1.heap.size W1),u.val.cell? ⟨bl1,off1+j*3+2,none⟩=some (.slice ay (Q.P.m j) cy):=fun u=>by rw[u.is.cell (cell_lt y2)];exact y2
        go_wp2_with fail
        refine region_mixed (Below W1.heap.size W1) [([0,1,2,3,4,5,6,7,8,9,10,11,12,13,14,15,16,17,18,19,20,21,22],23)] [24,25] (by kernel_rfl) (by kernel_rfl) HDz.out ?_;refine mixO_cons ?_;repeat(go_big_quiet_step (fail))
        refine wpQuiet_nil ?_;intro K hK;go_wp2;refine⟨rfl,hK _ _ HDz.out ?_⟩;clear hK K;refine mixO_nil ?_;repeat(go_big_quiet_step (fail))
        refine wpQuiet_nil ?_;clear F0 F1 F2 F3 F4 F5 F6 F7 hne;go_wp2;go_roundw
        case rel=>exact⟨j+1,by omega,by go_num,hid (A0.out.up HDz.out),hid (stayB A1.out HDz.out),hid (X1.out.up HDz.out),hid (HB.out.trans (HDz.out.mono HB.out.size))⟩
        case measure=>simp only[intOf];omega
       have hNb:((j:Int) != x.N)=true:=by simpa using hN
       have HNn:=hid hN;clear hN;have HDz:Hid (Below W1.heap.size W1 W1.drew):=drew_below W1;have hne:Nonempty (Of (Below W1.heap.size W1)):=⟨⟨W1,Below.refl _ _⟩⟩;have F0:∀u:Of (Below W1.heap.size W1),u.val.cell? ⟨w.heap.size+1,1,none⟩=some (.int .i64 x.N):=fun u=>by rw[u.is.cell (cell_lt h1)];exact h1
       have F1:∀u:Of (Below W1.heap.size W1),u.val.cell? ⟨gx,1,none⟩=some (.slice (some ⟨bl1,off1,none⟩) np1 cl1):=fun u=>by rw[u.is.cell (cell_lt d1)];exact d1
       have F2:∀u:Of (Below W1.heap.size W1),u.val.cell? ⟨bp,0,none⟩=some (.bool t0):=fun u=>by rw[u.is.cell (cell_lt p0)];exact p0
       have F3:∀u:Of (Below W1.heap.size W1),u.val.cell? ⟨bp,1,none⟩=some (.int .i64 (P.rm j)):=fun u=>by rw[u.is.cell (cell_lt p1)];exact p1
       have F4:∀u:Of (Below W1.heap.size W1),u.val.cell? ⟨bp,2,none⟩=some (.slice ak (P.m j) ck):=fun u=>by rw[u.is.cell (cell_lt p2)];exact p2
       have F5:∀u:Of (Below W1.heap.size W1),u.val.cell? ⟨bl1,off1+j*3,none⟩=some (.bool (Q.P.th j)):=fun u=>by rw[u.is.cell (cell_lt y0)];exact y0
       have F6:∀u:Of (Below W1.heap.size W1),u.val.cell? ⟨bl1,off1+j*3+1,none⟩=some (.int .i64 (Q.P.rm j)):=fun u=>by rw[u.is.cell (cell_lt y1)];exact y1
       have F7:∀u:Of (Below W1.heap.size W1),u.val.cell? ⟨bl1,off1+j*3+2,none⟩=some (.slice ay (Q.P.m j) cy):=fun u=>by rw[u.is.cell (cell_lt y2)];exact y2
       have CP:=hid (peSame t0 (Q.P.th j) (P.rm j) (Q.P.rm j) (GA.out.up HDz.out) (GY.out.up HDz.out));obtain⟨w1,w2,w3,w4⟩:=HPe.out j hlt (Or.inl ⟨⟨Q2.out,Q5.out⟩,HNn.out⟩);have hpb:peerB t0 (Q.P.th j) (P.rm j) (Q.P.rm j) (P.m j) (Q.P.m j) (P.t j) (Q.P.t j)=true:=by rw[w1,w2,w3,w4,HT0.out];exact peerB_refl _ _ _ _
       rw[hpb]at CP;unfold peerV at CP;clear hpb w1 w2 w3 w4;go_wp2_with fail
       refine region_mixed (Below W1.heap.size W1) [([0,1,2,3,4,5,6,7,8,9,10,11,12,13,14,15,16,17,18,19,20,21,22],23)] [24,25] (by kernel_rfl) (by kernel_rfl) HDz.out ?_;refine mixO_cons ?_;repeat(go_big_quiet_step (fail))
       refine wpQuiet_nil ?_;intro K hK;go_wp2_with fail
       refine Calls.mono CP.out ?_;rintro e u8 ⟨rfl,hb8⟩;have H8:Hid (Below W1.heap.size W1 u8):=HDz.out.trans (hb8.mono HDz.out.size);clear hb8 CP;go_wp2;refine⟨rfl,hK _ _ H8.out ?_⟩;clear hK K;refine mixO_nil ?_;repeat(go_big_quiet_step (fail))
       refine wpQuiet_nil ?_;clear F0 F1 F2 F3 F4 F5 F6 F7 hne;go_wp2;go_roundw
       case rel=>exact⟨j+1,by omega,by go_num,hid (A0.out.up H8.out),hid (stayB A1.out H8.out),hid (X1.out.up H8.out),hid (HB.out.trans (H8.out.mono HB.out.size))⟩
       case measure=>simp only[intOf];omega
      have e5:decide (x.kd≤5)=false:=decide_eq_false q5;have Q5:=hid q5;clear q5;cases t0 with
      |true =>
       have HDz:Hid (Below W1.heap.size W1 W1.drew):=drew_below W1;have hne:Nonempty (Of (Below W1.heap.size W1)):=⟨⟨W1,Below.refl _ _⟩⟩;have F0:∀u:Of (Below W1.heap.size W1),u.val.cell? ⟨w.heap.size+1,1,none⟩=some (.int .i64 x.N):=fun u=>by rw[u.is.cell (cell_lt h1)];exact h1
       have F1:∀u:Of (Below W1.heap.size W1),u.val.cell? ⟨gx,1,none⟩=some (.slice (some ⟨bl1,off1,none⟩) np1 cl1):=fun u=>by rw[u.is.cell (cell_lt d1)];exact d1
       have F2:∀u:Of (Below W1.heap.size W1),u.val.cell? ⟨bp,0,none⟩=some (.bool true):=fun u=>by rw[u.is.cell (cell_lt p0)];exact p0
       have F3:∀u:Of (Below W1.heap.size W1),u.val.cell? ⟨bp,1,none⟩=some (.int .i64 (P.rm j)):=fun u=>by rw[u.is.cell (cell_lt p1)];exact p1
       have F4:∀u:Of (Below W1.heap.size W1),u.val.cell? ⟨bp,2,none⟩=some (.slice ak (P.m j) ck):=fun u=>by rw[u.is.cell (cell_lt p2)];exact p2
       have F5:∀u:Of (Below W1.heap.size W1),u.val.cell? ⟨bl1,off1+j*3,none⟩=some (.bool (Q.P.th j)):=fun u=>by rw[u.is.cell (cell_lt y0)];exact y0
       have F6:∀u:Of (Below W1.heap.size W1),u.val.cell? ⟨bl1,off1+j*3+1,none⟩=some (.int .i64 (Q.P.rm j)):=fun u=>by rw[u.is.cell (cell_lt y1)];exact y1
       have F7:∀u:Of (Below W1.heap.size W1),u.val.cell? ⟨bl1,off1+j*3+2,none⟩=some (.slice ay (Q.P.m j) cy):=fun u=>by rw[u.is.cell (cell_lt y2)];exact y2
       go_wp2_with fail
       refine region_mixed (Below W1.heap.size W1) [([0,1,2,3,4,5,6,7,8,9,10,11,12,13,14,15,16,17,18,19,20,21,22],23)] [24,25] (by kernel_rfl) (by kernel_rfl) HDz.out ?_;refine mixO_cons ?_;repeat(go_big_quiet_step (fail))
       refine wpQuiet_nil ?_;intro K hK;go_wp2;refine⟨rfl,hK _ _ HDz.out ?_⟩;clear hK K;refine mixO_nil ?_;repeat(go_big_quiet_step (fail))
       refine wpQuiet_nil ?_;clear F0 F1 F2 F3 F4 F5 F6 F7 hne;go_wp2;go_roundw
       case rel=>exact⟨j+1,by omega,by go_num,hid (A0.out.up HDz.out),hid (stayB A1.out HDz.out),hid (X1.out.up HDz.out),hid (HB.out.trans (HDz.out.mono HB.out.size))⟩
       case measure=>simp only[intOf];omega
      |false =>
       have HDz:Hid (Below W1.heap.size W1 W1.drew):=drew_below W1;have hne:Nonempty (Of (Below W1.heap.size W1)):=⟨⟨W1,Below.refl _ _⟩⟩;have F0:∀u:Of (Below W1.heap.size W1),u.val.cell? ⟨w.heap.size+1,1,none⟩=some (.int .i64 x.N):=fun u=>by rw[u.is.cell (cell_lt h1)];exact h1
       have F1:∀u:Of (Below W1.heap.size W1),u.val.cell? ⟨gx,1,none⟩=some (.slice (some ⟨bl1,off1,none⟩) np1 cl1):=fun u=>by rw[u.is.cell (cell_lt d1)];exact d1
       have F2:∀u:Of (Below W1.heap.size W1),u.val.cell? ⟨bp,0,none⟩=some (.bool false):=fun u=>by rw[u.is.cell (cell_lt p0)];exact p0
       have F3:∀u:Of (Below W1.heap.size W1),u.val.cell? ⟨bp,1,none⟩=some (.int .i64 (P.rm j)):=fun u=>by rw[u.is.cell (cell_lt p1)];exact p1
       have F4:∀u:Of (Below W1.heap.size W1),u.val.cell? ⟨bp,2,none⟩=some (.slice ak (P.m j) ck):=fun u=>by rw[u.is.cell (cell_lt p2)];exact p2
       have F5:∀u:Of (Below W1.heap.size W1),u.val.cell? ⟨bl1,off1+j*3,none⟩=some (.bool (Q.P.th j)):=fun u=>by rw[u.is.cell (cell_lt y0)];exact y0
       have F6:∀u:Of (Below W1.heap.size W1),u.val.cell? ⟨bl1,off1+j*3+1,none⟩=some (.int .i64 (Q.P.rm j)):=fun u=>by rw[u.is.cell (cell_lt y1)];exact y1
       have F7:∀u:Of (Below W1.heap.size W1),u.val.cell? ⟨bl1,off1+j*3+2,none⟩=some (.slice ay (Q.P.m j) cy):=fun u=>by rw[u.is.cell (cell_lt y2)];exact y2
       have CP:=hid (peSame false (Q.P.th j) (P.rm j) (Q.P.rm j) (GA.out.up HDz.out) (GY.out.up HDz.out));obtain⟨w1,w2,w3,w4⟩:=HPe.out j hlt (Or.inr ⟨fun h=>Q5.out h.2,HT0.out⟩);have hpb:peerB false (Q.P.th j) (P.rm j) (Q.P.rm j) (P.m j) (Q.P.m j) (P.t j) (Q.P.t j)=true:=by rw[w1,w2,w3,w4,HT0.out];exact peerB_refl _ _ _ _
       rw[hpb]at CP;unfold peerV at CP;clear hpb w1 w2 w3 w4;go_wp2_with fail
       refine region_mixed (Below W1.heap.size W1) [([0,1,2,3,4,5,6,7,8,9,10,11,12,13,14,15,16,17,18,19,20,21,22],23)] [24,25] (by kernel_rfl) (by kernel_rfl) HDz.out ?_;refine mixO_cons ?_;repeat(go_big_quiet_step (fail))
       refine wpQuiet_nil ?_;intro K hK;go_wp2_with fail
       refine Calls.mono CP.out ?_;rintro e u8 ⟨rfl,hb8⟩;have H8:Hid (Below W1.heap.size W1 u8):=HDz.out.trans (hb8.mono HDz.out.size);clear hb8 CP;go_wp2;refine⟨rfl,hK _ _ H8.out ?_⟩;clear hK K;refine mixO_nil ?_;repeat(go_big_quiet_step (fail))
       refine wpQuiet_nil ?_;clear F0 F1 F2 F3 F4 F5 F6 F7 hne;go_wp2;go_roundw
       case rel=>exact⟨j+1,by omega,by go_num,hid (A0.out.up H8.out),hid (stayB A1.out H8.out),hid (X1.out.up H8.out),hid (HB.out.trans (H8.out.mono HB.out.size))⟩
       case measure=>simp only[intOf];omega
     have e2:decide (2≤x.kd)=false:=decide_eq_false q2;have Q2:=hid q2;clear q2;cases t0 with
     |true =>
      have HDz:Hid (Below W1.heap.size W1 W1.drew):=drew_below W1;have hne:Nonempty (Of (Below W1.heap.size W1)):=⟨⟨W1,Below.refl _ _⟩⟩;have F0:∀u:Of (Below W1.heap.size W1),u.val.cell? ⟨w.heap.size+1,1,none⟩=some (.int .i64 x.N):=fun u=>by rw[u.is.cell (cell_lt h1)];exact h1
      have F1:∀u:Of (Below W1.heap.size W1),u.val.cell? ⟨gx,1,none⟩=some (.slice (some ⟨bl1,off1,none⟩) np1 cl1):=fun u=>by rw[u.is.cell (cell_lt d1)];exact d1
      have F2:∀u:Of (Below W1.heap.size W1),u.val.cell? ⟨bp,0,none⟩=some (.bool true):=fun u=>by rw[u.is.cell (cell_lt p0)];exact p0
      have F3:∀u:Of (Below W1.heap.size W1),u.val.cell? ⟨bp,1,none⟩=some (.int .i64 (P.rm j)):=fun u=>by rw[u.is.cell (cell_lt p1)];exact p1
      have F4:∀u:Of (Below W1.heap.size W1),u.val.cell? ⟨bp,2,none⟩=some (.slice ak (P.m j) ck):=fun u=>by rw[u.is.cell (cell_lt p2)];exact p2
      have F5:∀u:Of (Below W1.heap.size W1),u.val.cell? ⟨bl1,off1+j*3,none⟩=some (.bool (Q.P.th j)):=fun u=>by rw[u.is.cell (cell_lt y0)];exact y0
      have F6:∀u:Of (Below W1.heap.size W1),u.val.cell? ⟨bl1,off1+j*3+1,none⟩=some (.int .i64 (Q.P.rm j)):=fun u=>by rw[u.is.cell (cell_lt y1)];exact y1
      have F7:∀u:Of (Below W1.heap.size W1),u.val.cell? ⟨bl1,off1+j*3+2,none⟩=some (.slice ay (Q.P.m j) cy):=fun u=>by rw[u.is.cell (cell_lt y2)];exact y2
      go_wp2_with fail
      refine region_mixed (Below W1.heap.size W1) [([0,1,2,3,4,5,6,7,8,9,10,11,12,13,14,15,16,17,18,19,20,21,22],23)] [24,25] (by kernel_rfl) (by kernel_rfl) HDz.out ?_;refine mixO_cons ?_;repeat(go_big_quiet_step (fail))
      refine wpQuiet_nil ?_;intro K hK;go_wp2;refine⟨rfl,hK _ _ HDz.out ?_⟩;clear hK K;refine mixO_nil ?_;repeat(go_big_quiet_step (fail))
      refine wpQuiet_nil ?_;clear F0 F1 F2 F3 F4 F5 F6 F7 hne;go_wp2;go_roundw
      case rel=>exact⟨j+1,by omega,by go_num,hid (A0.out.up HDz.out),hid (stayB A1.out HDz.out),hid (X1.out.up HDz.out),hid (HB.out.trans (HDz.out.mono HB.out.size))⟩
      case measure=>simp only[intOf];omega
     |false =>
      have HDz:Hid (Below W1.heap.size W1 W1.drew):=drew_below W1;have hne:Nonempty (Of (Below W1.heap.size W1)):=⟨⟨W1,Below.refl _ _⟩⟩;have F0:∀u:Of (Below W1.heap.size W1),u.val.cell? ⟨w.heap.size+1,1,none⟩=some (.int .i64 x.N):=fun u=>by rw[u.is.cell (cell_lt h1)];exact h1
      have F1:∀u:Of (Below W1.heap.size W1),u.val.cell? ⟨gx,1,none⟩=some (.slice (some ⟨bl1,off1,none⟩) np1 cl1):=fun u=>by rw[u.is.cell (cell_lt d1)];exact d1
      have F2:∀u:Of (Below W1.heap.size W1),u.val.cell? ⟨bp,0,none⟩=some (.bool false):=fun u=>by rw[u.is.cell (cell_lt p0)];exact p0
      have F3:∀u:Of (Below W1.heap.size W1),u.val.cell? ⟨bp,1,none⟩=some (.int .i64 (P.rm j)):=fun u=>by rw[u.is.cell (cell_lt p1)];exact p1
      have F4:∀u:Of (Below W1.heap.size W1),u.val.cell? ⟨bp,2,none⟩=some (.slice ak (P.m j) ck):=fun u=>by rw[u.is.cell (cell_lt p2)];exact p2
      have F5:∀u:Of (Below W1.heap.size W1),u.val.cell? ⟨bl1,off1+j*3,none⟩=some (.bool (Q.P.th j)):=fun u=>by rw[u.is.cell (cell_lt y0)];exact y0
      have F6:∀u:Of (Below W1.heap.size W1),u.val.cell? ⟨bl1,off1+j*3+1,none⟩=some (.int .i64 (Q.P.rm j)):=fun u=>by rw[u.is.cell (cell_lt y1)];exact y1
      have F7:∀u:Of (Below W1.heap.size W1),u.val.cell? ⟨bl1,off1+j*3+2,none⟩=some (.slice ay (Q.P.m j) cy):=fun u=>by rw[u.is.cell (cell_lt y2)];exact y2
      have CP:=hid (peSame false (Q.P.th j) (P.rm j) (Q.P.rm j) (GA.out.up HDz.out) (GY.out.up HDz.out));obtain⟨w1,w2,w3,w4⟩:=HPe.out j hlt (Or.inr ⟨fun h=>Q2.out h.1,HT0.out⟩);have hpb:peerB false (Q.P.th j) (P.rm j) (Q.P.rm j) (P.m j) (Q.P.m j) (P.t j) (Q.P.t j)=true:=by rw[w1,w2,w3,w4,HT0.out];exact peerB_refl _ _ _ _
      rw[hpb]at CP;unfold peerV at CP;clear hpb w1 w2 w3 w4;go_wp2_with fail
      refine region_mixed (Below W1.heap.size W1) [([0,1,2,3,4,5,6,7,8,9,10,11,12,13,14,15,16,17,18,19,20,21,22],23)] [24,25] (by kernel_rfl) (by kernel_rfl) HDz.out ?_;refine mixO_cons ?_;repeat(go_big_quiet_step (fail))
      refine wpQuiet_nil ?_;intro K hK;go_wp2_with fail
      refine Calls.mono CP.out ?_;rintro e u8 ⟨rfl,hb8⟩;have H8:Hid (Below W1.heap.size W1 u8):=HDz.out.trans (hb8.mono HDz.out.size);clear hb8 CP;go_wp2;refine⟨rfl,hK _ _ H8.out ?_⟩;clear hK K;refine mixO_nil ?_;repeat(go_big_quiet_step (fail))
      refine wpQuiet_nil ?_;clear F0 F1 F2 F3 F4 F5 F6 F7 hne;go_wp2;go_roundw
      case rel=>exact⟨j+1,by omega,by go_num,hid (A0.out.up H8.out),hid (stayB A1.out H8.out),hid (X1.out.up H8.out),hid (HB.out.trans (H8.out.mono HB.out.size))⟩
      case measure=>simp only[intOf];omega
    have hje:np1=j:=by omega
    subst hje;have hjn:¬(np1:Int)<(np1:Int):=by omega
    go_wp2;go_ret;exact⟨rfl,HB.out⟩
  have hgi:¬(n1:Int)>(n:Int):=by omega
  have hdg:decide (n<n1)=false:=decide_eq_false hgt;refine mixO_nil ?_;repeat(go_big_quiet_step (fail))
  refine wpQuiet_nil ?_;clear F0 F1 F2 F3 F4 hne c0 c1 d0 d1 h0 h1 h2 h3 h4 h5 h6;replace A0:=hid (A0.out.up H6.out);replace A1:=hid (stayB A1.out H6.out);replace X1:=hid (X1.out.up H6.out);replace HB:=hid (HB.out.trans (H6.out.mono HB.out.size));obtain⟨c0,c1⟩:=A0.out.cells;go_wp2;clear c0 c1;go_loopw [76] (fun iv wr=>∃j:Nat,j≤np1∧iv=.int .i64 j∧Hid (MsAt wr w.heap.size ab n cb PV b al np1 cl KV UV P)∧Hid (wr.heap[w.heap.size+1]?=some (.cells #[.int .i64 x.kd,.int .i64 x.N,.int .i64 x.M,.slice ad x.len cd,.slice ap x.lp cp,.int .i64 x.need,.int .i64 x.of] 30 (0,0)))∧Hid (MsAt wr gx ab1 n1 cb1 PV1 Q.b al1 np1 cl1 KV1 UV1 Q.P)∧Hid (Below w.heap.size w wr)) (fun iv _=>np1-(intOf iv).toNat)
  case atStart=>exact⟨0,Nat.zero_le _,rfl,A0,A1,X1,HB⟩
  case round =>
   obtain⟨j,hj,rfl,A0,A1,X1,HB⟩:=hrel;by_cases hlt:j<np1
   ·have hji:(j:Int)<(np1:Int):=by omega
    obtain⟨bl,off,rfl,hbl,g0,g1,g2,g3⟩:=A0.out.2.2.at hlt;have G3:=hid g3;obtain⟨ak,ck,hke,z1,z2⟩:=g3;clear z1 z2;rw[hke]at g2 G3;obtain⟨t0,ht0⟩:∃t,P.th j=t:=⟨_,rfl⟩;rw[ht0]at g0;have HT0:=hid ht0;have hbA:=below_alloc wr (.cells #[.bool t0,.int .i64 (P.rm j),.slice ak (P.m j) ck] 41);have kp:=heap_alloc_new wr (.cells #[.bool t0,.int .i64 (P.rm j),.slice ak (P.m j) ck] 41);obtain⟨W1,hW1⟩:∃u,wr.alloc (.cells #[.bool t0,.int .i64 (P.rm j),.slice ak (P.m j) ck] 41)=u:=⟨_,rfl⟩;rw[hW1]at hbA kp;obtain⟨bp,hbp⟩:∃q,wr.heap.size=q:=⟨_,rfl⟩;rw[hbp]at kp;obtain⟨p0,p1,p2⟩:=three_at kp;have GA:=hid (G3.out.up hbA);replace A0:=hid (A0.out.up hbA);replace A1:=hid (stayB A1.out hbA);replace X1:=hid (X1.out.up hbA);replace HB:=hid (HB.out.trans (hbA.mono HB.out.size))
    obtain⟨h0,h1,h2,h3,h4,h5,h6⟩:=seven_atC A1.out;obtain⟨d0,d1⟩:=X1.out.cells;obtain⟨bl1,off1,rfl,hbl1,y0,y1,y2,y3⟩:=X1.out.2.2.at hlt;have GY:=hid y3;obtain⟨ay,cy,hye,z1,z2⟩:=y3;clear z1 z2;rw[hye]at y2 GY;clear hke ht0 hbA kp hye;by_cases q2:2≤x.kd
    ·have e2:decide (2≤x.kd)=true:=decide_eq_true q2
     have Q2:=hid q2;clear q2;by_cases q5:x.kd≤5
     ·have e5:decide (x.kd≤5)=true:=decide_eq_true q5
      have Q5:=hid q5;clear q5;by_cases hN:(j:Int)=x.N
      ·have hNb:((j:Int) != x.N)=false:=by rw[hN];simp
       clear hN;have HDz:Hid (Below W1.heap.size W1 W1.drew):=drew_below W1;have hne:Nonempty (Of (Below W1.heap.size W1)):=⟨⟨W1,Below.refl _ _⟩⟩;have F0:∀u:Of (Below W1.heap.size W1),u.val.cell? ⟨w.heap.size+1,1,none⟩=some (.int .i64 x.N):=fun u=>by rw[u.is.cell (cell_lt h1)];exact h1
       have F1:∀u:Of (Below W1.heap.size W1),u.val.cell? ⟨gx,1,none⟩=some (.slice (some ⟨bl1,off1,none⟩) np1 cl1):=fun u=>by rw[u.is.cell (cell_lt d1)];exact d1
       have F2:∀u:Of (Below W1.heap.size W1),u.val.cell? ⟨bp,0,none⟩=some (.bool t0):=fun u=>by rw[u.is.cell (cell_lt p0)];exact p0
       have F3:∀u:Of (Below W1.heap.size W1),u.val.cell? ⟨bp,1,none⟩=some (.int .i64 (P.rm j)):=fun u=>by rw[u.is.cell (cell_lt p1)];exact p1
       have F4:∀u:Of (Below W1.heap.size W1),u.val.cell? ⟨bp,2,none⟩=some (.slice ak (P.m j) ck):=fun u=>by rw[u.is.cell (cell_lt p2)];exact p2
       have F5:∀u:Of (Below W1.heap.size W1),u.val.cell? ⟨bl1,off1+j*3,none⟩=some (.bool (Q.P.th j)):=fun u=>by rw[u.is.cell (cell_lt y0)];exact y0
       have F6:∀u:Of (Below W1.heap.size W1),u.val.cell? ⟨bl1,off1+j*3+1,none⟩=some (.int .i64 (Q.P.rm j)):=fun u=>by rw[u.is.cell (cell_lt y1)];exact y1
       have F7:∀u:Of (Below W1.heap.size W1),u.val.cell? ⟨bl1,off1+j*3+2,none⟩=some (.slice ay (Q.P.m j) cy):=fun u=>by rw[u.is.cell (cell_lt y2)];exact y2
       go_wp2_with fail
       refine region_mixed (Below W1.heap.size W1) [([0,1,2,3,4,5,6,7,8,9,10,11,12,13,14,15,16,17,18,19,20,21,22],23)] [24,25] (by kernel_rfl) (by kernel_rfl) HDz.out ?_;refine mixO_cons ?_;repeat(go_big_quiet_step (fail))
       refine wpQuiet_nil ?_;intro K hK;go_wp2;refine⟨rfl,hK _ _ HDz.out ?_⟩;clear hK K;refine mixO_nil ?_;repeat(go_big_quiet_step (fail))
       refine wpQuiet_nil ?_;clear F0 F1 F2 F3 F4 F5 F6 F7 hne;go_wp2;go_roundw
       case rel=>exact⟨j+1,by omega,by go_num,hid (A0.out.up HDz.out),hid (stayB A1.out HDz.out),hid (X1.out.up HDz.out),hid (HB.out.trans (HDz.out.mono HB.out.size))⟩
       case measure=>simp only[intOf];omega
      have hNb:((j:Int) != x.N)=true:=by simpa using hN
      have HNn:=hid hN;clear hN;have HDz:Hid (Below W1.heap.size W1 W1.drew):=drew_below W1;have hne:Nonempty (Of (Below W1.heap.size W1)):=⟨⟨W1,Below.refl _ _⟩⟩;have F0:∀u:Of (Below W1.heap.size W1),u.val.cell? ⟨w.heap.size+1,1,none⟩=some (.int .i64 x.N):=fun u=>by rw[u.is.cell (cell_lt h1)];exact h1
      have F1:∀u:Of (Below W1.heap.size W1),u.val.cell? ⟨gx,1,none⟩=some (.slice (some ⟨bl1,off1,none⟩) np1 cl1):=fun u=>by rw[u.is.cell (cell_lt d1)];exact d1
      have F2:∀u:Of (Below W1.heap.size W1),u.val.cell? ⟨bp,0,none⟩=some (.bool t0):=fun u=>by rw[u.is.cell (cell_lt p0)];exact p0
      have F3:∀u:Of (Below W1.heap.size W1),u.val.cell? ⟨bp,1,none⟩=some (.int .i64 (P.rm j)):=fun u=>by rw[u.is.cell (cell_lt p1)];exact p1
      have F4:∀u:Of (Below W1.heap.size W1),u.val.cell? ⟨bp,2,none⟩=some (.slice ak (P.m j) ck):=fun u=>by rw[u.is.cell (cell_lt p2)];exact p2
      have F5:∀u:Of (Below W1.heap.size W1),u.val.cell? ⟨bl1,off1+j*3,none⟩=some (.bool (Q.P.th j)):=fun u=>by rw[u.is.cell (cell_lt y0)];exact y0
      have F6:∀u:Of (Below W1.heap.size W1),u.val.cell? ⟨bl1,off1+j*3+1,none⟩=some (.int .i64 (Q.P.rm j)):=fun u=>by rw[u.is.cell (cell_lt y1)];exact y1
      have F7:∀u:Of (Below W1.heap.size W1),u.val.cell? ⟨bl1,off1+j*3+2,none⟩=some (.slice ay (Q.P.m j) cy):=fun u=>by rw[u.is.cell (cell_lt y2)];exact y2
      have CP:=hid (peSame t0 (Q.P.th j) (P.rm j) (Q.P.rm j) (GA.out.up HDz.out) (GY.out.up HDz.out));obtain⟨w1,w2,w3,w4⟩:=HPe.out j hlt (Or.inl ⟨⟨Q2.out,Q5.out⟩,HNn.out⟩);have hpb:peerB t0 (Q.P.th j) (P.rm j) (Q.P.rm j) (P.m j) (Q.P.m j) (P.t j) (Q.P.t j)=true:=by rw[w1,w2,w3,w4,HT0.out];exact peerB_refl _ _ _ _
      rw[hpb]at CP;unfold peerV at CP;clear hpb w1 w2 w3 w4;go_wp2_with fail
      refine region_mixed (Below W1.heap.size W1) [([0,1,2,3,4,5,6,7,8,9,10,11,12,13,14,15,16,17,18,19,20,21,22],23)] [24,25] (by kernel_rfl) (by kernel_rfl) HDz.out ?_;refine mixO_cons ?_;repeat(go_big_quiet_step (fail))
      refine wpQuiet_nil ?_;intro K hK;go_wp2_with fail
      refine Calls.mono CP.out ?_;rintro e u8 ⟨rfl,hb8⟩;have H8:Hid (Below W1.heap.size W1 u8):=HDz.out.trans (hb8.mono HDz.out.size);clear hb8 CP;go_wp2;refine⟨rfl,hK _ _ H8.out ?_⟩;clear hK K;refine mixO_nil ?_;repeat(go_big_quiet_step (fail))
      refine wpQuiet_nil ?_;clear F0 F1 F2 F3 F4 F5 F6 F7 hne;go_wp2;go_roundw
      case rel=>exact⟨j+1,by omega,by go_num,hid (A0.out.up H8.out),hid (stayB A1.out H8.out),hid (X1.out.up H8.out),hid (HB.out.trans (H8.out.mono HB.out.size))⟩
      case measure=>simp only[intOf];omega
     have e5:decide (x.kd≤5)=false:=decide_eq_false q5;have Q5:=hid q5;clear q5;cases t0 with
     |true =>
      have HDz:Hid (Below W1.heap.size W1 W1.drew):=drew_below W1;have hne:Nonempty (Of (Below W1.heap.size W1)):=⟨⟨W1,Below.refl _ _⟩⟩;have F0:∀u:Of (Below W1.heap.size W1),u.val.cell? ⟨w.heap.size+1,1,none⟩=some (.int .i64 x.N):=fun u=>by rw[u.is.cell (cell_lt h1)];exact h1
      have F1:∀u:Of (Below W1.heap.size W1),u.val.cell? ⟨gx,1,none⟩=some (.slice (some ⟨bl1,off1,none⟩) np1 cl1):=fun u=>by rw[u.is.cell (cell_lt d1)];exact d1
      have F2:∀u:Of (Below W1.heap.size W1),u.val.cell? ⟨bp,0,none⟩=some (.bool true):=fun u=>by rw[u.is.cell (cell_lt p0)];exact p0
      have F3:∀u:Of (Below W1.heap.size W1),u.val.cell? ⟨bp,1,none⟩=some (.int .i64 (P.rm j)):=fun u=>by rw[u.is.cell (cell_lt p1)];exact p1
      have F4:∀u:Of (Below W1.heap.size W1),u.val.cell? ⟨bp,2,none⟩=some (.slice ak (P.m j) ck):=fun u=>by rw[u.is.cell (cell_lt p2)];exact p2
      have F5:∀u:Of (Below W1.heap.size W1),u.val.cell? ⟨bl1,off1+j*3,none⟩=some (.bool (Q.P.th j)):=fun u=>by rw[u.is.cell (cell_lt y0)];exact y0
      have F6:∀u:Of (Below W1.heap.size W1),u.val.cell? ⟨bl1,off1+j*3+1,none⟩=some (.int .i64 (Q.P.rm j)):=fun u=>by rw[u.is.cell (cell_lt y1)];exact y1
      have F7:∀u:Of (Below W1.heap.size W1),u.val.cell? ⟨bl1,off1+j*3+2,none⟩=some (.slice ay (Q.P.m j) cy):=fun u=>by rw[u.is.cell (cell_lt y2)];exact y2
      go_wp2_with fail
      refine region_mixed (Below W1.heap.size W1) [([0,1,2,3,4,5,6,7,8,9,10,11,12,13,14,15,16,17,18,19,20,21,22],23)] [24,25] (by kernel_rfl) (by kernel_rfl) HDz.out ?_;refine mixO_cons ?_;repeat(go_big_quiet_step (fail))
      refine wpQuiet_nil ?_;intro K hK;go_wp2;refine⟨rfl,hK _ _ HDz.out ?_⟩;clear hK K;refine mixO_nil ?_;repeat(go_big_quiet_step (fail))
      refine wpQuiet_nil ?_;clear F0 F1 F2 F3 F4 F5 F6 F7 hne;go_wp2;go_roundw
      case rel=>exact⟨j+1,by omega,by go_num,hid (A0.out.up HDz.out),hid (stayB A1.out HDz.out),hid (X1.out.up HDz.out),hid (HB.out.trans (HDz.out.mono HB.out.size))⟩
      case measure=>simp only[intOf];omega
     |false =>
      have HDz:Hid (Below W1.heap.size W1 W1.drew):=drew_below W1;have hne:Nonempty (Of (Below W1.heap.size W1)):=⟨⟨W1,Below.refl _ _⟩⟩;have F0:∀u:Of (Below W1.heap.size W1),u.val.cell? ⟨w.heap.size+1,1,none⟩=some (.int .i64 x.N):=fun u=>by rw[u.is.cell (cell_lt h1)];exact h1
      have F1:∀u:Of (Below W1.heap.size W1),u.val.cell? ⟨gx,1,none⟩=some (.slice (some ⟨bl1,off1,none⟩) np1 cl1):=fun u=>by rw[u.is.cell (cell_lt d1)];exact d1
      have F2:∀u:Of (Below W1.heap.size W1),u.val.cell? ⟨bp,0,none⟩=some (.bool false):=fun u=>by rw[u.is.cell (cell_lt p0)];exact p0
      have F3:∀u:Of (Below W1.heap.size W1),u.val.cell? ⟨bp,1,none⟩=some (.int .i64 (P.rm j)):=fun u=>by rw[u.is.cell (cell_lt p1)];exact p1
      have F4:∀u:Of (Below W1.heap.size W1),u.val.cell? ⟨bp,2,none⟩=some (.slice ak (P.m j) ck):=fun u=>by rw[u.is.cell (cell_lt p2)];exact p2
      have F5:∀u:Of (Below W1.heap.size W1),u.val.cell? ⟨bl1,off1+j*3,none⟩=some (.bool (Q.P.th j)):=fun u=>by rw[u.is.cell (cell_lt y0)];exact y0
      have F6:∀u:Of (Below W1.heap.size W1),u.val.cell? ⟨bl1,off1+j*3+1,none⟩=some (.int .i64 (Q.P.rm j)):=fun u=>by rw[u.is.cell (cell_lt y1)];exact y1
      have F7:∀u:Of (Below W1.heap.size W1),u.val.cell? ⟨bl1,off1+j*3+2,none⟩=some (.slice ay (Q.P.m j) cy):=fun u=>by rw[u.is.cell (cell_lt y2)];exact y2
      have CP:=hid (peSame false (Q.P.th j) (P.rm j) (Q.P.rm j) (GA.out.up HDz.out) (GY.out.up HDz.out));obtain⟨w1,w2,w3,w4⟩:=HPe.out j hlt (Or.inr ⟨fun h=>Q5.out h.2,HT0.out⟩);have hpb:peerB false (Q.P.th j) (P.rm j) (Q.P.rm j) (P.m j) (Q.P.m j) (P.t j) (Q.P.t j)=true:=by rw[w1,w2,w3,w4,HT0.out];exact peerB_refl _ _ _ _
      rw[hpb]at CP;unfold peerV at CP;clear hpb w1 w2 w3 w4;go_wp2_with fail
      refine region_mixed (Below W1.heap.size W1) [([0,1,2,3,4,5,6,7,8,9,10,11,12,13,14,15,16,17,18,19,20,21,22],23)] [24,25] (by kernel_rfl) (by kernel_rfl) HDz.out ?_;refine mixO_cons ?_;repeat(go_big_quiet_step (fail))
      refine wpQuiet_nil ?_;intro K hK;go_wp2_with fail
      refine Calls.mono CP.out ?_;rintro e u8 ⟨rfl,hb8⟩;have H8:Hid (Below W1.heap.size W1 u8):=HDz.out.trans (hb8.mono HDz.out.size);clear hb8 CP;go_wp2;refine⟨rfl,hK _ _ H8.out ?_⟩;clear hK K;refine mixO_nil ?_;repeat(go_big_quiet_step (fail))
      refine wpQuiet_nil ?_;clear F0 F1 F2 F3 F4 F5 F6 F7 hne;go_wp2;go_roundw
      case rel=>exact⟨j+1,by omega,by go_num,hid (A0.out.up H8.out),hid (stayB A1.out H8.out),hid (X1.out.up H8.out),hid (HB.out.trans (H8.out.mono HB.out.size))⟩
      case measure=>simp only[intOf];omega
    have e2:decide (2≤x.kd)=false:=decide_eq_false q2;have Q2:=hid q2;clear q2;cases t0 with
    |true =>
     have HDz:Hid (Below W1.heap.size W1 W1.drew):=drew_below W1;have hne:Nonempty (Of (Below W1.heap.size W1)):=⟨⟨W1,Below.refl _ _⟩⟩;have F0:∀u:Of (Below W1.heap.size W1),u.val.cell? ⟨w.heap.size+1,1,none⟩=some (.int .i64 x.N):=fun u=>by rw[u.is.cell (cell_lt h1)];exact h1
     have F1:∀u:Of (Below W1.heap.size W1),u.val.cell? ⟨gx,1,none⟩=some (.slice (some ⟨bl1,off1,none⟩) np1 cl1):=fun u=>by rw[u.is.cell (cell_lt d1)];exact d1
     have F2:∀u:Of (Below W1.heap.size W1),u.val.cell? ⟨bp,0,none⟩=some (.bool true):=fun u=>by rw[u.is.cell (cell_lt p0)];exact p0
     have F3:∀u:Of (Below W1.heap.size W1),u.val.cell? ⟨bp,1,none⟩=some (.int .i64 (P.rm j)):=fun u=>by rw[u.is.cell (cell_lt p1)];exact p1
     have F4:∀u:Of (Below W1.heap.size W1),u.val.cell? ⟨bp,2,none⟩=some (.slice ak (P.m j) ck):=fun u=>by rw[u.is.cell (cell_lt p2)];exact p2
     have F5:∀u:Of (Below W1.heap.size W1),u.val.cell? ⟨bl1,off1+j*3,none⟩=some (.bool (Q.P.th j)):=fun u=>by rw[u.is.cell (cell_lt y0)];exact y0
     have F6:∀u:Of (Below W1.heap.size W1),u.val.cell? ⟨bl1,off1+j*3+1,none⟩=some (.int .i64 (Q.P.rm j)):=fun u=>by rw[u.is.cell (cell_lt y1)];exact y1
     have F7:∀u:Of (Below W1.heap.size W1),u.val.cell? ⟨bl1,off1+j*3+2,none⟩=some (.slice ay (Q.P.m j) cy):=fun u=>by rw[u.is.cell (cell_lt y2)];exact y2
     go_wp2_with fail
     refine region_mixed (Below W1.heap.size W1) [([0,1,2,3,4,5,6,7,8,9,10,11,12,13,14,15,16,17,18,19,20,21,22],23)] [24,25] (by kernel_rfl) (by kernel_rfl) HDz.out ?_;refine mixO_cons ?_;repeat(go_big_quiet_step (fail))
     refine wpQuiet_nil ?_;intro K hK;go_wp2;refine⟨rfl,hK _ _ HDz.out ?_⟩;clear hK K;refine mixO_nil ?_;repeat(go_big_quiet_step (fail))
     refine wpQuiet_nil ?_;clear F0 F1 F2 F3 F4 F5 F6 F7 hne;go_wp2;go_roundw
     case rel=>exact⟨j+1,by omega,by go_num,hid (A0.out.up HDz.out),hid (stayB A1.out HDz.out),hid (X1.out.up HDz.out),hid (HB.out.trans (HDz.out.mono HB.out.size))⟩
     case measure=>simp only[intOf];omega
    |false =>
     have HDz:Hid (Below W1.heap.size W1 W1.drew):=drew_below W1;have hne:Nonempty (Of (Below W1.heap.size W1)):=⟨⟨W1,Below.refl _ _⟩⟩;have F0:∀u:Of (Below W1.heap.size W1),u.val.cell? ⟨w.heap.size+1,1,none⟩=some (.int .i64 x.N):=fun u=>by rw[u.is.cell (cell_lt h1)];exact h1
     have F1:∀u:Of (Below W1.heap.size W1),u.val.cell? ⟨gx,1,none⟩=some (.slice (some ⟨bl1,off1,none⟩) np1 cl1):=fun u=>by rw[u.is.cell (cell_lt d1)];exact d1
     have F2:∀u:Of (Below W1.heap.size W1),u.val.cell? ⟨bp,0,none⟩=some (.bool false):=fun u=>by rw[u.is.cell (cell_lt p0)];exact p0
     have F3:∀u:Of (Below W1.heap.size W1),u.val.cell? ⟨bp,1,none⟩=some (.int .i64 (P.rm j)):=fun u=>by rw[u.is.cell (cell_lt p1)];exact p1
     have F4:∀u:Of (Below W1.heap.size W1),u.val.cell? ⟨bp,2,none⟩=some (.slice ak (P.m j) ck):=fun u=>by rw[u.is.cell (cell_lt p2)];exact p2
     have F5:∀u:Of (Below W1.heap.size W1),u.val.cell? ⟨bl1,off1+j*3,none⟩=some (.bool (Q.P.th j)):=fun u=>by rw[u.is.cell (cell_lt y0)];exact y0
     have F6:∀u:Of (Below W1.heap.size W1),u.val.cell? ⟨bl1,off1+j*3+1,none⟩=some (.int .i64 (Q.P.rm j)):=fun u=>by rw[u.is.cell (cell_lt y1)];exact y1
     have F7:∀u:Of (Below W1.heap.size W1),u.val.cell? ⟨bl1,off1+j*3+2,none⟩=some (.slice ay (Q.P.m j) cy):=fun u=>by rw[u.is.cell (cell_lt y2)];exact y2
     have CP:=hid (peSame false (Q.P.th j) (P.rm j) (Q.P.rm j) (GA.out.up HDz.out) (GY.out.up HDz.out));obtain⟨w1,w2,w3,w4⟩:=HPe.out j hlt (Or.inr ⟨fun h=>Q2.out h.1,HT0.out⟩);have hpb:peerB false (Q.P.th j) (P.rm j) (Q.P.rm j) (P.m j) (Q.P.m j) (P.t j) (Q.P.t j)=true:=by rw[w1,w2,w3,w4,HT0.out];exact peerB_refl _ _ _ _
     rw[hpb]at CP;unfold peerV at CP;clear hpb w1 w2 w3 w4;go_wp2_with fail
     refine region_mixed (Below W1.heap.size W1) [([0,1,2,3,4,5,6,7,8,9,10,11,12,13,14,15,16,17,18,19,20,21,22],23)] [24,25] (by kernel_rfl) (by kernel_rfl) HDz.out ?_;refine mixO_cons ?_;repeat(go_big_quiet_step (fail))
     refine wpQuiet_nil ?_;intro K hK;go_wp2_with fail
     refine Calls.mono CP.out ?_;rintro e u8 ⟨rfl,hb8⟩;have H8:Hid (Below W1.heap.size W1 u8):=HDz.out.trans (hb8.mono HDz.out.size);clear hb8 CP;go_wp2;refine⟨rfl,hK _ _ H8.out ?_⟩;clear hK K;refine mixO_nil ?_;repeat(go_big_quiet_step (fail))
     refine wpQuiet_nil ?_;clear F0 F1 F2 F3 F4 F5 F6 F7 hne;go_wp2;go_roundw
     case rel=>exact⟨j+1,by omega,by go_num,hid (A0.out.up H8.out),hid (stayB A1.out H8.out),hid (X1.out.up H8.out),hid (HB.out.trans (H8.out.mono HB.out.size))⟩
     case measure=>simp only[intOf];omega
   have hje:np1=j:=by omega
   subst hje;have hjn:¬(np1:Int)<(np1:Int):=by omega
   go_wp2;go_ret;exact⟨rfl,HB.out⟩
 ·have hcb:(er != 0)=true:=by simpa using he0
  clear he0;go_wp2_with fail
  refine Calls.mono (HJ.out u3) ?_;rintro e u4 ⟨rfl,hb⟩;replace HB:=hid (HB.out.trans (hb.mono HB.out.size));clear hb;go_wp2;go_ret;exact⟨rfl,HB.out⟩
end Go.Proofs.YtajmnlhfnhbleaaGreat
