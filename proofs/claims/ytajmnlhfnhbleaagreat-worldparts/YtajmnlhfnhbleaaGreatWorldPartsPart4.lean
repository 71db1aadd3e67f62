/- Several texts of one proof, in their order. -/
import Derived.Test.YtajmnlhfnhbleaaGreatKw15
import Derived.Test.YtajmnlhfnhbleaaGreatWorldPartsPart0
import Derived.Test.YtajmnlhfnhbleaaGreatWorldPartsPart2
import Derived.Test.YtajmnlhfnhbleaaGreatWorldPartsPart3
namespace Go.Proofs.YtajmnlhfnhbleaaGreat
open Go.RowKit CurveMath
set_option linter.unusedVariables false
set_option maxHeartbeats 8000000
set_option maxRecDepth 10000
structure PtMade(W w':World)(g:Nat)(m:Ms)(ab:Option Addr)(cb:Nat)(PV:Nat→Value)(al:Option Addr)(cl:Nat)(KV:Nat→Value)(UV:Nat→Nat→Value)(gs:Nat)(said:List Int):Prop where
 below:Below W.heap.size W w'
 box:MsAt w' g ab m.n cb PV m.b al m.np cl KV UV m.P
 said:IntSl w' w'.heap.size (.slice (some ⟨gs,0,none⟩) said.length said.length) said.length (fun j=>said.getD j 0)
theorem hap_cut(av:Option Addr)(len cv kk:Nat)(hkl:kk≤len)(w':World):(Instr.slice 45 (.slice av len cv) (some (.int .i64 (kk:Int))) none none).run Tryz.prog w'=.ok (.slice (if cv=kk then av else av.map (·.add (kk*7))) (len-kk) (cv-kk)) w':=by
 have ht:Tryz.prog.underlying 45=some (.slice (Tryz.prog.elem 45)):=by kernel_rfl
 have hs:(sizeOf (Tryz.prog.elem 45)).run Tryz.prog w'=.ok 7 w':=by kernel_rfl
 have h:=run_slice_l (w:=w') 45 av len cv ht .i64 (kk:Int) (by omega) (by omega);rw[h,hs];simp[Result.andThen,sliced]
theorem worldParts_of(hO:MeshOwes)(hW:WorldOwes)(vb:Value)(n:Nat)(PV:Nat→Value)(b:Bk)(vl:Value)(np:Nat)(KV:Nat→Value)(UV:Nat→Nat→Value)(P:Ps)(vs:Value)(len:Nat)(DV QV:Nat→Value)(H:Nat→Hp)(k:Int)(w:World)(hv:VeSl w w.heap.size vb n PV b)(hl:PsSl w w.heap.size vl np KV UV P)(hs:HpSl w w.heap.size vs len DV QV H):
 Calls Tryz.prog 7 #[meshV vb vl,vs,.int .i64 k] w fun e w'=>e=.returned (.bool true)∧Below w.heap.size w w':=by
 have HJ:Hid (∀u:World,_):=fun u=>done_any hO.toMeshCore hW u
 have HM:=hid hO
 have HS:=hid hs
 obtain⟨ab,cb,rfl,z1,z2⟩:=id hv
 clear z1 z2
 obtain⟨al,cl,rfl,z1,z2⟩:=id hl
 clear z1 z2
 obtain⟨av,cv,rfl,⟨hvc,hvb⟩,z2⟩:=id hs
 clear z2
 have hb0:=below_alloc w (.cells #[.slice ab n cb,.slice al np cl] 27)
 have A0:=hid (MsAt.box hv hl)
 obtain⟨U,hU⟩:∃u,w.alloc (.cells #[.slice ab n cb,.slice al np cl] 27)=u:=⟨_,rfl⟩
 rw[hU]at hb0 A0
 obtain⟨gx,hgx⟩:∃g,w.heap.size=g:=⟨_,rfl⟩
 have HB:=hid hb0
 replace HS:=hid (HS.out.up hb0)
 have A1:Hid (MsAt U gx ab n cb PV b al np cl KV UV P):=by rw[←hgx];exact A0.out
 obtain⟨c0,c1⟩:=A1.out.cells
 obtain⟨er,her⟩:∃c,runE ⟨n,b,np,P⟩ len=c:=⟨_,rfl⟩
 have CD:=hid (wdRunS _ n PV b _ np KV UV P _ len DV QV H U A1.out.2.1 A1.out.2.2 HS.out)
 rw[her]at CD
 unfold meshV at CD
 clear hb0 A0 hv hl hs hO hW
 unfold meshV
 by_cases h0:er=0
 ·subst h0
  obtain⟨hm0,hl0⟩:=runE_zero her;have HM0:=hid hm0;clear hm0 her;obtain⟨mA,hmA⟩:∃q,runM ⟨n,b,np,P⟩ (hapL H len)=q:=⟨_,rfl⟩;obtain⟨sA,hsA⟩:∃q,runS ⟨n,b,np,P⟩ (hapL H len)=q:=⟨_,rfl⟩;rw[hmA,hsA]at CD;have HMA:=hid hmA;have HSA:=hid hsA;clear hmA hsA;go_enter Tryz.func7,Tryz.ntmps7;go_wp2_with fail
  refine Calls.mono CD.out ?_;rintro e u1 hM;obtain⟨hb,ay,cy,PVy,ly,dy,KVy,UVy,gsy,rfl,hv9,hl9,ho9⟩:=run_said hM;clear hM CD c0 c1 hU hgx;have hb1:=below_alloc u1 (.cells #[.slice none 0 0,.slice none 0 0] 27);have k0:=heap_alloc_new u1 (.cells #[.slice none 0 0,.slice none 0 0] 27);replace hv9:=hv9.up hb1;replace hl9:=hl9.up hb1;replace ho9:=ho9.up hb1;obtain⟨V1,hV1⟩:∃v,World.alloc u1 (.cells #[.slice none 0 0,.slice none 0 0] 27)=v:=⟨_,rfl⟩;rw[hV1]at k0 hv9 hl9 ho9 hb1;have hb2:Below u1.heap.size u1 (put2 V1 u1.heap.size (.slice ay mA.n cy) (.slice ly mA.np dy)):=put2_below hb1 (Nat.le_refl _);have by2:=pt_store k0 hv9 hl9;have bo2:=isl_put2D k0 ho9 (.slice ay mA.n cy) (.slice ly mA.np dy);obtain⟨gy,hgy⟩:∃g,u1.heap.size=g:=⟨_,rfl⟩;rw[hgy]at k0 by2 bo2;obtain⟨q0,q1⟩:=two_at k0;have f0:=frozen_at (i:=0) k0
  have f1:=frozen_at (i:=1) k0;rw[show put2 V1 u1.heap.size (.slice ay mA.n cy) (.slice ly mA.np dy)=put2 V1 gy (.slice ay mA.n cy) (.slice ly mA.np dy) by rw[hgy]]at hb2;replace hb:=hb.trans (hb2.mono hb.size);obtain⟨Y,hY⟩:∃y,put2 V1 gy (.slice ay mA.n cy) (.slice ly mA.np dy)=y:=⟨_,rfl⟩;rw[hY]at hb by2 bo2;unfold put2 at hY;have X0:=hid (A1.out.up hb);have HS1:=hid (HS.out.up hb);have Y0:=hid by2;have SY:=hid bo2;have HB1:=hid (HB.out.trans (hb.mono HB.out.size));clear hb hb1 hb2 k0 hv9 hl9 ho9 by2 bo2;go_wp2_with fail
  refine Calls.mono (HJ.out _) ?_;rintro e u2 ⟨rfl,hb⟩;clear q0 q1 f0 f1 hV1 hY;replace X0:=hid (X0.out.up hb);replace HS1:=hid (HS1.out.up hb);replace Y0:=hid (Y0.out.up hb);replace SY:=hid (SY.out.up hb);replace HB1:=hid (HB1.out.trans (hb.mono HB1.out.size));clear hb hgy;go_wp2_with fail
  refine Calls.mono (at_more k ((len:Int)+1) ⟨by omega,by omega⟩ u2) ?_;rintro e u3 ⟨rfl,hw3⟩;subst hw3;have hk1:=Int.emod_nonneg k (show((len:Int)+1)≠0 by omega);have hk2:=Int.emod_lt_of_pos k (show 0<(len:Int)+1 by omega);obtain⟨kk,hkk⟩:∃j:Nat,k%((len:Int)+1)=(j:Int):=⟨(k%((len:Int)+1)).toNat,by omega⟩;rw[hkk]at hk1 hk2;rw[hkk];have hkl:kk≤len:=by omega
  clear hkk hk1 hk2;obtain⟨m2,hm2⟩:∃q,runM ⟨n,b,np,P⟩ (hapL H kk)=q:=⟨_,rfl⟩;obtain⟨s2,hs2⟩:∃q,runS ⟨n,b,np,P⟩ (hapL H kk)=q:=⟨_,rfl⟩;have HM2:=hid hm2;have HS2:=hid hs2;have hfr:HpSl u3 u3.heap.size (.slice av kk cv) kk DV QV H:=by
   obtain⟨ad,cap,e1,h9⟩:=HS1.out.front hkl;injection e1 with e1 _ e3;subst e1 e3;exact h9
  have HFR:=hid hfr;have CR:Hid (∀u,Below u3.heap.size u3 u→Calls Tryz.prog 22 #[.agg #[.slice ab n cb,.slice al np cl],.slice av kk cv] u fun e u'=>Below u.heap.size u u'∧RunOpen u' m2 s2 e):=fun u hb=>by
   have h9:=wdRunS _ n PV b _ np KV UV P _ kk DV QV H u (X0.out.2.1.up hb) (X0.out.2.2.up hb) (HFR.out.up hb);rw[runE_of HM0.out (by omega),HM2.out,HS2.out]at h9;exact Calls.mono h9 fun e u' h=>run_said h
  clear hm2 hs2 hfr;obtain⟨c0,c1⟩:=X0.out.cells;go_wp2_with fail
  refine region_tree_to (Below u3.heap.size u3) 12 #[true,true,true,true,true,true,true,true,true,true,true,true,false] 12 (fun a' w'=>∃(gz:Nat) (a2:Option Addr) (c2:Nat) (P2:Nat→Value) (l2:Option Addr) (d2:Nat) (K2:Nat→Value) (U2:Nat→Nat→Value) (gs2:Nat),(∃J:Nat→Value,a'=⟨#[.agg #[.slice ab n cb,.slice al np cl],.slice av len cv,.int .i64 kk,.pointer (some ⟨gx,0,none⟩),J 4,J 5,.bool false,.pointer (some ⟨gy,0,none⟩),.slice (some ⟨gsy,0,none⟩) sA.length sA.length,J 9,.pointer (some ⟨gz,0,none⟩),.slice (some ⟨gs2,0,none⟩) s2.length s2.length,J 12,J 13,J 14,J 15,J 16,J 17,J 18,J 19,J 20,J 21,J 22,J 23,J 24,J 25,J 26,J 27,J 28,J 29,J 30,J 31,J 32,J 33,J 34,J 35,J 36,J 37,J 38,J 39,J 40,J 41,.int .i64 0,J 43,J 44,J 45,J 46,J 47,J 48,J 49,J 50,J 51,J 52,J 53,J 54,J 55,J 56,J 57,J 58,J 59,J 60,J 61,J 62,J 63,J 64,J 65,J 66,J 67,J 68,J 69,J 70],[]⟩)∧PtMade u3 w' gz m2 a2 c2 P2 l2 d2 K2 U2 gs2 s2) (by kernel_rfl) (by kernel_rfl) (by kernel_rfl) rfl (by simp only[pickO,List.getElem?_cons_zero,List.getElem?_cons_succ];exact rfl) rfl ?_ ?_
  ·obtain⟨D0,hD0⟩:∃u,u3.drew=u:=⟨_,rfl⟩
   have HD:Hid (Below u3.heap.size u3 D0):=by rw[←hD0];exact drew_below u3
   rw[hD0];clear hD0;have hne:Nonempty (Of (Below u3.heap.size u3)):=⟨⟨u3,Below.refl _ _⟩⟩;have F0:∀u:Of (Below u3.heap.size u3),u.val.cell? ⟨gx,0,none⟩=some (.slice ab n cb):=fun u=>by rw[u.is.cell (cell_lt c0)];exact c0
   have F1:∀u:Of (Below u3.heap.size u3),u.val.cell? ⟨gx,1,none⟩=some (.slice al np cl):=fun u=>by rw[u.is.cell (cell_lt c1)];exact c1
   refine anyL_readsO (f:=8) (c:=12) (q:=[0,1,2,3]) HD.out ?_;repeat(go_big_quiet_step (fail))
   refine wpQuiet_nil ?_;clear c0 c1;refine anyL_pick (f:=7) [4,9] (by kernel_rfl) (by decide) ?_;intro i hi;simp only[List.mem_cons,List.not_mem_nil,or_false]at hi;rcases hi with rfl|rfl
   ·refine⟨_,rfl,?_⟩
    intro K hK;have CU:=hid (CR.out D0 HD.out);go_wp2_with fail
    refine Calls.mono CU.out ?_;rintro e u2 ⟨hb,a2,c2,P2,l2,d2,K2,U2,gs2,rfl,hv9,hl9,ho9⟩;replace HD:=hid (HD.out.trans (hb.mono HD.out.size));clear hb CU;go_wp2;refine⟨rfl,hK _ _ HD.out ?_⟩;clear hK K;refine anyL_readsO (f:=3) (c:=12) (q:=[5,6,7,8]) HD.out ?_;repeat(go_big_quiet_step (fail))
    refine wpQuiet_nil ?_;refine anyL_pick (f:=2) [9] (by kernel_rfl) (by decide) ?_;intro i hi;simp only[List.mem_cons,List.not_mem_nil,or_false]at hi;subst hi;refine⟨_,rfl,?_⟩;intro K hK;go_wp2;have hb1:=below_alloc u2 (.cells #[.slice none 0 0,.slice none 0 0] 27);have k0:=heap_alloc_new u2 (.cells #[.slice none 0 0,.slice none 0 0] 27);replace hv9:=hv9.up hb1;replace hl9:=hl9.up hb1;replace ho9:=ho9.up hb1;have lt9:u3.heap.size≤u2.heap.size:=HD.out.size;have HD1:=hid (HD.out.trans (hb1.mono HD.out.size));obtain⟨V2,hV2⟩:∃v,World.alloc u2 (.cells #[.slice none 0 0,.slice none 0 0] 27)=v:=⟨_,rfl⟩;obtain⟨gz,hgz⟩:∃g,u2.heap.size=g:=⟨_,rfl⟩;rw[hV2]at k0 hv9 hl9 ho9 HD1;rw[hgz]at k0 lt9;refine⟨rfl,hK _ _ (by rw[hV2];exact HD1.out) ?_⟩;rw[hV2,hgz];clear hK K HD hb1 hgz hV2;refine anyL_pick (f:=1) [10] (by kernel_rfl) (by decide) ?_
    intro i hi;simp only[List.mem_cons,List.not_mem_nil,or_false]at hi;subst hi;refine⟨_,rfl,?_⟩;intro K hK;obtain⟨q0,q1⟩:=two_at k0;have f0:=frozen_at (i:=0) k0;have f1:=frozen_at (i:=1) k0;have PM:Hid (PtMade u3 (put2 V2 gz (.slice a2 m2.n c2) (.slice l2 m2.np d2)) gz m2 a2 c2 P2 l2 d2 K2 U2 gs2 s2):=⟨put2_below HD1.out lt9,pt_store k0 hv9 hl9,isl_put2D k0 ho9 _ _⟩;unfold put2 at PM;clear k0 hv9 hl9 ho9;go_wp2;refine⟨rfl,hK _ _ PM.out.below ?_⟩;clear hK K q0 q1 f0 f1 HD1;have HD:=hid PM.out.below;refine anyL_readsO (f:=0) (c:=12) (q:=[11]) HD.out ?_;repeat(go_big_quiet_step (fail))
    refine wpQuiet_nil ?_;refine anyL_end (by kernel_rfl) ?_;exact⟨_,_,_,_,_,_,_,_,_,tm_all rfl,PM.out⟩
   refine⟨_,rfl,?_⟩;intro K hK;go_wp2;have hb1:=below_alloc D0 (.cells #[.slice none 0 0,.slice none 0 0] 27);have k0:=heap_alloc_new D0 (.cells #[.slice none 0 0,.slice none 0 0] 27);have lt9:u3.heap.size≤D0.heap.size:=HD.out.size;replace HD:=hid (HD.out.trans (hb1.mono HD.out.size));obtain⟨V1,hV1⟩:∃v,World.alloc D0 (.cells #[.slice none 0 0,.slice none 0 0] 27)=v:=⟨_,rfl⟩;obtain⟨gz,hgz⟩:∃g,D0.heap.size=g:=⟨_,rfl⟩;rw[hV1]at k0 HD;rw[hgz]at k0 lt9;refine⟨rfl,hK _ _ (by rw[hV1];exact HD.out) ?_⟩;rw[hV1,hgz];clear hK K hb1 hgz hV1;have KB:=hid k0;clear k0;refine anyL_pick (f:=6) [4] (by kernel_rfl) (by decide) ?_;intro i hi;simp only[List.mem_cons,List.not_mem_nil,or_false]at hi;subst hi;refine⟨_,rfl,?_⟩;intro K hK;have CU:=hid (CR.out V1 HD.out);go_wp2_with fail
   refine Calls.mono CU.out ?_;rintro e V2 ⟨hb,a2,c2,P2,l2,d2,K2,U2,gs2,rfl,hv9,hl9,ho9⟩;replace HD:=hid (HD.out.trans (hb.mono HD.out.size));have k0:=stayB KB.out hb;have HD1:=HD;clear hb CU KB HD;go_wp2;refine⟨rfl,hK _ _ HD1.out ?_⟩;clear hK K;have HD:=HD1;refine anyL_readsO (f:=2) (c:=12) (q:=[5,6,7,8]) HD.out ?_;repeat(go_big_quiet_step (fail))
   refine wpQuiet_nil ?_;clear HD;refine anyL_pick (f:=1) [10] (by kernel_rfl) (by decide) ?_;intro i hi;simp only[List.mem_cons,List.not_mem_nil,or_false]at hi;subst hi;refine⟨_,rfl,?_⟩;intro K hK;obtain⟨q0,q1⟩:=two_at k0;have f0:=frozen_at (i:=0) k0;have f1:=frozen_at (i:=1) k0;have PM:Hid (PtMade u3 (put2 V2 gz (.slice a2 m2.n c2) (.slice l2 m2.np d2)) gz m2 a2 c2 P2 l2 d2 K2 U2 gs2 s2):=⟨put2_below HD1.out lt9,pt_store k0 hv9 hl9,isl_put2D k0 ho9 _ _⟩;unfold put2 at PM;clear k0 hv9 hl9 ho9;go_wp2;refine⟨rfl,hK _ _ PM.out.below ?_⟩;clear hK K q0 q1 f0 f1 HD1;have HD:=hid PM.out.below;refine anyL_readsO (f:=0) (c:=12) (q:=[11]) HD.out ?_;repeat(go_big_quiet_step (fail))
   refine wpQuiet_nil ?_;refine anyL_end (by kernel_rfl) ?_;exact⟨_,_,_,_,_,_,_,_,_,tm_all rfl,PM.out⟩
  rintro a' w1 ⟨gz,a2,c2,P2,l2,d2,K2,U2,gs2,⟨J,rfl⟩,hM⟩;clear c0 c1;have hb:=hM.below;replace X0:=hid (X0.out.up hb);replace HS1:=hid (HS1.out.up hb);replace Y0:=hid (Y0.out.up hb);replace SY:=hid (SY.out.up hb);replace HB1:=hid (HB1.out.trans (hb.mono HB1.out.size));have Z0:=hid hM.box;have SZ:=hid hM.said;clear hM hb CR HFR;obtain⟨m3,hm3⟩:∃q,runM m2 (hapL (fun j=>H (kk+j)) (len-kk))=q:=⟨_,rfl⟩;obtain⟨s3,hs3⟩:∃q,runS m2 (hapL (fun j=>H (kk+j)) (len-kk))=q:=⟨_,rfl⟩;have HM3:=hid hm3;have HS3:=hid hs3;clear hm3 hs3
  have hsl:∃(aq:Option Addr) (cq:Nat),(∀w':World,(Instr.slice 45 (.slice av len cv) (some (.int .i64 (kk:Int))) none none).run Tryz.prog w'=.ok (.slice aq (len-kk) cq) w')∧HpSl w1 w1.heap.size (.slice aq (len-kk) cq) (len-kk) (fun j=>DV (kk+j)) (fun j=>QV (kk+j)) (fun j=>H (kk+j)):=by
   by_cases hlt:kk<len
   ·obtain⟨bl,off,e9,h9⟩:=HS1.out.back hlt
    refine⟨_,_,fun w'=>?_,h9⟩;rw[hap_cut _ _ _ _ hkl,if_neg (by omega),e9];show Result.ok (Value.slice (some (Addr.add ⟨bl,off,none⟩ (kk*7))) (len-kk) (cv-kk)) w'=_;rw[Go.WideShapes.add_plain]
   exact⟨_,cv-kk,fun w'=>hap_cut _ _ _ _ hkl w',_,_,rfl,⟨by omega,by omega⟩,Or.inl (by omega)⟩
  obtain⟨aq,cq,hsl,hq⟩:=hsl;have HQ:=hid hq;have CR:Hid (∀u,Below w1.heap.size w1 u→Calls Tryz.prog 22 #[.agg #[.slice a2 m2.n c2,.slice l2 m2.np d2],.slice aq (len-kk) cq] u fun e u'=>Below u.heap.size u u'∧RunOpen u' m3 s3 e):=fun u hb=>by
   have h9:=wdRunS _ m2.n P2 m2.b _ m2.np K2 U2 m2.P _ (len-kk) _ _ _ u (Z0.out.2.1.up hb) (Z0.out.2.2.up hb) (HQ.out.up hb);have h8:msE m2=0:=by rw[←HM2.out];exact run_right _ HM0.out
   rw[runE_of (m:=⟨m2.n,m2.b,m2.np,m2.P⟩) h8 (by omega),show runM ⟨m2.n,m2.b,m2.np,m2.P⟩ (hapL (fun j=>H (kk+j)) (len-kk))=m3 from HM3.out,show runS ⟨m2.n,m2.b,m2.np,m2.P⟩ (hapL (fun j=>H (kk+j)) (len-kk))=s3 from HS3.out]at h9;exact Calls.mono h9 fun e u' h=>run_said h
  clear hq;obtain⟨c0,c1⟩:=Z0.out.cells;go_wp2_with fail
  refine region_tree_to (Below w1.heap.size w1) 12 #[true,true,true,true,true,true,true,true,true,true,true,true,false] 12 (fun a' w'=>∃(gb:Nat) (a3:Option Addr) (c3:Nat) (P3:Nat→Value) (l3:Option Addr) (d3:Nat) (K3:Nat→Value) (U3:Nat→Nat→Value) (gs3:Nat),(∃J:Nat→Value,a'=⟨#[.agg #[.slice ab n cb,.slice al np cl],.slice av len cv,.int .i64 kk,.pointer (some ⟨gx,0,none⟩),J 4,J 5,.bool false,.pointer (some ⟨gy,0,none⟩),.slice (some ⟨gsy,0,none⟩) sA.length sA.length,.int .i64 0,J 10,.slice (some ⟨gs2,0,none⟩) s2.length s2.length,.pointer (some ⟨gb,0,none⟩),.slice (some ⟨gs3,0,none⟩) s3.length s3.length,J 14,J 15,J 16,J 17,J 18,J 19,J 20,J 21,J 22,J 23,J 24,J 25,J 26,J 27,J 28,J 29,J 30,J 31,J 32,J 33,J 34,J 35,J 36,J 37,J 38,J 39,J 40,J 41,J 42,J 43,J 44,J 45,J 46,J 47,J 48,J 49,J 50,.int .i64 0,J 52,J 53,J 54,J 55,J 56,J 57,J 58,J 59,J 60,J 61,J 62,J 63,J 64,J 65,J 66,J 67,J 68,J 69,J 70],[]⟩)∧PtMade w1 w' gb m3 a3 c3 P3 l3 d3 K3 U3 gs3 s3) (by kernel_rfl) (by kernel_rfl) (by kernel_rfl) rfl (by simp only[pickO,List.getElem?_cons_zero,List.getElem?_cons_succ];exact rfl) rfl ?_ ?_
  ·obtain⟨D0,hD0⟩:∃u,w1.drew=u:=⟨_,rfl⟩
   have HD:Hid (Below w1.heap.size w1 D0):=by rw[←hD0];exact drew_below w1
   rw[hD0];clear hD0;have hne:Nonempty (Of (Below w1.heap.size w1)):=⟨⟨w1,Below.refl _ _⟩⟩;have F0:∀u:Of (Below w1.heap.size w1),u.val.cell? ⟨gz,0,none⟩=some (.slice a2 m2.n c2):=fun u=>by rw[u.is.cell (cell_lt c0)];exact c0
   have F1:∀u:Of (Below w1.heap.size w1),u.val.cell? ⟨gz,1,none⟩=some (.slice l2 m2.np d2):=fun u=>by rw[u.is.cell (cell_lt c1)];exact c1
   refine anyL_readsO (f:=8) (c:=12) (q:=[0,1,2,3]) HD.out ?_;repeat(go_big_quiet_step (fail))
   refine wpQuiet_nil ?_;clear c0 c1;refine anyL_pick (f:=7) [4,9] (by kernel_rfl) (by decide) ?_;intro i hi;simp only[List.mem_cons,List.not_mem_nil,or_false]at hi;rcases hi with rfl|rfl
   ·refine⟨_,rfl,?_⟩
    intro K hK;have CU:=hid (CR.out D0 HD.out);go_wp2_with fail
    refine Calls.mono CU.out ?_;rintro e u2 ⟨hb,a3,c3,P3,l3,d3,K3,U3,gs3,rfl,hv9,hl9,ho9⟩;replace HD:=hid (HD.out.trans (hb.mono HD.out.size));clear hb CU;go_wp2;refine⟨rfl,hK _ _ HD.out ?_⟩;clear hK K;refine anyL_readsO (f:=3) (c:=12) (q:=[5,6,7,8]) HD.out ?_;repeat(go_big_quiet_step (fail))
    refine wpQuiet_nil ?_;refine anyL_pick (f:=2) [9] (by kernel_rfl) (by decide) ?_;intro i hi;simp only[List.mem_cons,List.not_mem_nil,or_false]at hi;subst hi;refine⟨_,rfl,?_⟩;intro K hK;go_wp2;have hb1:=below_alloc u2 (.cells #[.slice none 0 0,.slice none 0 0] 27);have k0:=heap_alloc_new u2 (.cells #[.slice none 0 0,.slice none 0 0] 27);replace hv9:=hv9.up hb1;replace hl9:=hl9.up hb1;replace ho9:=ho9.up hb1;have lt9:w1.heap.size≤u2.heap.size:=HD.out.size;have HD1:=hid (HD.out.trans (hb1.mono HD.out.size));obtain⟨V2,hV2⟩:∃v,World.alloc u2 (.cells #[.slice none 0 0,.slice none 0 0] 27)=v:=⟨_,rfl⟩;obtain⟨gb,hgz⟩:∃g,u2.heap.size=g:=⟨_,rfl⟩;rw[hV2]at k0 hv9 hl9 ho9 HD1;rw[hgz]at k0 lt9;refine⟨rfl,hK _ _ (by rw[hV2];exact HD1.out) ?_⟩;rw[hV2,hgz];clear hK K HD hb1 hgz hV2;refine anyL_pick (f:=1) [10] (by kernel_rfl) (by decide) ?_
    intro i hi;simp only[List.mem_cons,List.not_mem_nil,or_false]at hi;subst hi;refine⟨_,rfl,?_⟩;intro K hK;obtain⟨q0,q1⟩:=two_at k0;have f0:=frozen_at (i:=0) k0;have f1:=frozen_at (i:=1) k0;have PM:Hid (PtMade w1 (put2 V2 gb (.slice a3 m3.n c3) (.slice l3 m3.np d3)) gb m3 a3 c3 P3 l3 d3 K3 U3 gs3 s3):=⟨put2_below HD1.out lt9,pt_store k0 hv9 hl9,isl_put2D k0 ho9 _ _⟩;unfold put2 at PM;clear k0 hv9 hl9 ho9;go_wp2;refine⟨rfl,hK _ _ PM.out.below ?_⟩;clear hK K q0 q1 f0 f1 HD1;have HD:=hid PM.out.below;refine anyL_readsO (f:=0) (c:=12) (q:=[11]) HD.out ?_;repeat(go_big_quiet_step (fail))
    refine wpQuiet_nil ?_;refine anyL_end (by kernel_rfl) ?_;exact⟨_,_,_,_,_,_,_,_,_,tm_all rfl,PM.out⟩
   refine⟨_,rfl,?_⟩;intro K hK;go_wp2;have hb1:=below_alloc D0 (.cells #[.slice none 0 0,.slice none 0 0] 27);have k0:=heap_alloc_new D0 (.cells #[.slice none 0 0,.slice none 0 0] 27);have lt9:w1.heap.size≤D0.heap.size:=HD.out.size;replace HD:=hid (HD.out.trans (hb1.mono HD.out.size));obtain⟨V1,hV1⟩:∃v,World.alloc D0 (.cells #[.slice none 0 0,.slice none 0 0] 27)=v:=⟨_,rfl⟩;obtain⟨gb,hgz⟩:∃g,D0.heap.size=g:=⟨_,rfl⟩;rw[hV1]at k0 HD;rw[hgz]at k0 lt9;refine⟨rfl,hK _ _ (by rw[hV1];exact HD.out) ?_⟩;rw[hV1,hgz];clear hK K hb1 hgz hV1;have KB:=hid k0;clear k0;refine anyL_pick (f:=6) [4] (by kernel_rfl) (by decide) ?_;intro i hi;simp only[List.mem_cons,List.not_mem_nil,or_false]at hi;subst hi;refine⟨_,rfl,?_⟩;intro K hK;have CU:=hid (CR.out V1 HD.out);go_wp2_with fail
   refine Calls.mono CU.out ?_;rintro e V2 ⟨hb,a3,c3,P3,l3,d3,K3,U3,gs3,rfl,hv9,hl9,ho9⟩;replace HD:=hid (HD.out.trans (hb.mono HD.out.size));have k0:=stayB KB.out hb;have HD1:=HD;clear hb CU KB HD;go_wp2;refine⟨rfl,hK _ _ HD1.out ?_⟩;clear hK K;have HD:=HD1;refine anyL_readsO (f:=2) (c:=12) (q:=[5,6,7,8]) HD.out ?_;repeat(go_big_quiet_step (fail))
   refine wpQuiet_nil ?_;clear HD;refine anyL_pick (f:=1) [10] (by kernel_rfl) (by decide) ?_;intro i hi;simp only[List.mem_cons,List.not_mem_nil,or_false]at hi;subst hi;refine⟨_,rfl,?_⟩;intro K hK;obtain⟨q0,q1⟩:=two_at k0;have f0:=frozen_at (i:=0) k0;have f1:=frozen_at (i:=1) k0;have PM:Hid (PtMade w1 (put2 V2 gb (.slice a3 m3.n c3) (.slice l3 m3.np d3)) gb m3 a3 c3 P3 l3 d3 K3 U3 gs3 s3):=⟨put2_below HD1.out lt9,pt_store k0 hv9 hl9,isl_put2D k0 ho9 _ _⟩;unfold put2 at PM;clear k0 hv9 hl9 ho9;go_wp2;refine⟨rfl,hK _ _ PM.out.below ?_⟩;clear hK K q0 q1 f0 f1 HD1;have HD:=hid PM.out.below;refine anyL_readsO (f:=0) (c:=12) (q:=[11]) HD.out ?_;repeat(go_big_quiet_step (fail))
   refine wpQuiet_nil ?_;refine anyL_end (by kernel_rfl) ?_;exact⟨_,_,_,_,_,_,_,_,_,tm_all rfl,PM.out⟩
  rintro a' w2 ⟨gb,a3,c3,P3,l3,d3,K3,U3,gs3,⟨J2,rfl⟩,hM⟩;clear c0 c1 hsl;have hb:=hM.below;replace Y0:=hid (Y0.out.up hb);replace SY:=hid (SY.out.up hb);replace SZ:=hid (SZ.out.up hb);replace HB1:=hid (HB1.out.trans (hb.mono HB1.out.size));have B0:=hid hM.box;have SB:=hid hM.said;clear hM hb CR HQ;have EM:Hid (mA=m3):=by
   show mA=m3;rw[←HMA.out,←HM3.out,←HM2.out,hapL_cut H len kk hkl,runM_parts]
  have ES:Hid (sA=s2++s3):=by
   show sA=s2++s3;rw[←HSA.out,←HS3.out,←HS2.out,←HM2.out,hapL_cut H len kk hkl,runS_parts]
  have N2:Hid (s2.length=kk):=by
   show s2.length=kk;rw[←HS2.out,runS_len,hapL_len]
  have N3:Hid (s3.length=len-kk):=by
   show s3.length=len-kk;rw[←HS3.out,runS_len,hapL_len]
  clear HMA HSA HM2 HS2 HM3 HS3;obtain⟨c0,c1⟩:=Y0.out.cells;obtain⟨d0,d1⟩:=B0.out.cells;have CS:=hid (HM.out.same _ _ _ _ _ _ _ _ _ _ _ _ _ _ _ _ _ _ _ Y0.out.2.1 Y0.out.2.2 B0.out.2.1 B0.out.2.2);rw[EM.out,meshB_self]at CS;rw[EM.out]at c0 c1;unfold meshV at CS;go_wp2_with fail
  refine Calls.mono CS.out ?_;rintro e u4 ⟨rfl,hb⟩;clear CS c0 c1 d0 d1;replace SY:=hid (SY.out.up hb);replace SZ:=hid (SZ.out.up hb);replace SB:=hid (SB.out.up hb);replace HB1:=hid (HB1.out.trans (hb.mono HB1.out.size));clear hb;have hb:=below_alloc u4 (.cells #[.slice (some ⟨gs2,0,none⟩) s2.length s2.length,.slice (some ⟨gs3,0,none⟩) s3.length s3.length] 46);have k0:=heap_alloc_new u4 (.cells #[.slice (some ⟨gs2,0,none⟩) s2.length s2.length,.slice (some ⟨gs3,0,none⟩) s3.length s3.length] 46);obtain⟨V4,hV4⟩:∃v,World.alloc u4 (.cells #[.slice (some ⟨gs2,0,none⟩) s2.length s2.length,.slice (some ⟨gs3,0,none⟩) s3.length s3.length] 46)=v:=⟨_,rfl⟩;obtain⟨gl,hgl⟩:∃g,u4.heap.size=g:=⟨_,rfl⟩;rw[hV4]at hb k0;rw[hgl]at k0;obtain⟨q0,q1⟩:=two_at k0;have Q0:=hid q0;have Q1:=hid q1;clear k0 q0 q1;replace SY:=hid (SY.out.up hb)
  replace SZ:=hid (SZ.out.up hb);replace SB:=hid (SB.out.up hb);replace HB1:=hid (HB1.out.trans (hb.mono HB1.out.size));clear hb;go_wp2_with fail
  refine Calls.mono (concat_errs gl 2 gs2 gs3 V4 s2 s3 SZ.out SB.out (by rw[N2.out];omega) (by rw[N3.out];omega) Q0.out Q1.out) ?_;rintro e u5 ⟨hb,vc,rfl,hc⟩;replace SY:=hid (SY.out.up hb);replace HB1:=hid (HB1.out.trans (hb.mono HB1.out.size));have HC:=hid hc;clear hb hc hV4 hgl;have CE:=hid (equal_errs SY.out HC.out);have hce:eqB sA.length (s2++s3).length (fun j=>sA.getD j 0) (fun j=>(s2++s3).getD j 0)=true:=by
   rw[ES.out];exact eqB_self _ _
  rw[hce]at CE;clear hce;go_wp2_with fail
  refine Calls.mono CE.out ?_;rintro e u6 ⟨rfl,hb⟩;replace HB1:=hid (HB1.out.trans (hb.mono HB1.out.size));clear hb CE;go_wp2;go_ret;exact⟨rfl,HB1.out⟩
 ·go_enter Tryz.func7,Tryz.ntmps7
  go_wp2_with fail
  refine Calls.mono CD.out ?_;rintro e u1 hM;obtain⟨hb,ay,ny,cy,ly,my,dy,so,no,co,rfl⟩:=run_none hM;clear hM CD c0 c1 hU hgx;have hb1:=below_alloc u1 (.cells #[.slice none 0 0,.slice none 0 0] 27);have k0:=heap_alloc_new u1 (.cells #[.slice none 0 0,.slice none 0 0] 27);obtain⟨V1,hV1⟩:∃v,World.alloc u1 (.cells #[.slice none 0 0,.slice none 0 0] 27)=v:=⟨_,rfl⟩;rw[hV1]at k0 hb1;have hb2:Below u1.heap.size u1 (put2 V1 u1.heap.size (.slice ay ny cy) (.slice ly my dy)):=put2_below hb1 (Nat.le_refl _);have HB1:=hid (HB.out.trans ((hb.trans (hb2.mono hb.size)).mono HB.out.size));obtain⟨gy,hgy⟩:∃g,u1.heap.size=g:=⟨_,rfl⟩;rw[hgy]at k0;obtain⟨q0,q1⟩:=two_at k0;have f0:=frozen_at (i:=0) k0;have f1:=frozen_at (i:=1) k0;unfold put2 at HB1;clear hb hb1 hb2 k0;go_wp2_with fail
  refine Calls.mono (HJ.out _) ?_;rintro e u2 ⟨rfl,hb⟩;rw[←hgy]at hb;replace HB1:=hid (HB1.out.trans (hb.mono HB1.out.size));clear hb q0 q1 f0 f1;have hcb:(er != 0)=true:=by simpa using h0
  go_wp2_with fail
  refine Calls.mono (HJ.out _) ?_;rintro e u3 ⟨rfl,hb⟩;replace HB1:=hid (HB1.out.trans (hb.mono HB1.out.size));clear hb;go_wp2;go_ret;exact⟨rfl,HB1.out⟩
end Go.Proofs.YtajmnlhfnhbleaaGreat
