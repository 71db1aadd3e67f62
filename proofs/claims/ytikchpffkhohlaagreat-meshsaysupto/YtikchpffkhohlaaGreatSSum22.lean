/- Several texts of one proof, in their order. -/
import Derived.Test.YtikchpffkhohlaaGreatSSum12
import Derived.Test.YtikchpffkhohlaaGreatSSum21

namespace Go.Proofs.YtikchpffkhohlaaGreat
open Go.RowKit CurveMath
set_option linter.unusedVariables false
set_option maxHeartbeats 8000000 in
set_option maxRecDepth 10000 in
theorem meshSays_of (hO : MeshOwes) (hW : ∀ w : World, Calls Tryz.prog 18 #[] w fun e w' => e = .returned (.bool true) ∧ Below w.heap.size w w')
  (vb : Value) (n : Nat) (PV : Nat → Value) (b : Bk) (vl : Value) (np : Nat) (KV : Nat → Value) (UV : Nat → Nat → Value) (P : Ps) (k : Int) (vd : Value) (len : Nat) (D : Nat → Int) (vp : Value) (lp : Nat) (Q : Nat → Int) (nd of sz : Int) (vr : Value) (lr : Nat) (Z : Nat → Int)
  (vb' : Value) (n' : Nat) (PV' : Nat → Value) (b' : Bk) (vl' : Value) (np' : Nat) (KV' : Nat → Value) (UV' : Nat → Nat → Value) (P' : Ps) (w : World)
  (hv : VeSl w w.heap.size vb n PV b) (hl : PsSl w w.heap.size vl np KV UV P) (hd : IntSl w w.heap.size vd len D) (hp : IntSl w w.heap.size vp lp Q) (hr : IntSl w w.heap.size vr lr Z) (hlr : lr ≤ 1048576) (hv' : VeSl w w.heap.size vb' n' PV' b') (hl' : PsSl w w.heap.size vl' np' KV' UV' P') :
  Calls Tryz.prog 3 #[meshV vb vl, .int .i64 k, vd, vp, planV nd of sz, vr, meshV vb' vl'] w fun e w' => e = .returned (.bool true) ∧ Below w.heap.size w w' := by
 have HO := hid hO
 have HW := hid hW
 have HV := hid hv
 have HL := hid hl
 have HV' := hid hv'
 have HL' := hid hl'
 have A3 := hid hd
 have A4 := hid hp
 have A5 := hid hr
 obtain ⟨ab, cb, rfl, _, _⟩ := hv
 obtain ⟨al, cl, rfl, _, _⟩ := hl
 obtain ⟨ad, cd, rfl, _, _⟩ := hd
 obtain ⟨ap, cp, rfl, _, _⟩ := hp
 obtain ⟨ar, cr, rfl, _, _⟩ := hr
 obtain ⟨ab', cb', rfl, _, _⟩ := hv'
 obtain ⟨al', cl', rfl, _, _⟩ := hl'
 have hb0 : Below w.heap.size w (((w.alloc (.cells #[.slice ab n cb, .slice al np cl] 27)).alloc (.cells #[.int .i64 nd, .int .i64 of, .int .i64 sz] 30)).alloc (.cells #[.slice ab' n' cb', .slice al' np' cl'] 27)) := (((Below.refl w.heap.size w).alloc (Nat.le_refl _) _).alloc (by simp) _).alloc (by simp; omega) _
 obtain ⟨k0, k1, k2⟩ := heap_tri w (.cells #[.slice ab n cb, .slice al np cl] 27) (.cells #[.int .i64 nd, .int .i64 of, .int .i64 sz] 30) (.cells #[.slice ab' n' cb', .slice al' np' cl'] 27)
 obtain ⟨U, hU⟩ : ∃ u, ((w.alloc (.cells #[.slice ab n cb, .slice al np cl] 27)).alloc (.cells #[.int .i64 nd, .int .i64 of, .int .i64 sz] 30)).alloc (.cells #[.slice ab' n' cb', .slice al' np' cl'] 27) = u := ⟨_, rfl⟩
 rw [hU] at hb0 k0 k1 k2
 have HB := hid hb0
 have A0 : Hid (MsAt U w.heap.size ab n cb PV b al np cl KV UV P) := ⟨k0, HV.out.up hb0, HL.out.up hb0⟩
 have A1 : Hid (U.heap[w.heap.size + 1]? = some (.cells #[.int .i64 nd, .int .i64 of, .int .i64 sz] 30 (0, 0))) := k1
 have A2 : Hid (MsAt U (w.heap.size + 2) ab' n' cb' PV' b' al' np' cl' KV' UV' P') := ⟨k2, HV'.out.up hb0, HL'.out.up hb0⟩
 replace A3 := hid (A3.out.up hb0)
 replace A4 := hid (A4.out.up hb0)
 replace A5 := hid (A5.out.up hb0)
 clear hb0 k0 k1 k2 HV HL HV' HL' hO hW
 unfold meshV planV
 go_enter Tryz.func3, Tryz.ntmps3
 have CK := hid (HO.out.new _ lr Z U A5.out hlr)
 go_wp2_with fail
 refine Calls.mono CK.out ?_
 rintro e u1 hM
 obtain ⟨hb, ab1, n1, cb1, PV1, al1, np1, cl1, KV1, UV1, rfl, hn1, hp1, hv9, hl9⟩ := mesh_open hM.old
 have HN1 := hid hn1
 have HP1 := hid hp1
 have hb2 := below_alloc u1 (.cells #[.slice ab1 n1 cb1, .slice al1 np1 cl1] 27)
 have hx := MsAt.box hv9 hl9
 obtain ⟨V1, hV1⟩ : ∃ v, World.alloc u1 (.cells #[.slice ab1 n1 cb1, .slice al1 np1 cl1] 27) = v := ⟨_, rfl⟩
 rw [hV1] at hb2 hx
 replace hb := hb.trans (hb2.mono hb.size)
 replace HB := hid (HB.out.trans (hb.mono HB.out.size))
 replace A0 := hid (A0.out.up hb)
 replace A2 := hid (A2.out.up hb)
 replace A3 := hid (A3.out.up hb)
 replace A4 := hid (A4.out.up hb)
 replace A5 := hid (A5.out.up hb)
 replace A1 := hid (stayB A1.out hb)
 have X1 := hid hx
 clear hM hb hb2 hx CK hv9 hl9 hn1 hp1
 obtain ⟨c0, c1⟩ := A0.out.cells
 have CK := hid (HO.out.restore _ n PV b _ np KV UV P k V1 A0.out.2.1 A0.out.2.2)
 unfold meshV at CK
 go_wp2_with fail
 refine Calls.mono CK.out ?_
 rintro e u2 hM
 obtain ⟨hb, ra2, rm2, rc2, sa2, sc2, rfl, hrm2, hr9, hs9⟩ := rest_open hM
 have HM2 := hid hrm2
 replace HB := hid (HB.out.trans (hb.mono HB.out.size))
 replace A0 := hid (A0.out.up hb)
 replace A2 := hid (A2.out.up hb)
 replace X1 := hid (X1.out.up hb)
 replace A3 := hid (A3.out.up hb)
 replace A4 := hid (A4.out.up hb)
 replace A5 := hid (A5.out.up hb)
 replace A1 := hid (stayB A1.out hb)
 have R2 := hid hr9
 have S2 := hid hs9
 clear c0 c1
 clear hM hb CK hr9 hs9 hrm2
 obtain ⟨c0, c1⟩ := A0.out.cells
 have CK := hid (HO.out.repair _ n PV b _ np KV UV P k u2 A0.out.2.1 A0.out.2.2)
 unfold meshV at CK
 go_wp2_with fail
 refine Calls.mono CK.out ?_
 rintro e u3 hM
 obtain ⟨hb, ab3, n3, cb3, PV3, al3, np3, cl3, KV3, UV3, rfl, hn3, hp3, hv9, hl9⟩ := mesh_open hM.old
 have HN3 := hid hn3
 have HP3 := hid hp3
 have hb2 := below_alloc u3 (.cells #[.slice ab3 n3 cb3, .slice al3 np3 cl3] 27)
 have hx := MsAt.box hv9 hl9
 obtain ⟨V3, hV3⟩ : ∃ v, World.alloc u3 (.cells #[.slice ab3 n3 cb3, .slice al3 np3 cl3] 27) = v := ⟨_, rfl⟩
 rw [hV3] at hb2 hx
 replace hb := hb.trans (hb2.mono hb.size)
 replace HB := hid (HB.out.trans (hb.mono HB.out.size))
 replace A0 := hid (A0.out.up hb)
 replace A2 := hid (A2.out.up hb)
 replace X1 := hid (X1.out.up hb)
 replace A3 := hid (A3.out.up hb)
 replace A4 := hid (A4.out.up hb)
 replace A5 := hid (A5.out.up hb)
 replace R2 := hid (R2.out.up hb)
 replace S2 := hid (S2.out.up hb)
 replace A1 := hid (stayB A1.out hb)
 have X3 := hid hx
 clear c0 c1
 clear hM hb hb2 hx CK hv9 hl9 hn3 hp3
 obtain ⟨c0, c1⟩ := A0.out.cells
 obtain ⟨p0, p1, p2⟩ := three_at A1.out
 have CK := hid (HO.out.save _ n PV b _ np KV UV P _ len D _ lp Q nd of V3 A0.out.2.1 A0.out.2.2 A3.out A4.out)
 unfold meshV at CK
 go_wp2_with fail
 refine Calls.mono CK.out ?_
 rintro e u4 hM
 obtain ⟨hb, ab4, n4, cb4, PV4, al4, np4, cl4, KV4, UV4, rfl, hn4, hp4, hv9, hl9⟩ := mesh_open hM.old
 have HN4 := hid hn4
 have HP4 := hid hp4
 have hb2 := below_alloc u4 (.cells #[.slice ab4 n4 cb4, .slice al4 np4 cl4] 27)
 have hx := MsAt.box hv9 hl9
 obtain ⟨V4, hV4⟩ : ∃ v, World.alloc u4 (.cells #[.slice ab4 n4 cb4, .slice al4 np4 cl4] 27) = v := ⟨_, rfl⟩
 rw [hV4] at hb2 hx
 replace hb := hb.trans (hb2.mono hb.size)
 replace HB := hid (HB.out.trans (hb.mono HB.out.size))
 replace A0 := hid (A0.out.up hb)
 replace A2 := hid (A2.out.up hb)
 replace X1 := hid (X1.out.up hb)
 replace X3 := hid (X3.out.up hb)
 replace A3 := hid (A3.out.up hb)
 replace A4 := hid (A4.out.up hb)
 replace A5 := hid (A5.out.up hb)
 replace R2 := hid (R2.out.up hb)
 replace S2 := hid (S2.out.up hb)
 replace A1 := hid (stayB A1.out hb)
 have X4 := hid hx
 clear c0 c1 p0 p1 p2
 clear hM hb hb2 hx CK hv9 hl9 hn4 hp4
 have CK := hid (freshMesh_any _ lr Z V4 A5.out hlr)
 go_wp2_with fail
 refine Calls.mono CK.out ?_
 rintro e u5 hM
 obtain ⟨hb, ab5, n5, cb5, PV5, al5, np5, cl5, KV5, UV5, rfl, hn5, hp5, hv9, hl9⟩ := mesh_open hM
 have HN5 := hid hn5
 have HP5 := hid hp5
 have hb2 := below_alloc u5 (.cells #[.slice ab5 n5 cb5, .slice al5 np5 cl5] 27)
 have hx := MsAt.box hv9 hl9
 obtain ⟨V5, hV5⟩ : ∃ v, World.alloc u5 (.cells #[.slice ab5 n5 cb5, .slice al5 np5 cl5] 27) = v := ⟨_, rfl⟩
 rw [hV5] at hb2 hx
 replace hb := hb.trans (hb2.mono hb.size)
 replace HB := hid (HB.out.trans (hb.mono HB.out.size))
 replace A0 := hid (A0.out.up hb)
 replace A2 := hid (A2.out.up hb)
 replace X1 := hid (X1.out.up hb)
 replace X3 := hid (X3.out.up hb)
 replace X4 := hid (X4.out.up hb)
 replace A3 := hid (A3.out.up hb)
 replace A4 := hid (A4.out.up hb)
 replace A5 := hid (A5.out.up hb)
 replace R2 := hid (R2.out.up hb)
 replace S2 := hid (S2.out.up hb)
 replace A1 := hid (stayB A1.out hb)
 have X5 := hid hx
 clear hM hb hb2 hx CK hv9 hl9 hn5 hp5
 obtain ⟨c0, c1⟩ := A0.out.cells
 have CK := hid (restored_any _ n PV b _ np KV UV P k V5 A0.out.2.1 A0.out.2.2)
 unfold meshV at CK
 go_wp2_with fail
 refine Calls.mono CK.out ?_
 rintro e u6 hM
 obtain ⟨hb, ra6, rm6, rc6, sa6, sc6, rfl, hrm6, hr9, hs9⟩ := rest_open hM
 have HM6 := hid hrm6
 replace HB := hid (HB.out.trans (hb.mono HB.out.size))
 replace A0 := hid (A0.out.up hb)
 replace A2 := hid (A2.out.up hb)
 replace X1 := hid (X1.out.up hb)
 replace X3 := hid (X3.out.up hb)
 replace X4 := hid (X4.out.up hb)
 replace X5 := hid (X5.out.up hb)
 replace A3 := hid (A3.out.up hb)
 replace A4 := hid (A4.out.up hb)
 replace A5 := hid (A5.out.up hb)
 replace R2 := hid (R2.out.up hb)
 replace S2 := hid (S2.out.up hb)
 replace A1 := hid (stayB A1.out hb)
 have R6 := hid hr9
 have S6 := hid hs9
 clear c0 c1
 clear hM hb CK hr9 hs9 hrm6
 obtain ⟨c0, c1⟩ := A0.out.cells
 have CK := hid (repaired_any _ n PV b _ np KV UV P k u6 A0.out.2.1 A0.out.2.2)
 unfold meshV at CK
 go_wp2_with fail
 refine Calls.mono CK.out ?_
 rintro e u7 hM
 obtain ⟨hb, ab7, n7, cb7, PV7, al7, np7, cl7, KV7, UV7, rfl, hn7, hp7, hv9, hl9⟩ := mesh_open hM
 have HN7 := hid hn7
 have HP7 := hid hp7
 have hb2 := below_alloc u7 (.cells #[.slice ab7 n7 cb7, .slice al7 np7 cl7] 27)
 have hx := MsAt.box hv9 hl9
 obtain ⟨V7, hV7⟩ : ∃ v, World.alloc u7 (.cells #[.slice ab7 n7 cb7, .slice al7 np7 cl7] 27) = v := ⟨_, rfl⟩
 rw [hV7] at hb2 hx
 replace hb := hb.trans (hb2.mono hb.size)
 replace HB := hid (HB.out.trans (hb.mono HB.out.size))
 replace A0 := hid (A0.out.up hb)
 replace A2 := hid (A2.out.up hb)
 replace X1 := hid (X1.out.up hb)
 replace X3 := hid (X3.out.up hb)
 replace X4 := hid (X4.out.up hb)
 replace X5 := hid (X5.out.up hb)
 replace A3 := hid (A3.out.up hb)
 replace A4 := hid (A4.out.up hb)
 replace A5 := hid (A5.out.up hb)
 replace R2 := hid (R2.out.up hb)
 replace S2 := hid (S2.out.up hb)
 replace R6 := hid (R6.out.up hb)
 replace S6 := hid (S6.out.up hb)
 replace A1 := hid (stayB A1.out hb)
 have X7 := hid hx
 clear c0 c1
 clear hM hb hb2 hx CK hv9 hl9 hn7 hp7
 obtain ⟨c0, c1⟩ := A0.out.cells
 obtain ⟨p0, p1, p2⟩ := three_at A1.out
 have CK := hid (savedIn_any _ n PV b _ np KV UV P _ len D _ lp Q nd of V7 A0.out.2.1 A0.out.2.2 A3.out A4.out)
 unfold meshV at CK
 go_wp2_with fail
 refine Calls.mono CK.out ?_
 rintro e u8 hM
 obtain ⟨hb, ab8, n8, cb8, PV8, al8, np8, cl8, KV8, UV8, rfl, hn8, hp8, hv9, hl9⟩ := mesh_open hM
 have HN8 := hid hn8
 have HP8 := hid hp8
 have hb2 := below_alloc u8 (.cells #[.slice ab8 n8 cb8, .slice al8 np8 cl8] 27)
 have hx := MsAt.box hv9 hl9
 obtain ⟨V8, hV8⟩ : ∃ v, World.alloc u8 (.cells #[.slice ab8 n8 cb8, .slice al8 np8 cl8] 27) = v := ⟨_, rfl⟩
 rw [hV8] at hb2 hx
 replace hb := hb.trans (hb2.mono hb.size)
 replace HB := hid (HB.out.trans (hb.mono HB.out.size))
 replace A0 := hid (A0.out.up hb)
 replace A2 := hid (A2.out.up hb)
 replace X1 := hid (X1.out.up hb)
 replace X3 := hid (X3.out.up hb)
 replace X4 := hid (X4.out.up hb)
 replace X5 := hid (X5.out.up hb)
 replace X7 := hid (X7.out.up hb)
 replace A3 := hid (A3.out.up hb)
 replace A4 := hid (A4.out.up hb)
 replace A5 := hid (A5.out.up hb)
 replace R2 := hid (R2.out.up hb)
 replace S2 := hid (S2.out.up hb)
 replace R6 := hid (R6.out.up hb)
 replace S6 := hid (S6.out.up hb)
 replace A1 := hid (stayB A1.out hb)
 have X8 := hid hx
 clear c0 c1 p0 p1 p2
 clear hM hb hb2 hx CK hv9 hl9 hn8 hp8
 obtain ⟨c0, c1⟩ := A0.out.cells
 obtain ⟨d0, d1⟩ := A2.out.cells
 have hne : Nonempty (Of (Below V8.heap.size V8)) := ⟨⟨V8, Below.refl _ _⟩⟩
 have F0 : ∀ u : Of (Below V8.heap.size V8), u.val.cell? ⟨w.heap.size, 0, none⟩ = some (.slice ab n cb) := fun u => by rw [u.is.cell (cell_lt c0)]; exact c0
 have F1 : ∀ u : Of (Below V8.heap.size V8), u.val.cell? ⟨w.heap.size, 1, none⟩ = some (.slice al np cl) := fun u => by rw [u.is.cell (cell_lt c1)]; exact c1
 have F2 : ∀ u : Of (Below V8.heap.size V8), u.val.cell? ⟨w.heap.size + 2, 0, none⟩ = some (.slice ab' n' cb') := fun u => by rw [u.is.cell (cell_lt d0)]; exact d0
 have F3 : ∀ u : Of (Below V8.heap.size V8), u.val.cell? ⟨w.heap.size + 2, 1, none⟩ = some (.slice al' np' cl') := fun u => by rw [u.is.cell (cell_lt d1)]; exact d1
 obtain ⟨pe, hpe⟩ : ∃ c, peersE n b np P = c := ⟨_, rfl⟩
 obtain ⟨sm, hsm⟩ : ∃ c, meshB n n' b b' np np' P P' = c := ⟨_, rfl⟩
 have HPe := hid hpe
 have HSm := hid hsm
 clear hpe hsm c0 c1 d0 d1
 go_wp2_with fail
 have HD0 : Hid (Below V8.heap.size V8 V8.drew) := drew_below V8
 refine region_mixed (Below V8.heap.size V8) [([], 0), ([1, 2, 3, 5], 4), ([], 6), ([7, 8, 9, 10, 11, 13, 14], 12), ([], 15)] [16, 17] (by kernel_rfl) (by kernel_rfl) HD0.out ?_
 refine mixO_cons (lq := []) rfl (by simp only [pickO, List.getElem?_cons_zero]; exact rfl) ?_
 refine wpQuiet_nil ?_
 intro K hK
 go_wp2_with fail
 refine Calls.mono (HW.out _) ?_
 rintro e z1 ⟨rfl, hbz⟩
 have Z1 : Hid (Below V8.heap.size V8 z1) := HD0.out.trans (hbz.mono HD0.out.size)
 clear hbz
 go_wp2
 refine ⟨rfl, hK _ _ Z1.out ?_⟩
 clear hK K
 refine mixO_cons (by simp only [pickO, List.getElem?_cons_zero, List.getElem?_cons_succ]; exact rfl) (by simp only [pickO, List.getElem?_cons_zero, List.getElem?_cons_succ]; exact rfl) ?_
 repeat (go_big_quiet_step (fail))
 refine wpQuiet_nil ?_
 intro K hK
 have CK := hid (HO.out.check _ n PV b _ np KV UV P z1 (A0.out.2.1.up Z1.out) (A0.out.2.2.up Z1.out))
 unfold meshV at CK
 rw [HPe.out] at CK
 go_wp2_with fail
 refine Calls.mono CK.out ?_
 rintro e z2 ⟨rfl, hbz⟩
 have Z2 : Hid (Below V8.heap.size V8 z2) := Z1.out.trans (hbz.mono Z1.out.size)
 clear hbz CK
 go_wp2
 refine ⟨rfl, hK _ _ Z2.out ?_⟩
 clear hK K
 refine mixO_cons (lq := []) rfl (by simp only [pickO, List.getElem?_cons_zero, List.getElem?_cons_succ]; exact rfl) ?_
 refine wpQuiet_nil ?_
 intro K hK
 have CK := hid (checkMesh_any _ n PV b _ np KV UV P z2 (A0.out.2.1.up Z2.out) (A0.out.2.2.up Z2.out))
 unfold meshV at CK
 rw [HPe.out] at CK
 go_wp2_with fail
 refine Calls.mono CK.out ?_
 rintro e z3 ⟨rfl, hbz⟩
 have Z3 : Hid (Below V8.heap.size V8 z3) := Z2.out.trans (hbz.mono Z2.out.size)
 clear hbz CK
 go_wp2
 refine ⟨rfl, hK _ _ Z3.out ?_⟩
 clear hK K
 refine mixO_cons (by simp only [pickO, List.getElem?_cons_zero, List.getElem?_cons_succ]; exact rfl) (by simp only [pickO, List.getElem?_cons_zero, List.getElem?_cons_succ]; exact rfl) ?_
 repeat (go_big_quiet_step (fail))
 refine wpQuiet_nil ?_
 intro K hK
 have CK := hid (HO.out.same z3 _ _ _ _ _ _ _ _ _ _ _ _ _ _ b b' P P' (A0.out.2.1.up Z3.out) (A0.out.2.2.up Z3.out) (A2.out.2.1.up Z3.out) (A2.out.2.2.up Z3.out))
 unfold meshV at CK
 rw [HSm.out] at CK
 go_wp2_with fail
 refine Calls.mono CK.out ?_
 rintro e z4 ⟨rfl, hbz⟩
 have Z4 : Hid (Below V8.heap.size V8 z4) := Z3.out.trans (hbz.mono Z3.out.size)
 clear hbz CK
 go_wp2
 refine ⟨rfl, hK _ _ Z4.out ?_⟩
 clear hK K
 refine mixO_cons (lq := []) rfl (by simp only [pickO, List.getElem?_cons_zero, List.getElem?_cons_succ]; exact rfl) ?_
 refine wpQuiet_nil ?_
 intro K hK
 have CK := hid (sameMesh_any (A0.out.2.1.up Z4.out) (A0.out.2.2.up Z4.out) (A2.out.2.1.up Z4.out) (A2.out.2.2.up Z4.out))
 unfold meshV at CK
 rw [HSm.out] at CK
 go_wp2_with fail
 refine Calls.mono CK.out ?_
 rintro e z5 ⟨rfl, hbz⟩
 have Z5 : Hid (Below V8.heap.size V8 z5) := Z4.out.trans (hbz.mono Z4.out.size)
 clear hbz CK
 go_wp2
 refine ⟨rfl, hK _ _ Z5.out ?_⟩
 clear hK K
 refine mixO_nil (by simp only [pickO, List.getElem?_cons_zero, List.getElem?_cons_succ]; exact rfl) ?_
 repeat (go_big_quiet_step (fail))
 refine wpQuiet_nil ?_
 clear F0 F1 F2 F3 hne
 have hb := Z5.out
 replace HB := hid (HB.out.trans (hb.mono HB.out.size))
 replace A0 := hid (A0.out.up hb)
 replace A2 := hid (A2.out.up hb)
 replace X1 := hid (X1.out.up hb)
 replace X3 := hid (X3.out.up hb)
 replace X4 := hid (X4.out.up hb)
 replace X5 := hid (X5.out.up hb)
 replace X7 := hid (X7.out.up hb)
 replace X8 := hid (X8.out.up hb)
 replace A3 := hid (A3.out.up hb)
 replace A4 := hid (A4.out.up hb)
 replace A5 := hid (A5.out.up hb)
 replace R2 := hid (R2.out.up hb)
 replace S2 := hid (S2.out.up hb)
 replace R6 := hid (R6.out.up hb)
 replace S6 := hid (S6.out.up hb)
 replace A1 := hid (stayB A1.out hb)
 clear hb
 obtain ⟨b10, b11⟩ := X1.out.cells
 obtain ⟨b50, b51⟩ := X5.out.cells
 have CK := hid (sameMesh_any X1.out.2.1 X1.out.2.2 X5.out.2.1 X5.out.2.2)
 have e1 : n1 = n5 := HN1.out.trans HN5.out.symm
 have e2 : np1 = np5 := HP1.out.trans HP5.out.symm
 have hq : meshB n1 n5 noB noB np1 np5 (freshP Z) (freshP Z) = true := by rw [e1, e2]; exact meshB_self _ _ _ _
 rw [hq] at CK
 unfold meshV at CK
 clear e1 e2 hq
 go_wp2_with fail
 refine Calls.mono CK.out ?_
 rintro e y1 ⟨rfl, hb⟩
 replace HB := hid (HB.out.trans (hb.mono HB.out.size))
 replace A0 := hid (A0.out.up hb)
 replace A2 := hid (A2.out.up hb)
 replace X1 := hid (X1.out.up hb)
 replace X3 := hid (X3.out.up hb)
 replace X4 := hid (X4.out.up hb)
 replace X5 := hid (X5.out.up hb)
 replace X7 := hid (X7.out.up hb)
 replace X8 := hid (X8.out.up hb)
 replace A3 := hid (A3.out.up hb)
 replace A4 := hid (A4.out.up hb)
 replace A5 := hid (A5.out.up hb)
 replace R2 := hid (R2.out.up hb)
 replace S2 := hid (S2.out.up hb)
 replace R6 := hid (R6.out.up hb)
 replace S6 := hid (S6.out.up hb)
 replace A1 := hid (stayB A1.out hb)
 clear hb CK b10 b11 b50 b51
 have CK := hid (equal_isl R2.out R6.out)
 have e1 : rm2 = rm6 := by have h1 := HM2.out; have h2 := HM6.out; omega
 have hq : eqB rm2 rm6 (rsD b np P k) (rsD b np P k) = true := by rw [e1]; exact eqB_self _ _
 rw [hq] at CK
 clear e1 hq
 go_wp2_with fail
 refine Calls.mono CK.out ?_
 rintro e y2 ⟨rfl, j2, hy2⟩
 have hb : Below y1.heap.size y1 y2 := by rw [hy2]; exact drewN_up _ _
 clear hy2
 replace HB := hid (HB.out.trans (hb.mono HB.out.size))
 replace A0 := hid (A0.out.up hb)
 replace A2 := hid (A2.out.up hb)
 replace X1 := hid (X1.out.up hb)
 replace X3 := hid (X3.out.up hb)
 replace X4 := hid (X4.out.up hb)
 replace X5 := hid (X5.out.up hb)
 replace X7 := hid (X7.out.up hb)
 replace X8 := hid (X8.out.up hb)
 replace A3 := hid (A3.out.up hb)
 replace A4 := hid (A4.out.up hb)
 replace A5 := hid (A5.out.up hb)
 replace R2 := hid (R2.out.up hb)
 replace S2 := hid (S2.out.up hb)
 replace R6 := hid (R6.out.up hb)
 replace S6 := hid (S6.out.up hb)
 replace A1 := hid (stayB A1.out hb)
 clear hb CK
 have CK := hid (equal_isl S2.out S6.out)
 rw [eqB_self] at CK
 go_wp2_with fail
 refine Calls.mono CK.out ?_
 rintro e y3 ⟨rfl, j3, hy3⟩
 have hb : Below y2.heap.size y2 y3 := by rw [hy3]; exact drewN_up _ _
 clear hy3
 replace HB := hid (HB.out.trans (hb.mono HB.out.size))
 replace A0 := hid (A0.out.up hb)
 replace A2 := hid (A2.out.up hb)
 replace X1 := hid (X1.out.up hb)
 replace X3 := hid (X3.out.up hb)
 replace X4 := hid (X4.out.up hb)
 replace X5 := hid (X5.out.up hb)
 replace X7 := hid (X7.out.up hb)
 replace X8 := hid (X8.out.up hb)
 replace A3 := hid (A3.out.up hb)
 replace A4 := hid (A4.out.up hb)
 replace A5 := hid (A5.out.up hb)
 replace R2 := hid (R2.out.up hb)
 replace S2 := hid (S2.out.up hb)
 replace R6 := hid (R6.out.up hb)
 replace S6 := hid (S6.out.up hb)
 replace A1 := hid (stayB A1.out hb)
 clear hb CK
 obtain ⟨b10, b11⟩ := X3.out.cells
 obtain ⟨b50, b51⟩ := X7.out.cells
 have CK := hid (sameMesh_any X3.out.2.1 X3.out.2.2 X7.out.2.1 X7.out.2.2)
 have e1 : n3 = n7 := HN3.out.trans HN7.out.symm
 have e2 : np3 = np7 := HP3.out.trans HP7.out.symm
 have hq : meshB n3 n7 b b np3 np7 (mendP b np P k) (mendP b np P k) = true := by rw [e1, e2]; exact meshB_self _ _ _ _
 rw [hq] at CK
 unfold meshV at CK
 clear e1 e2 hq
 go_wp2_with fail
 refine Calls.mono CK.out ?_
 rintro e y4 ⟨rfl, hb⟩
 replace HB := hid (HB.out.trans (hb.mono HB.out.size))
 replace A0 := hid (A0.out.up hb)
 replace A2 := hid (A2.out.up hb)
 replace X1 := hid (X1.out.up hb)
 replace X3 := hid (X3.out.up hb)
 replace X4 := hid (X4.out.up hb)
 replace X5 := hid (X5.out.up hb)
 replace X7 := hid (X7.out.up hb)
 replace X8 := hid (X8.out.up hb)
 replace A3 := hid (A3.out.up hb)
 replace A4 := hid (A4.out.up hb)
 replace A5 := hid (A5.out.up hb)
 replace R2 := hid (R2.out.up hb)
 replace S2 := hid (S2.out.up hb)
 replace R6 := hid (R6.out.up hb)
 replace S6 := hid (S6.out.up hb)
 replace A1 := hid (stayB A1.out hb)
 clear hb CK b10 b11 b50 b51
 obtain ⟨b10, b11⟩ := X4.out.cells
 obtain ⟨b50, b51⟩ := X8.out.cells
 have CK := hid (sameMesh_any X4.out.2.1 X4.out.2.2 X8.out.2.1 X8.out.2.2)
 have e1 : n4 = n8 := HN4.out.trans HN8.out.symm
 have e2 : np4 = np8 := HP4.out.trans HP8.out.symm
 have hq : meshB n4 n8 (saveB n b nd of len lp Q) (saveB n b nd of len lp Q) np4 np8 (saveP n np P nd of len D) (saveP n np P nd of len D) = true := by rw [e1, e2]; exact meshB_self _ _ _ _
 rw [hq] at CK
 unfold meshV at CK
 clear e1 e2 hq
 go_wp2_with fail
 refine Calls.mono CK.out ?_
 rintro e y5 ⟨rfl, hb⟩
 have HB5 := hid (HB.out.trans (hb.mono HB.out.size))
 clear hb CK b10 b11 b50 b51
 go_wp2
 go_ret
 exact ⟨rfl, HB5.out⟩
end Go.Proofs.YtikchpffkhohlaaGreat

namespace Go.Proofs.YtikchpffkhohlaaGreat
open Go.RowKit CurveMath
set_option linter.unusedVariables false
def wX : Nat → Int := fun i => [(2 : Int), 2, 2, 2, 2].getD i 0
def wD : Nat → Int := fun i => [(5 : Int), 7, 9].getD i 0
def w0 : Nat → Int := fun _ => 0
def wB : Bk := saveB 0 noB 2 4 3 0 w0
def wP (t0 : Bool) (x : Int) : Ps := ⟨fun k => if k = 0 then t0 else true, fun _ => 2, fun k => if k < 4 then 1 else 0, fun k => ⟨fun _ => 0, fun _ => (k : Int), fun _ => 2, fun _ r => if k = 1 ∧ r = 0 then x else ([[(5 : Int), 9], [7, 0], [9, 22], [11, 13]].getD k []).getD r 0⟩⟩
theorem w_new : newE 5 wX = 0 := by decide +kernel
theorem w_save : saveE 0 noB 5 (freshP wX) 2 4 3 wD 0 w0 = 0 := by decide +kernel
theorem w_for : forL (freshP wX) 0 5 4 = [0, 1, 2, 3] := by decide +kernel
theorem w_shv : ∀ k, k < 4 → ∀ r, r < 2 → shv 2 3 wD k r = ([[(5 : Int), 9], [7, 0], [9, 22], [11, 13]].getD k []).getD r 0 := by decide +kernel
theorem w_ok : peersE 1 wB 5 (wP false 7) = 0 ∧ peersE 1 wB 5 (wP false 8) = 0 := by decide +kernel
theorem w_there : thereL (wP false 7) 0 5 = [(1, 0), (2, 0), (3, 0)] ∧ thereL (wP false 8) 0 5 = [(1, 0), (2, 0), (3, 0)] := by decide +kernel
theorem w_e7 : rsE 1 wB 5 (wP false 7) 0 = 0 := by decide +kernel
theorem w_e8 : rsE 1 wB 5 (wP false 8) 0 = 0 := by decide +kernel
theorem w_d7 : eqB 3 3 (rsD wB 5 (wP false 7) 0) wD = true := by decide +kernel
theorem w_none : rsE 1 wB 5 (wP false 7) 1 = 4 := by decide +kernel
theorem w_mend : mendE 1 wB 5 (wP false 7) 0 = 0 := by decide +kernel
theorem w_m4 : (mendP wB 5 (wP false 7) 0).m 4 = 1 ∧ ((mendP wB 5 (wP false 7) 0).t 4).N 0 = 0 := by decide +kernel
theorem w_mok : peersE 1 wB 5 (mendP wB 5 (wP false 7) 0) = 0 := by decide +kernel
theorem w_b7 : (rsB 1 wB 5 (wP false 7) 0).length = 0 := by decide +kernel
theorem w_b8 : (rsB 1 wB 5 (wP false 8) 0).length = 1 := by decide +kernel
end Go.Proofs.YtikchpffkhohlaaGreat

namespace Go.Proofs.YtikchpffkhohlaaGreat
open Go.RowKit CurveMath
set_option linter.unusedVariables false
theorem KeSl.agree {w : World} {B : Nat} {v : Value} {m : Nat} {UV : Nat → Value} {t t' : Kt} (h : KeSl w B v m UV t) (e : ∀ i, i < m → t.V i = t'.V i ∧ t.N i = t'.N i ∧ t.L i = t'.L i ∧ ∀ r, r < t.L i → t.X i r = t'.X i r) : KeSl w B v m UV t' := by
 obtain ⟨ad, cap, rfl, h0, h2⟩ := h
 refine ⟨ad, cap, rfl, h0, ?_⟩
 rcases h2 with h2 | ⟨b, off, rfl, h4, h5⟩
 ·exact Or.inl h2
 ·refine Or.inr ⟨b, off, rfl, h4, fun j hj => ?_⟩
  obtain ⟨x0, x1, x2, x3⟩ := h5 j hj
  obtain ⟨e0, e1, e2, e3⟩ := e j hj
  rw [← e0, ← e1, ← e2]
  exact ⟨x0, x1, x2, x3.congr e3⟩
theorem PsSl.agree {w : World} {B : Nat} {v : Value} {np : Nat} {KV : Nat → Value} {UV : Nat → Nat → Value} {P P' : Ps} (h : PsSl w B v np KV UV P)
  (e : ∀ k, k < np → P.th k = P'.th k ∧ P.rm k = P'.rm k ∧ P.m k = P'.m k ∧ ∀ i, i < P.m k → (P.t k).V i = (P'.t k).V i ∧ (P.t k).N i = (P'.t k).N i ∧ (P.t k).L i = (P'.t k).L i ∧ ∀ r, r < (P.t k).L i → (P.t k).X i r = (P'.t k).X i r) : PsSl w B v np KV UV P' := by
 obtain ⟨ad, cap, rfl, h0, h2⟩ := h
 refine ⟨ad, cap, rfl, h0, ?_⟩
 rcases h2 with h2 | ⟨b, off, rfl, h4, h5⟩
 ·exact Or.inl h2
 ·refine Or.inr ⟨b, off, rfl, h4, fun j hj => ?_⟩
  obtain ⟨x0, x1, x2, x3⟩ := h5 j hj
  obtain ⟨e0, e1, e2, e3⟩ := e j hj
  rw [← e0, ← e1, ← e2]
  exact ⟨x0, x1, x2, x3.agree e3⟩
theorem w_agree : ∀ k, k < 5 → (saveP 0 5 (freshP wX) 2 4 3 wD).th k = (wP true 7).th k ∧ (saveP 0 5 (freshP wX) 2 4 3 wD).rm k = (wP true 7).rm k ∧ (saveP 0 5 (freshP wX) 2 4 3 wD).m k = (wP true 7).m k ∧ ∀ i, i < (saveP 0 5 (freshP wX) 2 4 3 wD).m k →
  ((saveP 0 5 (freshP wX) 2 4 3 wD).t k).V i = ((wP true 7).t k).V i ∧ ((saveP 0 5 (freshP wX) 2 4 3 wD).t k).N i = ((wP true 7).t k).N i ∧ ((saveP 0 5 (freshP wX) 2 4 3 wD).t k).L i = ((wP true 7).t k).L i ∧ ∀ r, r < ((saveP 0 5 (freshP wX) 2 4 3 wD).t k).L i → ((saveP 0 5 (freshP wX) 2 4 3 wD).t k).X i r = ((wP true 7).t k).X i r := by decide +kernel
theorem ve_bool {w : World} {B g o : Nat} {v : Value} {n : Nat} {PV : Nat → Value} {b : Bk} {x : Bool} (h : VeSl w B v n PV b) (hc : w.cell? ⟨g, o, none⟩ = some (.bool x)) (u : Value) : VeSl (w.setCell ⟨g, o, none⟩ u) B v n PV b := by
 obtain ⟨ad, cap, rfl, h0, h2⟩ := h
 refine ⟨ad, cap, rfl, h0, ?_⟩
 rcases h2 with h2 | ⟨bl, off, rfl, h4, h5⟩
 ·exact Or.inl h2
 ·refine Or.inr ⟨bl, off, rfl, h4, fun j hj => ?_⟩
  obtain ⟨x0, x1, x2, x3, x4⟩ := h5 j hj
  have key : ∀ i z, w.cell? ⟨bl, i, none⟩ = some z → z ≠ .bool x → (w.setCell ⟨g, o, none⟩ u).cell? ⟨bl, i, none⟩ = some z := fun i z hz hne => by
   rw [cell_set_lit]
   ·exact hz
   ·by_cases e1 : bl = g
    ·right; intro e2; rw [e1, e2, hc] at hz; injection hz with hz; exact hne hz.symm
    ·exact Or.inl e1
  refine ⟨key _ _ x0 (fun e => ?_), key _ _ x1 (fun e => by cases e), key _ _ x2 (fun e => by cases e), key _ _ x3 (fun e => by cases e), isl_bool x4 hc u⟩
  obtain ⟨a, c, e2, _⟩ := x4
  rw [e2] at e
  cases e
theorem ps_there {w : World} {bl off cap : Nat} {np q : Nat} {KV : Nat → Value} {UV : Nat → Nat → Value} {P P' : Ps} (h : PsSl w w.heap.size (.slice (some ⟨bl, off, none⟩) np cap) np KV UV P) (hq : q < np) (t : Bool) (e : ∀ k, k < np → P'.th k = (if k = q then t else P.th k) ∧ P'.rm k = P.rm k ∧ P'.m k = P.m k ∧ P'.t k = P.t k) :
  PsSl (w.setCell ⟨bl, off + q * 3, none⟩ (.bool t)) (w.setCell ⟨bl, off + q * 3, none⟩ (.bool t)).heap.size (.slice (some ⟨bl, off, none⟩) np cap) np KV UV P' := by
 have hz : (w.setCell ⟨bl, off + q * 3, none⟩ (.bool t)).heap.size = w.heap.size := by simp [World.setCell]
 rw [hz]
 obtain ⟨bl', off', e1, _, hc, _, _, _⟩ := h.at hq
 injection e1 with e1
 injection e1 with e1 e2
 subst e1 e2
 obtain ⟨ad, cap', he, h0, h2⟩ := h
 injection he with he1 _ he3
 subst he1 he3
 refine ⟨_, cap, rfl, h0, ?_⟩
 rcases h2 with h2 | ⟨b, off', e1, h4, h5⟩
 ·omega
 ·injection e1 with e1
  injection e1 with e1 e2
  subst e1 e2
  refine Or.inr ⟨bl, off, rfl, h4, fun j hj => ?_⟩
  obtain ⟨x0, x1, x2, x3⟩ := h5 j hj
  obtain ⟨g1, g2, g3, g4⟩ := e j hj
  rw [g1, g2, g3, g4]
  refine ⟨?_, by rw [cell_set_lit (Or.inr (by omega))]; exact x1, by rw [cell_set_lit (Or.inr (by omega))]; exact x2, kel_bool x3 hc _⟩
  by_cases ej : j = q
  ·subst ej; rw [if_pos rfl]; exact cell_set_same x0 _
  ·rw [if_neg ej, cell_set_lit (Or.inr (by omega))]; exact x0
theorem isl_ne {w : World} {B g o : Nat} {v : Value} {m : Nat} {X : Nat → Int} {a : Int} (h : IntSl w B v m X) (hc : w.cell? ⟨g, o, none⟩ = some (.int .i64 a)) (hX : ∀ j, j < m → X j ≠ a) (u : Value) : IntSl (w.setCell ⟨g, o, none⟩ u) B v m X := by
 obtain ⟨ad, cap, rfl, h0, h2⟩ := h
 refine ⟨ad, cap, rfl, h0, ?_⟩
 rcases h2 with h2 | ⟨b, off, rfl, h4, h5⟩
 ·exact Or.inl h2
 ·refine Or.inr ⟨b, off, rfl, h4, fun j hj => ?_⟩
  have h6 := h5 j hj
  rw [cell_set_lit]
  ·exact h6
  ·by_cases e1 : b = g
   ·right
    intro e2
    rw [e1, e2, hc] at h6
    injection h6 with h6
    injection h6 with _ h6
    exact hX j hj h6.symm
   ·exact Or.inl e1
theorem isl_head {w : World} {B g o c : Nat} {m : Nat} {X X' : Nat → Int} {z : Int} (h : IntSl w B (.slice (some ⟨g, o, none⟩) m c) m X) (hm : 1 ≤ m) (h0 : X' 0 = z) (hX : ∀ j, j < m → j ≠ 0 → X' j = X j) : IntSl (w.setCell ⟨g, o, none⟩ (.int .i64 z)) B (.slice (some ⟨g, o, none⟩) m c) m X' := by
 obtain ⟨ad, cap, he, h1, h2⟩ := h
 injection he with he1 _ he3
 subst he1 he3
 refine ⟨_, c, rfl, h1, ?_⟩
 rcases h2 with h2 | ⟨b, off, e1, h4, h5⟩
 ·omega
 ·injection e1 with e1
  injection e1 with e1 e2
  subst e1 e2
  refine Or.inr ⟨g, o, rfl, h4, fun j hj => ?_⟩
  by_cases ej : j = 0
  ·subst ej; rw [h0]; exact cell_set_same (h5 0 hm) _
  ·rw [hX j hj ej, cell_set_lit (Or.inr (by omega))]; exact h5 j hj
theorem ve_ne {w : World} {B g o : Nat} {v : Value} {n : Nat} {PV : Nat → Value} {b : Bk} {a : Int} (h : VeSl w B v n PV b) (hc : w.cell? ⟨g, o, none⟩ = some (.int .i64 a)) (hX : ∀ j, j < n → b.nd j ≠ a ∧ b.of j ≠ a ∧ b.sz j ≠ a ∧ ∀ i, i < b.PL j → b.PX j i ≠ a) (u : Value) : VeSl (w.setCell ⟨g, o, none⟩ u) B v n PV b := by
 obtain ⟨ad, cap, rfl, h0, h2⟩ := h
 refine ⟨ad, cap, rfl, h0, ?_⟩
 rcases h2 with h2 | ⟨bl, off, rfl, h4, h5⟩
 ·exact Or.inl h2
 ·refine Or.inr ⟨bl, off, rfl, h4, fun j hj => ?_⟩
  obtain ⟨x0, x1, x2, x3, x4⟩ := h5 j hj
  obtain ⟨y1, y2, y3, y4⟩ := hX j hj
  have key : ∀ i z, w.cell? ⟨bl, i, none⟩ = some z → z ≠ .int .i64 a → (w.setCell ⟨g, o, none⟩ u).cell? ⟨bl, i, none⟩ = some z := fun i z hz hne => by
   rw [cell_set_lit]
   ·exact hz
   ·by_cases e1 : bl = g
    ·right; intro e2; rw [e1, e2, hc] at hz; injection hz with hz; exact hne hz.symm
    ·exact Or.inl e1
  refine ⟨key _ _ x0 (fun e => ?_), key _ _ x1 (fun e => by injection e with _ e; exact y1 e), key _ _ x2 (fun e => by injection e with _ e; exact y2 e), key _ _ x3 (fun e => by injection e with _ e; exact y3 e), isl_ne x4 hc y4 u⟩
  obtain ⟨a', c, e2, _⟩ := x4
  rw [e2] at e
  cases e
theorem ps_ne {w : World} {B g o : Nat} {v : Value} {np : Nat} {KV : Nat → Value} {UV : Nat → Nat → Value} {P P' : Ps} {a : Int} {u : Value} (h : PsSl w B v np KV UV P) (hc : w.cell? ⟨g, o, none⟩ = some (.int .i64 a))
  (e : ∀ k, k < np → P'.th k = P.th k ∧ P'.rm k = P.rm k ∧ P'.m k = P.m k ∧ P.rm k ≠ a ∧ ∀ i, i < P.m k → ((P'.t k).V i = (P.t k).V i ∧ (P'.t k).N i = (P.t k).N i) ∧ (P.t k).V i ≠ a ∧ (P.t k).N i ≠ a)
  (hx : ∀ k, k < np → ∀ i, i < P.m k → IntSl (w.setCell ⟨g, o, none⟩ u) B (UV k i) ((P'.t k).L i) ((P'.t k).X i)) : PsSl (w.setCell ⟨g, o, none⟩ u) B v np KV UV P' := by
 have key : ∀ b i z, w.cell? ⟨b, i, none⟩ = some z → z ≠ .int .i64 a → (w.setCell ⟨g, o, none⟩ u).cell? ⟨b, i, none⟩ = some z := fun b i z hz hne => by
  rw [cell_set_lit]
  ·exact hz
  ·by_cases e1 : b = g
   ·right; intro e2; rw [e1, e2, hc] at hz; injection hz with hz; exact hne hz.symm
   ·exact Or.inl e1
 obtain ⟨ad, cap, rfl, h0, h2⟩ := h
 refine ⟨ad, cap, rfl, h0, ?_⟩
 rcases h2 with h2 | ⟨bl, off, rfl, h4, h5⟩
 ·exact Or.inl h2
 ·refine Or.inr ⟨bl, off, rfl, h4, fun k hk => ?_⟩
  obtain ⟨x0, x1, x2, x3⟩ := h5 k hk
  obtain ⟨y1, y2, y3, y4, y5⟩ := e k hk
  rw [y1, y2, y3]
  refine ⟨key _ _ _ x0 (fun e => by cases e), key _ _ _ x1 (fun e => by injection e with _ e; exact y4 e), key _ _ _ x2 (fun e => ?_), ?_⟩
  ·obtain ⟨a', c, e2, _⟩ := x3
   rw [e2] at e
   cases e
  ·obtain ⟨ad', cap', he, g0, g2⟩ := x3
   refine ⟨ad', cap', he, g0, ?_⟩
   rcases g2 with g2 | ⟨b2, o2, rfl, g4, g5⟩
   ·exact Or.inl g2
   ·refine Or.inr ⟨b2, o2, rfl, g4, fun i hi => ?_⟩
    obtain ⟨z0, z1, z2, z3⟩ := g5 i hi
    obtain ⟨⟨t0, t1⟩, t2, t3⟩ := y5 i hi
    rw [t0, t1]
    refine ⟨key _ _ _ z0 (fun e => by injection e with _ e; exact t2 e), key _ _ _ z1 (fun e => by injection e with _ e; exact t3 e), key _ _ _ z2 (fun e => ?_), hx k hk i hi⟩
    obtain ⟨a', c, e2, _⟩ := z3
    rw [e2] at e
    cases e
theorem NewP.set {B : Nat} {w : World} {vl : Value} {np : Nat} {KV : Nat → Value} {UV : Nat → Nat → Value} {P P' : Ps} (h : NewP B w vl np KV UV P) (e : ∀ k, k < np → P'.m k = P.m k ∧ ∀ i, i < P.m k → (P'.t k).L i = (P.t k).L i) (a : Addr) (u : Value) : NewP B (w.setCell a u) vl np KV UV P' :=
 ⟨h.1.set a u, fun k hk => ⟨(h.2 k hk).1.set a u, fun i hi => by
  rw [(e k hk).1] at hi
  rw [(e k hk).2 i hi]
  exact ((h.2 k hk).2 i hi).imp id fun h => h.set a u⟩⟩
theorem NewP.up {B : Nat} {w w' : World} {vl : Value} {np : Nat} {KV : Nat → Value} {UV : Nat → Nat → Value} {P : Ps} (h : NewP B w vl np KV UV P) (hb : Below w.heap.size w w') : NewP B w' vl np KV UV P :=
 ⟨h.1.up hb, fun k hk => ⟨(h.2 k hk).1.up hb, fun i hi => ((h.2 k hk).2 i hi).imp id fun h => h.up hb⟩⟩
theorem NewP.mono {B B' : Nat} {w : World} {vl : Value} {np : Nat} {KV : Nat → Value} {UV : Nat → Nat → Value} {P : Ps} (h : NewP B w vl np KV UV P) (hb : B' ≤ B) : NewP B' w vl np KV UV P :=
 ⟨h.1.mono hb, fun k hk => ⟨(h.2 k hk).1.mono hb, fun i hi => ((h.2 k hk).2 i hi).imp id fun h => h.mono hb⟩⟩
end Go.Proofs.YtikchpffkhohlaaGreat

namespace Go.Proofs.YtikchpffkhohlaaGreat
open Go.RowKit CurveMath
set_option linter.unusedVariables false
theorem mesh_openN {w : World} {er : Int} {n : Nat} {b : Bk} {np : Nat} {P : Ps} {e : Ending} {w' : World} (h : MeshPostN w er n b np P e w') :
  Below w.heap.size w w' ∧ ∃ (ab : Option Addr) (n' cb : Nat) (PV : Nat → Value) (al : Option Addr) (np' cl : Nat) (KV : Nat → Value) (UV : Nat → Nat → Value), e = .returned (.tuple #[.agg #[.slice ab n' cb, .slice al np' cl], .int .i64 er]) ∧
   n' = (if er = 0 then n else 0) ∧ np' = (if er = 0 then np else 0) ∧ VeSl w' w'.heap.size (.slice ab n' cb) n' PV b ∧ PsSl w' w'.heap.size (.slice al np' cl) np' KV UV P ∧ NewP w.heap.size w' (.slice al np' cl) np' KV UV P := by
 obtain ⟨h1, vb, vl, n', np', PV, KV, UV, rfl, h3, h4, h5, h6, h7, _⟩ := h
 have h5' := h5
 have h6' := h6
 obtain ⟨ab, cb, rfl, _, _⟩ := h5'
 obtain ⟨al, cl, rfl, _, _⟩ := h6'
 exact ⟨h1, ab, n', cb, PV, al, np', cl, KV, UV, rfl, h3, h4, h5, h6, h7⟩
theorem isl_five {w : World} {g : Nat} {T : TypeId} (h : w.heap[g]? = some (.cells #[.int .i64 2, .int .i64 2, .int .i64 2, .int .i64 2, .int .i64 2] T (0, 0))) : IntSl w w.heap.size (.slice (some ⟨g, 0, none⟩) 5 5) 5 wX :=
 ⟨_, _, rfl, ⟨Nat.le_refl _, by omega⟩, Or.inr ⟨g, 0, rfl, (Array.getElem?_eq_some_iff.1 h).1, fun j hj => by
  match j, hj with
  | 0, _ => exact cell_at h rfl
  | 1, _ => exact cell_at h rfl
  | 2, _ => exact cell_at h rfl
  | 3, _ => exact cell_at h rfl
  | 4, _ => exact cell_at h rfl⟩⟩
theorem isl_579 {w : World} {g : Nat} {T : TypeId} (h : w.heap[g]? = some (.cells #[.int .i64 5, .int .i64 7, .int .i64 9] T (0, 0))) : IntSl w w.heap.size (.slice (some ⟨g, 0, none⟩) 3 3) 3 wD :=
 ⟨_, _, rfl, ⟨Nat.le_refl _, by omega⟩, Or.inr ⟨g, 0, rfl, (Array.getElem?_eq_some_iff.1 h).1, fun j hj => by
  match j, hj with
  | 0, _ => exact cell_at h rfl
  | 1, _ => exact cell_at h rfl
  | 2, _ => exact cell_at h rfl⟩⟩
def BegunPost (w : World) (e : Ending) (w' : World) : Prop :=
 Below w.heap.size w w' ∧ ∃ (ab : Option Addr) (cb : Nat) (PV : Nat → Value) (al : Option Addr) (cl : Nat) (KV : Nat → Value) (UV : Nat → Nat → Value), e = .returned (.tuple #[.agg #[.slice ab 1 cb, .slice al 5 cl], .int .i64 0]) ∧
  VeSl w' w'.heap.size (.slice ab 1 cb) 1 PV wB ∧ PsSl w' w'.heap.size (.slice al 5 cl) 5 KV UV (wP true 7) ∧ NewP w.heap.size w' (.slice al 5 cl) 5 KV UV (wP true 7)
set_option maxHeartbeats 4000000 in
set_option maxRecDepth 10000 in
theorem begun_any (hO : MeshCore) (w : World) : Calls Tryz.prog 53 #[] w (BegunPost w) := by
 have HO := hid hO
 have hb0 := ((Below.refl w.heap.size w).alloc (Nat.le_refl _) (.cells #[.slice none 0 0, .slice none 0 0] 27)).alloc (by simp) (.cells #[.int .i64 2, .int .i64 2, .int .i64 2, .int .i64 2, .int .i64 2] 3)
 have k1 := heap_two_old w (.cells #[.slice none 0 0, .slice none 0 0] 27) (.cells #[.int .i64 2, .int .i64 2, .int .i64 2, .int .i64 2, .int .i64 2] 3)
 have k2 := heap_two_new w (.cells #[.slice none 0 0, .slice none 0 0] 27) (.cells #[.int .i64 2, .int .i64 2, .int .i64 2, .int .i64 2, .int .i64 2] 3)
 obtain ⟨W0, hW0⟩ : ∃ W, (w.alloc (.cells #[.slice none 0 0, .slice none 0 0] 27)).alloc (.cells #[.int .i64 2, .int .i64 2, .int .i64 2, .int .i64 2, .int .i64 2] 3) = W := ⟨_, rfl⟩
 rw [hW0] at hb0 k1 k2
 have CK := hid (HO.out.new _ 5 wX W0 (isl_five k2) (by omega))
 rw [w_new] at CK
 have B0 := hid hb0
 have K1 := hid k1
 clear hb0 k1 k2 hO
 go_enter Tryz.func53, Tryz.ntmps53
 go_wp2_with fail
 refine Calls.mono CK.out ?_
 rintro e W1 hM
 obtain ⟨hb1, ab, n1, cb, PV, al, np1, cl, KV, UV, rfl, hn1, hp1, hv1, hl1, _⟩ := mesh_openN hM
 rw [if_pos rfl] at hn1 hp1
 subst hn1 hp1
 have hbM := below_alloc W1 (.cells #[.slice ab 0 cb, .slice al 5 cl] 27)
 have hx := MsAt.box hv1 hl1
 obtain ⟨V1, hV1⟩ : ∃ v, World.alloc W1 (.cells #[.slice ab 0 cb, .slice al 5 cl] 27) = v := ⟨_, rfl⟩
 rw [hV1] at hbM hx
 have hbD := below_alloc V1 (.cells #[.int .i64 5, .int .i64 7, .int .i64 9] 3)
 have kd := heap_alloc_new V1 (.cells #[.int .i64 5, .int .i64 7, .int .i64 9] 3)
 obtain ⟨V2, hV2⟩ : ∃ v, World.alloc V1 (.cells #[.int .i64 5, .int .i64 7, .int .i64 9] 3) = v := ⟨_, rfl⟩
 rw [hV2] at hbD kd
 have hb12 := hb1.trans ((hbM.trans (hbD.mono hbM.size)).mono hb1.size)
 have B2 := hid (B0.out.trans (hb12.mono B0.out.size))
 have K1 := hid (stayB K1.out hb12)
 have X1 := hid (hx.up hbD)
 have CS := hid (HO.out.save _ 0 PV noB _ 5 KV UV (freshP wX) _ 3 wD (.slice none 0 0) 0 w0 2 4 V2 X1.out.2.1 X1.out.2.2 (isl_579 kd) ⟨none, 0, rfl, ⟨Nat.le_refl _, by omega⟩, Or.inl rfl⟩)
 rw [w_save] at CS
 unfold meshV at CS
 obtain ⟨c0, c1⟩ := hx.cells
 clear hM hb1 hbM hbD hb12 hx kd hv1 hl1 CK
 go_wp2_with fail
 refine Calls.mono CS.out ?_
 rintro e W3 hM
 obtain ⟨hb3, ab3, n3, cb3, PV3, al3, np3, cl3, KV3, UV3, rfl, hn3, hp3, hv3, hl3, hN3⟩ := mesh_openN hM
 rw [if_pos rfl] at hn3 hp3
 subst hn3 hp3
 have B3 := hid (B2.out.trans (hb3.mono B2.out.size))
 have o3 := stayB K1.out hb3
 have HO3 := hid o3
 have HV3 := hid hv3
 have HL3 := hid hl3
 have HN3 := hid hN3
 obtain ⟨r1, r2⟩ := two_at o3
 have f1 := frozen_at (i := 0) o3
 have f2 := frozen_at (i := 1) o3
 clear hM hb3 o3 hv3 hl3 hN3 CS c0 c1
 go_wp2
 refine bodyPost_ret (results_cell2 rfl _ _ w.heap.size 27 #[.slice ab3 1 cb3, .slice al3 5 cl3] (0, 0) _ rfl (put2_whole HO3.out _ _) Tryz.underlying27 rfl (by kernel_rfl)) rfl ?_
 have hag : ∀ k, k < 5 → (wP true 7).m k = (saveP 0 5 (freshP wX) 2 4 3 wD).m k ∧ ∀ i, i < (saveP 0 5 (freshP wX) 2 4 3 wD).m k → ((wP true 7).t k).L i = ((saveP 0 5 (freshP wX) 2 4 3 wD).t k).L i := fun k hk => ⟨(w_agree k hk).2.2.1.symm, fun i hi => ((w_agree k hk).2.2.2 i hi).2.2.1.symm⟩
 exact ⟨put2_below B3.out (Nat.le_refl _), ab3, cb3, PV3, al3, cl3, KV3, UV3, rfl, ve_put2 HO3.out HV3.out _, (ps_put2 HO3.out HL3.out _ _).agree w_agree, ((HN3.out.mono B2.out.size).set (P' := saveP 0 5 (freshP wX) 2 4 3 wD) (fun k hk => ⟨rfl, fun i hi => rfl⟩) _ _).set hag _ _⟩
end Go.Proofs.YtikchpffkhohlaaGreat

namespace Go.Proofs.YtikchpffkhohlaaGreat
open Go.RowKit CurveMath
set_option linter.unusedVariables false
structure WvAt (B : Nat) (w : World) (g1 : Nat) (ab : Option Addr) (cb : Nat) (PV : Nat → Value) (bl off cl : Nat) (KV : Nat → Value) (UV : Nat → Nat → Value) (bk ok ck bu ou cu : Nat) (t0 : Bool) (x : Int) : Prop where
 box : MsAt w g1 ab 1 cb PV wB (some ⟨bl, off, none⟩) 5 cl KV UV (wP t0 x)
 new : NewP B w (.slice (some ⟨bl, off, none⟩) 5 cl) 5 KV UV (wP t0 x)
 k1 : KV 1 = .slice (some ⟨bk, ok, none⟩) 1 ck
 u1 : UV 1 0 = .slice (some ⟨bu, ou, none⟩) 2 cu
 ne1 : bl ≠ g1
 ne2 : bu ≠ g1
section
variable {B : Nat} {w w' : World} {g1 : Nat} {ab : Option Addr} {cb : Nat} {PV : Nat → Value} {bl off cl : Nat} {KV : Nat → Value} {UV : Nat → Nat → Value} {bk ok ck bu ou cu : Nat} {t0 : Bool} {x : Int}
theorem WvAt.up (h : WvAt B w g1 ab cb PV bl off cl KV UV bk ok ck bu ou cu t0 x) (hb : Below w.heap.size w w') : WvAt B w' g1 ab cb PV bl off cl KV UV bk ok ck bu ou cu t0 x :=
 ⟨h.box.up hb, h.new.up hb, h.k1, h.u1, h.ne1, h.ne2⟩
theorem WvAt.cells (h : WvAt B w g1 ab cb PV bl off cl KV UV bk ok ck bu ou cu t0 x) : (w.cell? ⟨g1, 0, none⟩ = some (.slice ab 1 cb) ∧ w.cell? ⟨g1, 1, none⟩ = some (.slice (some ⟨bl, off, none⟩) 5 cl)) ∧ (w.cell? ⟨bl, off, none⟩ = some (.bool t0) ∧ w.frozen? ⟨bl, off, none⟩ = false) ∧
  w.cell? ⟨bl, off + 3 + 2, none⟩ = some (.slice (some ⟨bk, ok, none⟩) 1 ck) ∧ w.cell? ⟨bk, ok + 1 + 1, none⟩ = some (.slice (some ⟨bu, ou, none⟩) 2 cu) ∧ (w.cell? ⟨bu, ou, none⟩ = some (.int .i64 x) ∧ w.frozen? ⟨bu, ou, none⟩ = false) := by
 obtain ⟨bl', off', e, _, c0, _, _, _⟩ := h.box.2.2.at (i := 0) (by omega)
 injection e with e
 injection e with e1 e2
 subst e1 e2
 obtain ⟨bl', off', e, _, _, _, c2, ke⟩ := h.box.2.2.at (i := 1) (by omega)
 injection e with e
 injection e with e1 e2
 subst e1 e2
 rw [h.k1] at c2 ke
 obtain ⟨ad, cap, e, _, h2⟩ := ke
 injection e with e1 _ _
 rcases h2 with h2 | ⟨b2, o2, e3, _, h5⟩
 ·exact absurd h2 (by show ¬ (1 : Nat) = 0; decide)
 ·rw [← e1] at e3
  injection e3 with e3
  injection e3 with e4 e5
  subst e4 e5
  obtain ⟨_, _, d2, d3⟩ := h5 0 (by show (0 : Nat) < 1; decide)
  rw [h.u1] at d2 d3
  have hd3 := d3
  obtain ⟨ad', cap', e', _, g2⟩ := hd3
  injection e' with e1' _ _
  have hx0 : w.cell? ⟨bu, ou, none⟩ = some (.int .i64 x) := by
   rcases g2 with g2 | ⟨b3, o3, e3', _, g5⟩
   ·exact absurd g2 (by show ¬ (2 : Nat) = 0; decide)
   ·rw [← e1'] at e3'
    injection e3' with e3'
    injection e3' with e4 e5
    subst e4 e5
    have g6 := g5 0 (by show (0 : Nat) < 2; decide)
    exact g6
  have hfr := ((h.new.2 1 (by omega)).2 0 (by show (0 : Nat) < 1; decide)).resolve_left (by show ¬ (2 : Nat) = 0; decide)
  rw [h.u1] at hfr
  refine ⟨h.box.cells, ⟨?_, (h.new.1 _ _ _ rfl).2.2 off⟩, ?_, ?_, hx0, (hfr _ _ _ rfl).2.2 ou⟩
  ·have h9 : w.cell? ⟨bl, off + 0 * 3, none⟩ = some (.bool t0) := c0
   rw [Nat.zero_mul, Nat.add_zero] at h9
   exact h9
  ·have h9 : w.cell? ⟨bl, off + 1 * 3 + 2, none⟩ = some (.slice (some ⟨bk, ok, none⟩) 1 ck) := c2
   rw [Nat.one_mul] at h9
   exact h9
  ·have h9 : w.cell? ⟨bk, ok + 0 * 3 + 2, none⟩ = some (.slice (some ⟨bu, ou, none⟩) 2 cu) := d2
   rw [Nat.zero_mul, Nat.add_zero] at h9
   exact h9
theorem wv_book : ∀ a : Int, a = 7 ∨ a = 8 → ∀ j, j < 1 → wB.nd j ≠ a ∧ wB.of j ≠ a ∧ wB.sz j ≠ a ∧ ∀ i, i < wB.PL j → wB.PX j i ≠ a := by
 intro a ha j hj
 obtain rfl : j = 0 := by omega
 rcases ha with rfl | rfl <;> refine ⟨by decide, by decide, by decide, fun i hi => absurd hi ?_⟩ <;> exact Nat.not_lt_zero _
theorem WvAt.goes (h : WvAt B w g1 ab cb PV bl off cl KV UV bk ok ck bu ou cu t0 x) : WvAt B (w.setCell ⟨bl, off, none⟩ (.bool false)) g1 ab cb PV bl off cl KV UV bk ok ck bu ou cu false x := by
 have hc := h.cells.2.1.1
 have hz : (w.setCell ⟨bl, off, none⟩ (.bool false)).heap.size = w.heap.size := by simp [World.setCell]
 have hp := ps_there (P' := wP false x) h.box.2.2 (q := 0) (by omega) false (fun k hk => ⟨by simp only [wP]; by_cases e : k = 0 <;> simp [e], rfl, rfl, rfl⟩)
 rw [Nat.zero_mul, Nat.add_zero] at hp
 refine ⟨⟨?_, ?_, hp⟩, h.new.set (fun k hk => ⟨rfl, fun i hi => rfl⟩) _ _, h.k1, h.u1, h.ne1, h.ne2⟩
 ·rw [Below.heap_setCell _ _ _ _ (by show g1 ≠ bl; exact fun e => h.ne1 e.symm)]; exact h.box.1
 ·rw [hz]; exact ve_bool h.box.2.1 hc _
theorem WvAt.bends (h : WvAt B w g1 ab cb PV bl off cl KV UV bk ok ck bu ou cu t0 x) (hx : x = 7 ∨ x = 8) (z : Int) : WvAt B (w.setCell ⟨bu, ou, none⟩ (.int .i64 z)) g1 ab cb PV bl off cl KV UV bk ok ck bu ou cu t0 z := by
 have hc := h.cells.2.2.2.2.1
 have hz : (w.setCell ⟨bu, ou, none⟩ (.int .i64 z)).heap.size = w.heap.size := by simp [World.setCell]
 refine ⟨⟨?_, ?_, ?_⟩, h.new.set (fun k hk => ⟨rfl, fun i hi => rfl⟩) _ _, h.k1, h.u1, h.ne1, h.ne2⟩
 ·rw [Below.heap_setCell _ _ _ _ (by show g1 ≠ bu; exact fun e => h.ne2 e.symm)]; exact h.box.1
 ·rw [hz]; exact ve_ne h.box.2.1 hc (wv_book x hx) _
 ·rw [hz]
  refine ps_ne (P' := wP t0 z) h.box.2.2 hc (fun k hk => ⟨rfl, rfl, rfl, by rcases hx with rfl | rfl <;> simp [wP], fun i hi => ⟨⟨rfl, rfl⟩, by rcases hx with rfl | rfl <;> simp [wP], by rcases hx with rfl | rfl <;> simp [wP] <;> omega⟩⟩) (fun k hk i hi => ?_)
  obtain ⟨_, _, _, _, _, _, _, ke⟩ := h.box.2.2.at hk
  obtain ⟨_, _, _, _, h2⟩ := ke
  rcases h2 with h2 | ⟨_, _, _, _, h5⟩
  ·omega
  have h6 := (h5 i hi).2.2.2
  by_cases e : k = 1
  ·subst e
   obtain rfl : i = 0 := by have : (wP t0 x).m 1 = 1 := rfl; omega
   rw [h.u1] at h6 ⊢
   exact isl_head (X' := ((wP t0 z).t 1).X 0) h6 (by show (1 : Nat) ≤ 2; decide) rfl (fun j hj hne => by simp [wP, hne])
  ·have hX : ((wP t0 z).t k).X i = ((wP t0 x).t k).X i := by simp [wP, e]
   have hL : ((wP t0 z).t k).L i = ((wP t0 x).t k).L i := rfl
   rw [hX, hL]
   refine isl_ne h6 hc (fun j hj => ?_) _
   have hj2 : j < 2 := hj
   have hk4 : k < 4 := by
    rcases Nat.lt_or_ge k 4 with h9 | h9
    ·exact h9
    ·have : (wP t0 x).m k = 0 := by simp [wP]; omega
     omega
   have hval : ((wP t0 x).t k).X i j = ([[(5 : Int), 9], [7, 0], [9, 22], [11, 13]].getD k []).getD j 0 := by simp [wP, e]
   rw [hval]
   have key : ∀ k, k < 4 → k ≠ 1 → ∀ j, j < 2 → ([[(5 : Int), 9], [7, 0], [9, 22], [11, 13]].getD k []).getD j 0 ≠ 7 ∧ ([[(5 : Int), 9], [7, 0], [9, 22], [11, 13]].getD k []).getD j 0 ≠ 8 := by decide
   rcases hx with rfl | rfl
   ·exact (key k hk4 e j hj2).1
   ·exact (key k hk4 e j hj2).2
end
end Go.Proofs.YtikchpffkhohlaaGreat
