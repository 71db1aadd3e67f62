/- Several texts of one proof, in their order. -/
import Derived.Test.YtdhefajaekackaaPrSum13

/- Chapter 7's answers, held against the reference's: the law's walk. -/
namespace Go.Proofs.Ytdhefajaekackaa

open Go.RowKit
set_option linter.unusedVariables false

set_option maxHeartbeats 8000000 in
set_option maxRecDepth 10000 in
theorem peerSays_of (hO : PeerOwes) (vb : Value) (n : Nat) (PV : Nat → Value) (b : Bk) (th : Bool) (room : Int) (vk : Value) (m : Nat) (UV : Nat → Value) (t : Kt) (ver N : Int) (au : Option Addr) (L cu : Nat) (X : Nat → Int) (version : Int) (thq : Bool) (roomq : Int) (vq : Value) (mq : Nat) (QV : Nat → Value) (u : Kt) (w : World)
    (hv : VeSl w w.heap.size vb n PV b) (hk : KeSl w w.heap.size vk m UV t) (hu : SlArg w au L cu X) (hq : KeSl w w.heap.size vq mq QV u) :
    Calls Try.prog 8 #[bookV vb, peerV th room vk, keptV ver N (.slice au L cu), .int .i64 version, peerV thq roomq vq] w fun e w' => e = .returned (.bool true) ∧ Below w.heap.size w w' := by
  have HO := hid hO
  have HV := hid hv
  have HK := hid hk
  have HU := hid hu.isl
  have HQ := hid hq
  obtain ⟨ad, cap, rfl, _, _⟩ := hv
  obtain ⟨ak, ck, rfl, _, _⟩ := hk
  obtain ⟨aq, cq, rfl, _, _⟩ := hq
  have hb0 : Below w.heap.size w ((((w.alloc (.cells #[.slice ad n cap] 24)).alloc (.cells #[.bool th, .int .i64 room, .slice ak m ck] 58)).alloc (.cells #[.int .i64 ver, .int .i64 N, .slice au L cu] 62)).alloc (.cells #[.bool thq, .int .i64 roomq, .slice aq mq cq] 58)) := ((((Below.refl w.heap.size w).alloc (Nat.le_refl _) _).alloc (by simp) _).alloc (by simp <;> omega) _).alloc (by simp <;> omega) _
  obtain ⟨k0, k1, k2, k3⟩ := heap_four w (.cells #[.slice ad n cap] 24) (.cells #[.bool th, .int .i64 room, .slice ak m ck] 58) (.cells #[.int .i64 ver, .int .i64 N, .slice au L cu] 62) (.cells #[.bool thq, .int .i64 roomq, .slice aq mq cq] 58)
  obtain ⟨U, hU⟩ : ∃ u, (((w.alloc (.cells #[.slice ad n cap] 24)).alloc (.cells #[.bool th, .int .i64 room, .slice ak m ck] 58)).alloc (.cells #[.int .i64 ver, .int .i64 N, .slice au L cu] 62)).alloc (.cells #[.bool thq, .int .i64 roomq, .slice aq mq cq] 58) = u := ⟨_, rfl⟩
  rw [hU] at hb0 k0 k1 k2 k3
  have HB := hid hb0
  have A0 : Hid (BkAt U w.heap.size ad n cap PV b) := ⟨k0, HV.out.up hb0⟩
  have A1 : Hid (PrAt U (w.heap.size + 1) th room ak m ck UV t) := ⟨k1, HK.out.up hb0⟩
  have A2 : Hid (KpAt U (w.heap.size + 2) ver N au L cu X) := ⟨k2, HU.out.up hb0⟩
  have A3 : Hid (PrAt U (w.heap.size + 3) thq roomq aq mq cq QV u) := ⟨k3, HQ.out.up hb0⟩
  obtain ⟨bad, hbad⟩ : ∃ c, peerE n b room m t = c := ⟨_, rfl⟩
  obtain ⟨sB, hsB⟩ : ∃ c, peerB th thq room roomq m mq t u = c := ⟨_, rfl⟩
  obtain ⟨fA, hfA⟩ : ∃ c, fstAt t.V version m 0 = c := ⟨_, rfl⟩
  have HBad := hid hbad
  have HSB := hid hsB
  have HFA := hid hfA
  clear hb0 k0 k1 k2 k3 HV HK HU HQ hbad hsB hfA hu hO
  have c0 := A0.out.cell
  obtain ⟨p1, p2, p3⟩ := A1.out.cells
  obtain ⟨k1, k2, k3⟩ := A2.out.cells
  unfold bookV peerV keptV
  go_enter Try.func8, Try.ntmps8
  have CK := hid (HO.out.keep _ n PV b th room _ m UV t ver N _ L X U A0.out.2 A1.out.2 A2.out.2)
  unfold bookV peerV keptV at CK
  go_wp2_with fail
  refine Calls.mono CK.out ?_
  rintro e u1 hkp
  obtain ⟨hb, er1, th1, room1, a1, m1, c1, UV1, t1, rfl, hk, hto⟩ := keepPost_open hkp
  have HT1 := hid hto
  have hb2 := below_alloc u1 (.cells #[.bool th1, .int .i64 room1, .slice a1 m1 c1] 58)
  have hx := PrAt.box (th := th1) (room := room1) hk
  obtain ⟨V1, hV1⟩ : ∃ v, World.alloc u1 (.cells #[.bool th1, .int .i64 room1, .slice a1 m1 c1] 58) = v := ⟨_, rfl⟩
  rw [hV1] at hb2 hx
  replace hb := hb.trans (hb2.mono hb.size)
  replace HB := hid (HB.out.trans (hb.mono HB.out.size))
  replace A0 := hid (A0.out.up hb)
  replace A1 := hid (A1.out.up hb)
  replace A2 := hid (A2.out.up hb)
  replace A3 := hid (A3.out.up hb)
  have X1 := hid hx
  clear hkp hb hb2 hk hto hx CK c0 p1 p2 p3 k1 k2 k3
  have c0 := A0.out.cell
  obtain ⟨p1, p2, p3⟩ := A1.out.cells
  obtain ⟨k1, k2, k3⟩ := A2.out.cells
  have CK := hid (HO.out.drop _ n PV b th room _ m UV t version V1 A0.out.2 A1.out.2)
  unfold bookV peerV at CK
  go_wp2_with fail
  refine Calls.mono CK.out ?_
  rintro e u2 hkp
  obtain ⟨hb, er2, th2, room2, a2, m2, c2, UV2, t2, rfl, hk, hto⟩ := dropPost_open hkp
  have HT2 := hid hto
  have hb2 := below_alloc u2 (.cells #[.bool th2, .int .i64 room2, .slice a2 m2 c2] 58)
  have hx := PrAt.box (th := th2) (room := room2) hk
  obtain ⟨V2, hV2⟩ : ∃ v, World.alloc u2 (.cells #[.bool th2, .int .i64 room2, .slice a2 m2 c2] 58) = v := ⟨_, rfl⟩
  rw [hV2] at hb2 hx
  replace hb := hb.trans (hb2.mono hb.size)
  replace HB := hid (HB.out.trans (hb.mono HB.out.size))
  replace A0 := hid (A0.out.up hb)
  replace A1 := hid (A1.out.up hb)
  replace A2 := hid (A2.out.up hb)
  replace A3 := hid (A3.out.up hb)
  replace X1 := hid (X1.out.up hb)
  have X2 := hid hx
  clear hkp hb hb2 hk hto hx CK c0 p1 p2 p3 k1 k2 k3
  have c0 := A0.out.cell
  obtain ⟨p1, p2, p3⟩ := A1.out.cells
  obtain ⟨k1, k2, k3⟩ := A2.out.cells
  have CK := hid (keeps_any _ n PV b th room _ m UV t ver N _ L X V2 A0.out.2 A1.out.2 A2.out.2)
  unfold bookV peerV keptV at CK
  go_wp2_with fail
  refine Calls.mono CK.out ?_
  rintro e u3 hkp
  obtain ⟨hb, er3, th3, room3, a3, m3, c3, UV3, t3, rfl, hk, hto⟩ := keepPost_open hkp
  have HT3 := hid hto
  have hb2 := below_alloc u3 (.cells #[.bool th3, .int .i64 room3, .slice a3 m3 c3] 58)
  have hx := PrAt.box (th := th3) (room := room3) hk
  obtain ⟨V3, hV3⟩ : ∃ v, World.alloc u3 (.cells #[.bool th3, .int .i64 room3, .slice a3 m3 c3] 58) = v := ⟨_, rfl⟩
  rw [hV3] at hb2 hx
  replace hb := hb.trans (hb2.mono hb.size)
  replace HB := hid (HB.out.trans (hb.mono HB.out.size))
  replace A0 := hid (A0.out.up hb)
  replace A1 := hid (A1.out.up hb)
  replace A2 := hid (A2.out.up hb)
  replace A3 := hid (A3.out.up hb)
  replace X1 := hid (X1.out.up hb)
  replace X2 := hid (X2.out.up hb)
  have X3 := hid hx
  clear hkp hb hb2 hk hto hx CK c0 p1 p2 p3 k1 k2 k3
  have c0 := A0.out.cell
  obtain ⟨p1, p2, p3⟩ := A1.out.cells
  obtain ⟨k1, k2, k3⟩ := A2.out.cells
  have CK := hid (checkPeer_any _ n PV b th room _ m UV t V3 A0.out.2 A1.out.2)
  rw [HBad.out] at CK
  unfold bookV peerV at CK
  go_wp2_with fail
  refine Calls.mono CK.out ?_
  rintro e W ⟨rfl, hb⟩
  replace HB := hid (HB.out.trans (hb.mono HB.out.size))
  replace A0 := hid (A0.out.up hb)
  replace A1 := hid (A1.out.up hb)
  replace A2 := hid (A2.out.up hb)
  replace A3 := hid (A3.out.up hb)
  replace X1 := hid (X1.out.up hb)
  replace X2 := hid (X2.out.up hb)
  replace X3 := hid (X3.out.up hb)
  clear hb CK c0 p1 p2 p3 k1 k2 k3 hU hV1 hV2 hV3
  obtain ⟨he13, hp13⟩ := keepsTo_alike HT1.out HT3.out
  subst he13
  have HPx := hid hp13
  clear hp13
  go_wp2_with fail
  have HD : Hid (Below W.heap.size W W.drew) := drew_below W
  have hne : Nonempty (Of (Below W.heap.size W)) := ⟨⟨W, Below.refl _ _⟩⟩
  have F0 : ∀ u : Of (Below W.heap.size W), u.val.cell? _ = some _ := fun u => (A0.out.up u.is).cell
  have F10 : ∀ u : Of (Below W.heap.size W), u.val.cell? _ = some _ := fun u => (A1.out.up u.is).cells.1
  have F11 : ∀ u : Of (Below W.heap.size W), u.val.cell? _ = some _ := fun u => (A1.out.up u.is).cells.2.1
  have F12 : ∀ u : Of (Below W.heap.size W), u.val.cell? _ = some _ := fun u => (A1.out.up u.is).cells.2.2
  have F30 : ∀ u : Of (Below W.heap.size W), u.val.cell? _ = some _ := fun u => (A3.out.up u.is).cells.1
  have F31 : ∀ u : Of (Below W.heap.size W), u.val.cell? _ = some _ := fun u => (A3.out.up u.is).cells.2.1
  have F32 : ∀ u : Of (Below W.heap.size W), u.val.cell? _ = some _ := fun u => (A3.out.up u.is).cells.2.2
  have FX0 : ∀ u : Of (Below W.heap.size W), u.val.cell? _ = some _ := fun u => (X1.out.up u.is).cells.1
  have FX1 : ∀ u : Of (Below W.heap.size W), u.val.cell? _ = some _ := fun u => (X1.out.up u.is).cells.2.1
  have FX2 : ∀ u : Of (Below W.heap.size W), u.val.cell? _ = some _ := fun u => (X1.out.up u.is).cells.2.2
  have FY0 : ∀ u : Of (Below W.heap.size W), u.val.cell? _ = some _ := fun u => (X3.out.up u.is).cells.1
  have FY1 : ∀ u : Of (Below W.heap.size W), u.val.cell? _ = some _ := fun u => (X3.out.up u.is).cells.2.1
  have FY2 : ∀ u : Of (Below W.heap.size W), u.val.cell? _ = some _ := fun u => (X3.out.up u.is).cells.2.2
  refine region_mixed (Below W.heap.size W) [([], 0), ([1, 2, 3, 4, 6], 5), ([7, 8, 9, 10, 11, 13, 14], 12), ([], 15), ([16, 17, 18, 19, 20, 22, 23], 21), ([], 24), ([25, 26, 27, 28, 29, 30, 31, 32, 33, 34], 35)] [36, 37] (by kernel_rfl) (by kernel_rfl) HD.out ?_
  refine mixO_cons (lq := []) rfl (by simp only [pickO, List.getElem?_cons_zero]; exact rfl) ?_

  refine wpQuiet_nil ?_
  intro K hK

  go_wp2_with fail
  refine Calls.mono (stored_any HO.out W.drew) ?_
  rintro e y0 ⟨rfl, hb⟩
  replace HD := hid (HD.out.trans (hb.mono HD.out.size))
  clear hb
  go_wp2
  refine ⟨rfl, hK _ _ HD.out ?_⟩
  clear hK K
  refine mixO_cons (by simp only [pickO, List.getElem?_cons_zero, List.getElem?_cons_succ]; exact rfl) (by simp only [pickO, List.getElem?_cons_zero, List.getElem?_cons_succ]; exact rfl) ?_
  repeat (go_big_quiet_step (fail))
  refine wpQuiet_nil ?_
  intro K hK
  have CF := hid (HO.out.check _ n PV b th room _ m UV t y0 (A0.out.2.up HD.out) (A1.out.2.up HD.out))
  rw [HBad.out] at CF
  unfold bookV peerV at CF
  go_wp2_with fail
  refine Calls.mono CF.out ?_
  rintro e y1 ⟨rfl, hb⟩
  replace HD := hid (HD.out.trans (hb.mono HD.out.size))
  clear hb
  go_wp2
  refine ⟨rfl, hK _ _ HD.out ?_⟩
  clear hK K
  refine mixO_cons (by simp only [pickO, List.getElem?_cons_zero, List.getElem?_cons_succ]; exact rfl) (by simp only [pickO, List.getElem?_cons_zero, List.getElem?_cons_succ]; exact rfl) ?_
  repeat (go_big_quiet_step (fail))
  refine wpQuiet_nil ?_
  intro K hK
  replace CF := hid (HO.out.find th room _ m UV t version y1 (A1.out.2.up HD.out))
  rw [HFA.out] at CF
  unfold peerV at CF
  go_wp2_with fail
  refine Calls.mono CF.out ?_
  rintro e y2 ⟨rfl, hb⟩
  replace HD := hid (HD.out.trans (hb.mono HD.out.size))
  clear hb
  go_wp2
  refine ⟨rfl, hK _ _ HD.out ?_⟩
  clear hK K
  refine mixO_cons (lq := []) rfl (by simp only [pickO, List.getElem?_cons_zero, List.getElem?_cons_succ]; exact rfl) ?_

  refine wpQuiet_nil ?_
  intro K hK
  replace CF := hid (atPeer_any th room _ m UV t version y2 (A1.out.2.up HD.out))
  rw [HFA.out] at CF
  unfold peerV at CF
  go_wp2_with fail
  refine Calls.mono CF.out ?_
  rintro e y3 ⟨rfl, hb⟩
  replace HD := hid (HD.out.trans (hb.mono HD.out.size))
  clear hb
  go_wp2
  refine ⟨rfl, hK _ _ HD.out ?_⟩
  clear hK K
  refine mixO_cons (by simp only [pickO, List.getElem?_cons_zero, List.getElem?_cons_succ]; exact rfl) (by simp only [pickO, List.getElem?_cons_zero, List.getElem?_cons_succ]; exact rfl) ?_
  repeat (go_big_quiet_step (fail))
  refine wpQuiet_nil ?_
  intro K hK
  replace CF := hid (HO.out.same th thq room roomq y3 _ _ m mq UV QV t u (A1.out.2.up HD.out) (A3.out.2.up HD.out))
  rw [HSB.out] at CF
  unfold peerV at CF
  go_wp2_with fail
  refine Calls.mono CF.out ?_
  rintro e y4 ⟨rfl, hb⟩
  replace HD := hid (HD.out.trans (hb.mono HD.out.size))
  clear hb
  go_wp2
  refine ⟨rfl, hK _ _ HD.out ?_⟩
  clear hK K
  refine mixO_cons (lq := []) rfl (by simp only [pickO, List.getElem?_cons_zero, List.getElem?_cons_succ]; exact rfl) ?_

  refine wpQuiet_nil ?_
  intro K hK
  replace CF := hid (samePeer_any th thq room roomq (A1.out.2.up HD.out) (A3.out.2.up HD.out))
  rw [HSB.out] at CF
  unfold peerV at CF
  go_wp2_with fail
  refine Calls.mono CF.out ?_
  rintro e y5 ⟨rfl, hb⟩
  replace HD := hid (HD.out.trans (hb.mono HD.out.size))
  clear hb
  go_wp2
  refine ⟨rfl, hK _ _ HD.out ?_⟩
  clear hK K
  refine mixO_cons (by simp only [pickO, List.getElem?_cons_zero, List.getElem?_cons_succ]; exact rfl) (by simp only [pickO, List.getElem?_cons_zero, List.getElem?_cons_succ]; exact rfl) ?_
  repeat (go_big_quiet_step (fail))
  refine wpQuiet_nil ?_
  intro K hK
  replace CF := hid (samePeer_any th1 th3 room1 room3 (X1.out.2.up HD.out) (X3.out.2.up HD.out))
  rw [HPx.out] at CF
  unfold peerV at CF
  go_wp2_with fail
  refine Calls.mono CF.out ?_
  rintro e y6 ⟨rfl, hb⟩
  replace HD := hid (HD.out.trans (hb.mono HD.out.size))
  clear hb
  go_wp2
  refine ⟨rfl, hK _ _ HD.out ?_⟩
  clear hK K
  refine mixO_nil (by simp only [pickO, List.getElem?_cons_zero, List.getElem?_cons_succ]; exact rfl) ?_
  repeat (go_big_quiet_step (fail))
  refine wpQuiet_nil ?_
  replace HB := hid (HB.out.trans (HD.out.mono HB.out.size))
  replace A0 := hid (A0.out.up HD.out)
  replace A1 := hid (A1.out.up HD.out)
  replace X2 := hid (X2.out.up HD.out)
  clear HD F0 F10 F11 F12 F30 F31 F32 FX0 FX1 FX2 FY0 FY1 FY2 CF A2 A3 X1 X3 hne
  by_cases hc0 : bad = 0
  · subst hc0
    have hm20 : m ≤ 1000 := by have := peerE_ok HBad.out; omega
    rcases HT2.out with ⟨h0, _⟩ | ⟨h0, rfl, rfl, rfl, rfl, rfl⟩
    · exact absurd HBad.out h0
    clear h0
    go_wp2_with fail
    have HD : Hid (Below y6.heap.size y6 y6.drew) := drew_below y6
    have hne : Nonempty (Of (Below y6.heap.size y6)) := ⟨⟨y6, Below.refl _ _⟩⟩
    have F10 : ∀ u : Of (Below y6.heap.size y6), u.val.cell? _ = some _ := fun u => (A1.out.up u.is).cells.1
    have F11 : ∀ u : Of (Below y6.heap.size y6), u.val.cell? _ = some _ := fun u => (A1.out.up u.is).cells.2.1
    have F12 : ∀ u : Of (Below y6.heap.size y6), u.val.cell? _ = some _ := fun u => (A1.out.up u.is).cells.2.2
    have FY0 : ∀ u : Of (Below y6.heap.size y6), u.val.cell? _ = some _ := fun u => (X2.out.up u.is).cells.1
    have FY1 : ∀ u : Of (Below y6.heap.size y6), u.val.cell? _ = some _ := fun u => (X2.out.up u.is).cells.2.1
    have FY2 : ∀ u : Of (Below y6.heap.size y6), u.val.cell? _ = some _ := fun u => (X2.out.up u.is).cells.2.2
    refine region_mixed (Below y6.heap.size y6) [([0, 1, 2, 3, 4, 5], 6), ([], 7)] [8, 9] (by kernel_rfl) (by kernel_rfl) HD.out ?_
    refine mixO_cons (by simp only [pickO, List.getElem?_cons_zero, List.getElem?_cons_succ]; exact rfl) (by simp only [pickO, List.getElem?_cons_zero, List.getElem?_cons_succ]; exact rfl) ?_
    repeat (go_big_quiet_step (fail))
    refine wpQuiet_nil ?_
    intro K hK
    have CF := hid (without_any th2 room2 _ m UV t version y6.drew hm20 (A1.out.2.up HD.out))
    unfold peerV at CF
    go_wp2_with fail
    refine Calls.mono CF.out ?_
    rintro e z1 ⟨hb, r, UVr, rfl, hr⟩
    obtain ⟨ar, cr, rfl⟩ : ∃ ar cr, r = .slice ar (butL t version m).length cr := by obtain ⟨x, y, h, _⟩ := hr; exact ⟨x, y, h⟩
    have HR := hid hr
    clear hr
    unfold peerV
    replace HD := hid (HD.out.trans (hb.mono HD.out.size))
    clear hb
    go_wp2
    refine ⟨rfl, hK _ _ HD.out ?_⟩
    clear hK K
    refine mixO_cons (lq := []) rfl (by simp only [pickO, List.getElem?_cons_zero, List.getElem?_cons_succ]; exact rfl) ?_

    refine wpQuiet_nil ?_
    intro K hK
    replace CF := hid (samePeer_any th2 th2 room2 room2 (X2.out.2.up HD.out) HR.out)
    rw [peerB_refl] at CF
    unfold peerV at CF
    go_wp2_with fail
    refine Calls.mono CF.out ?_
    rintro e z2 ⟨rfl, hb⟩
    replace HD := hid (HD.out.trans (hb.mono HD.out.size))
    clear hb
    go_wp2
    refine ⟨rfl, hK _ _ HD.out ?_⟩
    clear hK K
    refine mixO_nil (by simp only [pickO, List.getElem?_cons_zero, List.getElem?_cons_succ]; exact rfl) ?_
    repeat (go_big_quiet_step (fail))
    refine wpQuiet_nil ?_
    go_wp2
    go_ret
    exact ⟨rfl, HB.out.trans (HD.out.mono HB.out.size)⟩
  · have hcb : (bad != 0) = true := by simpa using hc0
    rcases HT2.out with ⟨h0, h1, rfl, rfl, rfl⟩ | ⟨h0, _⟩
    · obtain rfl : er2 = bad := h1.trans HBad.out
      clear h0 h1 hc0
      have CF := hid (samePeer_any false false 0 0 X2.out.2 (v2 := .slice none 0 0) (m := 0) (QV := fun _ => undef) (u := t) ⟨none, 0, rfl, ⟨Nat.le_refl _, by omega⟩, Or.inl rfl⟩)
      rw [show peerB false false 0 0 0 0 t2 t = true from rfl] at CF
      unfold peerV at CF
      obtain ⟨y1, y2, y3⟩ := X2.out.cells
      go_wp2_with fail
      refine Calls.mono CF.out ?_
      rintro e z1 ⟨rfl, hb⟩
      replace HB := hid (HB.out.trans (hb.mono HB.out.size))
      clear hb
      go_wp2
      go_ret
      exact ⟨rfl, HB.out⟩
    · exact absurd (HBad.out.symm.trans h0) hc0

end Go.Proofs.Ytdhefajaekackaa
