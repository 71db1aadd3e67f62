/- Several texts of one proof, in their order. -/
import Derived.Test.YtdhefajaekackaaPrSum13

/- Chapter 7's second law, of a package that does what it owes: the law's walk. -/
namespace Go.Proofs.Ytdhefajaekackaa

open Go.RowKit
set_option linter.unusedVariables false

theorem heap_3 (w : World) (o1 o2 o3 : Obj) : (((w.alloc o1).alloc o2).alloc o3).heap[w.heap.size]? = some o1 ∧ (((w.alloc o1).alloc o2).alloc o3).heap[w.heap.size + 1]? = some o2 ∧ (((w.alloc o1).alloc o2).alloc o3).heap[w.heap.size + 2]? = some o3 := by
  refine ⟨?_, ?_, ?_⟩
  · rw [Below.heap_alloc _ _ _ (by simp; omega), Below.heap_alloc _ _ _ (by simp)]; exact heap_alloc_new _ _
  · rw [Below.heap_alloc _ _ _ (by simp)]
    have := heap_alloc_new (w.alloc o1) o2
    simpa using this
  · have := heap_alloc_new ((w.alloc o1).alloc o2) o3
    simpa using this

set_option maxHeartbeats 8000000 in
set_option maxRecDepth 10000 in
theorem peerKeeps_of (hO : PeerOwes) (vb : Value) (n : Nat) (PV : Nat → Value) (b : Bk) (th : Bool) (room : Int) (vk : Value) (m : Nat) (UV : Nat → Value) (t : Kt) (ver N : Int) (au : Option Addr) (L cu : Nat) (X : Nat → Int) (w : World)
    (hv : VeSl w w.heap.size vb n PV b) (hk : KeSl w w.heap.size vk m UV t) (hu : SlArg w au L cu X) :
    Calls Try.prog 9 #[bookV vb, peerV th room vk, keptV ver N (.slice au L cu)] w fun e w' => e = .returned (.bool true) ∧ Below w.heap.size w w' := by
  have HO := hid hO
  have HV := hid hv
  have HK := hid hk
  have HU := hid hu.isl
  obtain ⟨ad, cap, rfl, _, _⟩ := hv
  obtain ⟨ak, ck, rfl, _, _⟩ := hk
  have hb0 : Below w.heap.size w (((w.alloc (.cells #[.slice ad n cap] 24)).alloc (.cells #[.bool th, .int .i64 room, .slice ak m ck] 58)).alloc (.cells #[.int .i64 ver, .int .i64 N, .slice au L cu] 62)) := (((Below.refl w.heap.size w).alloc (Nat.le_refl _) _).alloc (by simp) _).alloc (by simp <;> omega) _
  obtain ⟨k0, k1, k2⟩ := heap_3 w (.cells #[.slice ad n cap] 24) (.cells #[.bool th, .int .i64 room, .slice ak m ck] 58) (.cells #[.int .i64 ver, .int .i64 N, .slice au L cu] 62)
  obtain ⟨U, hU⟩ : ∃ u, ((w.alloc (.cells #[.slice ad n cap] 24)).alloc (.cells #[.bool th, .int .i64 room, .slice ak m ck] 58)).alloc (.cells #[.int .i64 ver, .int .i64 N, .slice au L cu] 62) = u := ⟨_, rfl⟩
  rw [hU] at hb0 k0 k1 k2
  have HB := hid hb0
  have A0 : Hid (BkAt U w.heap.size ad n cap PV b) := ⟨k0, HV.out.up hb0⟩
  have A1 : Hid (PrAt U (w.heap.size + 1) th room ak m ck UV t) := ⟨k1, HK.out.up hb0⟩
  have A2 : Hid (KpAt U (w.heap.size + 2) ver N au L cu X) := ⟨k2, HU.out.up hb0⟩
  clear hb0 k0 k1 k2 HV HK HU hu hO
  have c0 := A0.out.cell
  obtain ⟨p1, p2, p3⟩ := A1.out.cells
  obtain ⟨k1, k2, k3⟩ := A2.out.cells
  unfold bookV peerV keptV
  go_enter Try.func9, Try.ntmps9
  have CK := hid (HO.out.keep _ n PV b th room _ m UV t ver N _ L X U A0.out.2 A1.out.2 A2.out.2)
  unfold bookV peerV keptV at CK
  go_wp2_with fail
  refine Calls.mono CK.out ?_
  rintro e u1 hkp
  obtain ⟨hb, er1, th1, room1, a1, m1, c1, UV1, t1, rfl, hk, hto⟩ := keepPost_open hkp
  have HT1 := hid hto
  have hb2 := below_alloc u1 (.cells #[.bool th1, .int .i64 room1, .slice a1 m1 c1] 58)
  have hx := PrAt.box (th := th1) (room := room1) hk
  obtain ⟨V1, hV1⟩ : ∃ v, World.alloc u1 (.cells #[.bool th1, .int .i64 room1, .slice a1 m1 c1] 58) = v := ⟨_, rfl⟩
  rw [hV1] at hb2 hx
  replace hb := hb.trans (hb2.mono hb.size)
  replace HB := hid (HB.out.trans (hb.mono HB.out.size))
  replace A0 := hid (A0.out.up hb)
  replace A1 := hid (A1.out.up hb)
  replace A2 := hid (A2.out.up hb)
  have X1 := hid hx
  clear hkp hb hb2 hk hto hx CK c0 p1 p2 p3 k1 k2 k3
  have c0 := A0.out.cell
  obtain ⟨p1, p2, p3⟩ := A1.out.cells
  obtain ⟨k1, k2, k3⟩ := A2.out.cells
  go_wp2_with fail
  refine Calls.mono (stored_any HO.out V1) ?_
  rintro e V2 ⟨rfl, hb⟩
  replace HB := hid (HB.out.trans (hb.mono HB.out.size))
  replace A0 := hid (A0.out.up hb)
  replace A1 := hid (A1.out.up hb)
  replace A2 := hid (A2.out.up hb)
  replace X1 := hid (X1.out.up hb)
  clear hb c0 p1 p2 p3 k1 k2 k3 hU hV1
  by_cases hc0 : er1 = 0
  · subst hc0
    rcases HT1.out with ⟨h0, h1, _⟩ | ⟨_, _, h1, _⟩ | ⟨_, _, _, h1, _⟩ | ⟨hp0, hroom, hat, l, hin, her, hcase⟩
    · exact absurd h1.symm h0
    · omega
    · omega
    rcases hcase with ⟨_, rfl, rfl, rfl, rfl⟩ | ⟨h1, _⟩
    · have hm20 : m ≤ 20 := by have := peerE_ok hp0; omega
      have hn := fstAt_none hat
      have hr := rise_far (X := t.V) (m := m) (fun j hj => (scanK_rise m 0 (-1) (peerE_ok hp0).2.2.2).2 j (Nat.zero_le _) (by omega))
      obtain ⟨i, hi, him, hiN, hiL, hiX⟩ := found_alike hin hn
      have HBk := hid (back_alike (th := th1) (room := room1) hin hr hn)
      have HNo := hid (none_alike (th := th1) (room := room1) hn)
      have HEr := hid her
      have HP0 := hid hp0
      obtain ⟨tt, htt⟩ : ∃ q, selT (snocT m t ver N L X) l = q := ⟨_, rfl⟩
      rw [htt] at hi hiN hiL hiX HBk HEr X1
      have HiN := hid hiN
      have HiL := hid hiL
      have HiX := hid hiX
      clear hn hr hin her hp0 hat hroom htt hiN hiL hiX HT1
      have CF := hid (HO.out.find th1 room1 _ (m + 1) UV1 tt ver V2 X1.out.2)
      rw [hi] at CF
      unfold peerV at CF
      have c0 := A0.out.cell
      obtain ⟨p1, p2, p3⟩ := X1.out.cells
      obtain ⟨k1, k2, k3⟩ := A2.out.cells
      clear hi
      go_wp2_with fail
      refine Calls.mono CF.out ?_
      rintro e W ⟨rfl, hb⟩
      replace HB := hid (HB.out.trans (hb.mono HB.out.size))
      replace A0 := hid (A0.out.up hb)
      replace A1 := hid (A1.out.up hb)
      replace A2 := hid (A2.out.up hb)
      replace X1 := hid (X1.out.up hb)
      clear hb CF c0 p1 p2 p3 k1 k2 k3
      go_wp2_with fail
      have HD : Hid (Below W.heap.size W W.drew) := drew_below W
      obtain ⟨bl, off, rfl, hcp, g1, g2, g3, g4⟩ := X1.out.2.at him
      rw [HiN.out] at g2
      rw [HiL.out, HiX.out] at g4
      have G4 := hid g4
      obtain ⟨ai, ci, hUi, _, _⟩ := g4
      rw [hUi] at g3 G4
      have hii : (i : Int) < ((m + 1 : Nat) : Int) := by omega
      have hi0 : decide ((i : Int) < 0) = false := decide_eq_false (by omega)
      have hlen : (((m + 1 : Nat) : Int) != (m : Int) + 1) = false := by rw [bne_eq_false_iff_eq]; omega
      clear g1
      have hne : Nonempty (Of (Below W.heap.size W)) := ⟨⟨W, Below.refl _ _⟩⟩
      have F0 : ∀ u : Of (Below W.heap.size W), u.val.cell? _ = some _ := fun u => (A0.out.up u.is).cell
      have F10 : ∀ u : Of (Below W.heap.size W), u.val.cell? _ = some _ := fun u => (A1.out.up u.is).cells.1
      have F11 : ∀ u : Of (Below W.heap.size W), u.val.cell? _ = some _ := fun u => (A1.out.up u.is).cells.2.1
      have F12 : ∀ u : Of (Below W.heap.size W), u.val.cell? _ = some _ := fun u => (A1.out.up u.is).cells.2.2
      have F20 : ∀ u : Of (Below W.heap.size W), u.val.cell? _ = some _ := fun u => (A2.out.up u.is).cells.1
      have F21 : ∀ u : Of (Below W.heap.size W), u.val.cell? _ = some _ := fun u => (A2.out.up u.is).cells.2.1
      have F22 : ∀ u : Of (Below W.heap.size W), u.val.cell? _ = some _ := fun u => (A2.out.up u.is).cells.2.2
      have FX0 : ∀ u : Of (Below W.heap.size W), u.val.cell? _ = some _ := fun u => (X1.out.up u.is).cells.1
      have FX1 : ∀ u : Of (Below W.heap.size W), u.val.cell? _ = some _ := fun u => (X1.out.up u.is).cells.2.1
      have FX2 : ∀ u : Of (Below W.heap.size W), u.val.cell? _ = some _ := fun u => (X1.out.up u.is).cells.2.2
      have FN : ∀ u : Of (Below W.heap.size W), u.val.cell? _ = some _ := fun u => by rw [u.is.cell (cell_lt g2)]; exact g2
      have FU : ∀ u : Of (Below W.heap.size W), u.val.cell? _ = some _ := fun u => by rw [u.is.cell (cell_lt g3)]; exact g3
      clear g2 g3
      refine region_mixed (Below W.heap.size W) [([0, 1], 2), ([3, 4, 5, 6, 7, 8, 9, 10, 11, 12, 13, 14, 15, 16], 17)] [18, 19, 20, 21, 22, 23, 24, 25, 26, 27, 28, 29] (by kernel_rfl) (by kernel_rfl) HD.out ?_
      refine mixO_cons (by simp only [pickO, List.getElem?_cons_zero, List.getElem?_cons_succ]; exact rfl) (by simp only [pickO, List.getElem?_cons_zero, List.getElem?_cons_succ]; exact rfl) ?_
      repeat (go_big_quiet_step (fail))
      refine wpQuiet_nil ?_
      intro K hK
      have CF := hid (HO.out.check _ n PV b th1 room1 _ (m + 1) UV1 tt W.drew (A0.out.2.up HD.out) (X1.out.2.up HD.out))
      rw [← HEr.out] at CF
      unfold bookV peerV at CF
      go_wp2_with fail
      refine Calls.mono CF.out ?_
      rintro e y1 ⟨rfl, hb⟩
      replace HD := hid (HD.out.trans (hb.mono HD.out.size))
      clear hb
      go_wp2
      refine ⟨rfl, hK _ _ HD.out ?_⟩
      clear hK K
      refine mixO_cons (by simp only [pickO, List.getElem?_cons_zero, List.getElem?_cons_succ]; exact rfl) (by simp only [pickO, List.getElem?_cons_zero, List.getElem?_cons_succ]; exact rfl) ?_
      repeat (go_big_quiet_step (fail))
      refine wpQuiet_nil ?_
      intro K hK
      replace CF := hid (shSame N N _ _ L L X X y1 (G4.out.up HD.out) (A2.out.2.up HD.out))
      rw [show sameB N N L L X X = true by unfold sameB eqB; simp] at CF
      unfold shareV at CF
      go_wp2_with fail
      refine Calls.mono CF.out ?_
      rintro e y2 ⟨rfl, hb⟩
      replace HD := hid (HD.out.trans (hb.mono HD.out.size))
      clear hb
      go_wp2
      refine ⟨rfl, hK _ _ HD.out ?_⟩
      clear hK K
      refine mixO_nil (by simp only [pickO, List.getElem?_cons_zero, List.getElem?_cons_succ]; exact rfl) ?_
      repeat (go_big_quiet_step (fail))
      refine wpQuiet_nil ?_
      replace HB := hid (HB.out.trans (HD.out.mono HB.out.size))
      replace A0 := hid (A0.out.up HD.out)
      replace A1 := hid (A1.out.up HD.out)
      replace A2 := hid (A2.out.up HD.out)
      replace X1 := hid (X1.out.up HD.out)
      clear HD F0 F10 F11 F12 F20 F21 F22 FX0 FX1 FX2 FN FU CF G4 hne
      have c0 := A0.out.cell
      obtain ⟨p1, p2, p3⟩ := X1.out.cells
      obtain ⟨k1, k2, k3⟩ := A2.out.cells
      go_wp2_with fail
      have CD := hid (HO.out.drop _ n PV b th1 room1 _ (m + 1) UV1 tt ver y2 A0.out.2 X1.out.2)
      unfold bookV peerV at CD
      refine Calls.mono CD.out ?_
      rintro e u2 hkp
      obtain ⟨hb, er2, th2, room2, a2, m2, c2, UV2, t2, rfl, hk, hto⟩ := dropPost_open hkp
      rcases hto with ⟨h0, _⟩ | ⟨h0, rfl, rfl, rfl, rfl, rfl⟩
      · exact absurd HEr.out.symm h0
      have hb2 := below_alloc u2 (.cells #[.bool th2, .int .i64 room2, .slice a2 (butL tt ver (m + 1)).length c2] 58)
      have hx := PrAt.box (th := th2) (room := room2) hk
      obtain ⟨V3, hV3⟩ : ∃ v, World.alloc u2 (.cells #[.bool th2, .int .i64 room2, .slice a2 (butL tt ver (m + 1)).length c2] 58) = v := ⟨_, rfl⟩
      rw [hV3] at hb2 hx
      replace hb := hb.trans (hb2.mono hb.size)
      replace HB := hid (HB.out.trans (hb.mono HB.out.size))
      replace A0 := hid (A0.out.up hb)
      replace A1 := hid (A1.out.up hb)
      replace A2 := hid (A2.out.up hb)
      have X2 := hid hx
      clear hkp hb hb2 hk hx CD h0 X1 c0 p1 p2 p3 k1 k2 k3
      have c0 := A0.out.cell
      obtain ⟨p1, p2, p3⟩ := A1.out.cells
      obtain ⟨k1, k2, k3⟩ := A2.out.cells
      have CD := hid (HO.out.drop _ n PV b th2 room2 _ m UV t ver V3 A0.out.2 A1.out.2)
      unfold bookV peerV at CD
      go_wp2_with fail
      refine Calls.mono CD.out ?_
      rintro e u3 hkp
      obtain ⟨hb, er3, th3, room3, a3, m3, c3, UV3, t3, rfl, hk, hto⟩ := dropPost_open hkp
      rcases hto with ⟨h0, _⟩ | ⟨h0, rfl, rfl, rfl, rfl, rfl⟩
      · exact absurd HP0.out h0
      have hb2 := below_alloc u3 (.cells #[.bool th3, .int .i64 room3, .slice a3 (butL t ver m).length c3] 58)
      have hx := PrAt.box (th := th3) (room := room3) hk
      obtain ⟨V4, hV4⟩ : ∃ v, World.alloc u3 (.cells #[.bool th3, .int .i64 room3, .slice a3 (butL t ver m).length c3] 58) = v := ⟨_, rfl⟩
      rw [hV4] at hb2 hx
      replace hb := hb.trans (hb2.mono hb.size)
      replace HB := hid (HB.out.trans (hb.mono HB.out.size))
      replace A1 := hid (A1.out.up hb)
      replace X2 := hid (X2.out.up hb)
      have X3 := hid hx
      clear hkp hb hb2 hk hx CD h0 A0 A2 c0 p1 p2 p3 k1 k2 k3
      have CS := hid (HO.out.same th3 th3 room3 room3 V4 _ _ _ m UV2 UV _ t X2.out.2 A1.out.2)
      rw [HBk.out] at CS
      unfold peerV at CS
      obtain ⟨p1, p2, p3⟩ := A1.out.cells
      obtain ⟨q1, q2, q3⟩ := X2.out.cells
      go_wp2_with fail
      refine Calls.mono CS.out ?_
      rintro e V5 ⟨rfl, hb⟩
      replace HB := hid (HB.out.trans (hb.mono HB.out.size))
      replace A1 := hid (A1.out.up hb)
      replace X3 := hid (X3.out.up hb)
      clear hb CS X2 p1 p2 p3 q1 q2 q3 hV3 hV4
      have CS := hid (HO.out.same th3 th3 room3 room3 V5 _ _ _ m UV3 UV _ t X3.out.2 A1.out.2)
      rw [HNo.out] at CS
      unfold peerV at CS
      obtain ⟨p1, p2, p3⟩ := A1.out.cells
      obtain ⟨q1, q2, q3⟩ := X3.out.cells
      go_wp2_with fail
      refine Calls.mono CS.out ?_
      rintro e V6 ⟨rfl, hb⟩
      replace HB := hid (HB.out.trans (hb.mono HB.out.size))
      clear hb CS
      go_wp2
      go_ret
      exact ⟨rfl, HB.out⟩
    · exact absurd rfl h1
  · have hcb : (er1 != 0) = true := by simpa using hc0
    clear hc0
    go_wp2_with fail
    refine Calls.mono (stored_any HO.out V2) ?_
    rintro e V3 ⟨rfl, hb⟩
    replace HB := hid (HB.out.trans (hb.mono HB.out.size))
    clear hb
    go_wp2
    go_ret
    exact ⟨rfl, HB.out⟩

end Go.Proofs.Ytdhefajaekackaa
