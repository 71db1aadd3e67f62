/- Several texts of one proof, in their order. -/
import Derived.Test.YtajmnlhfnhbleaaGreatTaleKeepsPart0
import Derived.Test.YtajmnlhfnhbleaaGreatTaleKeepsPart1

namespace Go.Proofs.YtajmnlhfnhbleaaGreat

open Go.RowKit CurveMath
set_option linter.unusedVariables false

theorem clear_hap (w : World) (g o m c : Nat) (hm : 0 < m) (hc : ∀ j, j < m * 7 → (w.cell? ⟨g, o + j, none⟩).isSome = true) (hf : ∀ j, j < m * 7 → w.frozen? ⟨g, o + j, none⟩ = false) :
    ∃ zs, (Builtin.clear_ #[45] 0 #[.slice (some ⟨g, o, none⟩) m c]).run Tryz.prog w = .ok (.tuple #[]) (w.setCells g o zs) := by
  have hl : (Builtin.zeroCells (Value.agg #[.int .i64 0, .int .i64 0, .int .i64 0, .slice none 0 0, .slice none 0 0, .int .i64 0, .int .i64 0]).cells m).toList.length = m * 7 := by
    rw [Array.length_toList, size_zeroCells]; rfl
  obtain ⟨zs, hzs⟩ : ∃ zs, (Builtin.zeroCells (Value.agg #[.int .i64 0, .int .i64 0, .int .i64 0, .slice none 0 0, .slice none 0 0, .int .i64 0, .int .i64 0]).cells m).toList = zs := ⟨_, rfl⟩
  have h1 : ∀ v ∈ zs, v.oneCell' = true := by
    intro v hv
    rw [← hzs] at hv
    simp only [Builtin.zeroCells, Array.toList_map, List.mem_map] at hv
    obtain ⟨i, _, rfl⟩ := hv
    have h7 : i % 7 < 7 := Nat.mod_lt _ (by omega)
    show ((#[.int .i64 0, .int .i64 0, .int .i64 0, .slice none 0 0, .slice none 0 0, .int .i64 0, .int .i64 0] : Array Value)[i % 7]!).oneCell' = true
    rcases (show i % 7 = 0 ∨ i % 7 = 1 ∨ i % 7 = 2 ∨ i % 7 = 3 ∨ i % 7 = 4 ∨ i % 7 = 5 ∨ i % 7 = 6 by omega) with e | e | e | e | e | e | e <;> rw [e] <;> rfl
  rw [hzs] at hl
  refine ⟨zs, ?_⟩
  have hst := run_storeCells_cells (P := Tryz.prog) g o zs 0 w (by intro j hj; rw [Nat.add_zero]; exact hc j (by omega)) (by intro j hj; rw [Nat.add_zero]; exact hf j (by omega)) h1
  simp only [Nat.add_zero] at hst
  obtain ⟨q, rfl⟩ : ∃ q, m = q + 1 := ⟨m - 1, by omega⟩
  simp [Builtin.clear_, run_underlying Tryz.underlying45, hzs, hst]

set_option maxHeartbeats 1000000 in
theorem strIdx (ad : Option Addr) (n cap : Nat) (DV QV : Nat → Value) (H : Nat → Hp) (w : World) (hn : n * 88 ≤ 140737488351232) (h : n = 0 ∨ ∃ g w0, ad = some ⟨g, 0, none⟩ ∧ HRow w0 w g n DV QV H) :
    Calls Tryz.prog 109 #[.slice ad n cap, .func (.func 78) #[] #[]] w fun e w' => Below w.heap.size w w' ∧ ∃ r : Int, e = .returned (.int .i64 r) ∧ ((r = -1 ∧ ∀ j, j < n → (H j).kd ≠ 5) ∨ ∃ i : Nat, i < n ∧ r = (i : Int) ∧ ∀ j, j < i → (H j).kd ≠ 5) := by
  have HH := hid h
  clear h
  go_enter Tryz.func109, Tryz.ntmps109
  go_wp2
  go_loopw [8] (fun iv wr => ∃ i : Nat, i ≤ n ∧ iv = .int .i64 i ∧ Hid (Below w.heap.size w wr) ∧ Hid (∀ j, j < i → (H j).kd ≠ 5)) (fun iv _ => n - (intOf iv).toNat)
  case atStart => exact ⟨0, Nat.zero_le _, rfl, Below.refl _ _, fun j hj => absurd hj (Nat.not_lt_zero _)⟩
  case round =>
    obtain ⟨i, hi, rfl, HB, HN⟩ := hrel
    by_cases hlt : i < n
    · have hii : (i : Int) < (n : Int) := by omega
      rcases HH.out with h0 | ⟨g, w0, rfl, hr⟩
      · omega
      obtain ⟨x0, x1, x2, x3, x4, x5, x6⟩ := (hr.up HB.out).seven hlt
      obtain ⟨x, hx⟩ : ∃ x, H i = x := ⟨_, rfl⟩
      obtain ⟨vd, hvd⟩ : ∃ x, DV i = x := ⟨_, rfl⟩
      obtain ⟨vp, hvp⟩ : ∃ x, QV i = x := ⟨_, rfl⟩
      rw [hx] at x0 x1 x2 x5 x6
      rw [hvd] at x3
      rw [hvp] at x4
      have CB := hid (strBend x vd vp wr)
      unfold hapV at CB
      have HX := hid hx
      clear hr hx hvd hvp
      go_wp2_with fail
      refine Calls.mono CB.out ?_
      rintro e w2 ⟨rfl, hb⟩
      have HB2 := hid (HB.out.trans (hb.mono HB.out.size))
      clear hb CB x0 x1 x2 x3 x4 x5 x6
      by_cases h5 : x.kd = 5
      · rw [decide_eq_true h5]
        clear h5
        go_wp2
        go_ret
        exact ⟨HB2.out, _, rfl, Or.inr ⟨i, hlt, rfl, HN.out⟩⟩
      · rw [decide_eq_false h5]
        have HN2 : Hid (∀ j, j < i + 1 → (H j).kd ≠ 5) := fun j hj => by
          by_cases e : j = i
          · rw [e, HX.out]; exact h5
          · exact HN.out j (by omega)
        clear h5
        go_wp2
        go_roundw
        case rel => exact ⟨i + 1, by omega, by go_num, HB2, HN2⟩
        case measure => simp only [intOf]; omega
    · have hie : n = i := by omega
      subst hie
      have hjn : ¬ (n : Int) < (n : Int) := by omega
      go_wp2
      go_ret
      exact ⟨HB.out, _, rfl, Or.inl ⟨rfl, HN.out⟩⟩

theorem hap_from (g n cap k : Nat) (hk : k < n) (hc : n ≤ cap) (w' : World) : (Instr.slice 45 (.slice (some ⟨g, 0, none⟩) n cap) (some (.int .i64 (k : Int))) none none).run Tryz.prog w' = .ok (.slice (some ⟨g, k * 7, none⟩) (n - k) (cap - k)) w' := by
  have ht : Tryz.prog.underlying 45 = some (.slice (Tryz.prog.elem 45)) := by kernel_rfl
  have hs : (sizeOf (Tryz.prog.elem 45)).run Tryz.prog w' = .ok 7 w' := by kernel_rfl
  have h := run_slice_l (w := w') 45 (some ⟨g, 0, none⟩) n cap ht .i64 (k : Int) (by omega) (by omega)
  rw [h, hs]
  simp [Result.andThen, sliced, show ¬ cap = k by omega, Addr.add]
  intro h0
  omega

set_option maxHeartbeats 4000000 in
set_option maxRecDepth 10000 in
theorem strDel (w : World) (g n cap : Nat) (DV QV : Nat → Value) (H : Nat → Hp) (wr : World) (hcap : n ≤ cap ∧ cap ≤ maxLen) (hn : n * 88 ≤ 140737488351232) (h : HRow w wr g n DV QV H) (hA : ∀ j, j < n → HpAt w w.heap.size (H j) (DV j) (QV j)) :
    Calls Tryz.prog 76 #[.slice (some ⟨g, 0, none⟩) n cap, .func (.func 78) #[] #[]] wr fun e w' => ∃ m : Nat, e = .returned (.slice (some ⟨g, 0, none⟩) m cap) ∧ m ≤ n ∧ ∃ ix : Nat → Nat,
      HRow w w' g m (fun p => DV (ix p)) (fun p => QV (ix p)) (fun p => H (ix p)) ∧ ∀ p, p < m → ix p < n ∧ (H (ix p)).kd ≠ 5 := by
  obtain ⟨hc1, hc2⟩ := hcap
  unfold maxLen at hc2
  have CI := hid (strIdx (some ⟨g, 0, none⟩) n cap DV QV H wr hn (Or.inr ⟨g, w, rfl, h⟩))
  have HR := hid h
  have HA := hid hA
  clear h hA
  go_enter Tryz.func76, Tryz.ntmps76
  go_wp2_with fail
  refine Calls.mono CI.out ?_
  rintro e w2 ⟨hb, r, rfl, hr⟩
  have R2 := hid (HR.out.up hb)
  clear hb CI HR
  rcases hr with ⟨rfl, hno⟩ | ⟨i, hin, rfl, hno⟩
  · have HNo := hid hno
    clear hno
    go_wp2
    go_ret
    exact ⟨n, rfl, Nat.le_refl _, fun p => p, R2.out, fun p hp => ⟨hp, HNo.out p hp⟩⟩
  · have hne : ((i : Int) == -1) = false := by rw [beq_eq_false_iff_ne]; omega
    have HNo := hid hno
    obtain ⟨I, hI⟩ : ∃ I : Nat → Nat, ∀ p, I p = p := ⟨fun p => p, fun _ => rfl⟩
    have J0 : Hid (HRow w w2 g n (fun p => DV (I p)) (fun p => QV (I p)) (fun p => H (I p))) := R2.out.congr fun p _ => by simp only [hI]; exact ⟨trivial, trivial, trivial⟩
    have L0 : Hid ((∀ p, p < i → I p < n ∧ (H (I p)).kd ≠ 5) ∧ ∀ p, i + 1 ≤ p → p < n → I p = p) := ⟨fun p hp => by rw [hI]; exact ⟨by omega, hno p hp⟩, fun p _ _ => hI p⟩
    have hi9 : (i : Int) + 1 ≤ 9223372036854775807 := by omega
    clear hno R2 hI
    go_wp2
    go_loopw [5, 6] (fun iv jv w' => ∃ (k j : Nat) (ix : Nat → Nat), k < j ∧ j ≤ n ∧ iv = .int .i64 k ∧ jv = .int .i64 j ∧ Hid (HRow w w' g n (fun p => DV (ix p)) (fun p => QV (ix p)) (fun p => H (ix p))) ∧ Hid ((∀ p, p < k → ix p < n ∧ (H (ix p)).kd ≠ 5) ∧ ∀ p, j ≤ p → p < n → ix p = p)) (fun _ jv _ => n - (intOf jv).toNat)
    case atStart => exact ⟨i, i + 1, I, by omega, by omega, rfl, by go_num, J0, L0⟩
    case round =>
      obtain ⟨k, j, ix, hkj, hj, rfl, rfl, J, L⟩ := hrel
      by_cases hlt : j < n
      · have hjj : (j : Int) < (n : Int) := by omega
        have hkk : (k : Int) < (n : Int) := by omega
        have hxj := L.out.2 j (Nat.le_refl _) hlt
        have hs := J.out.seven hlt
        simp only [hxj] at hs
        obtain ⟨x0, x1, x2, x3, x4, x5, x6⟩ := hs
        obtain ⟨x, hx⟩ : ∃ x, H j = x := ⟨_, rfl⟩
        obtain ⟨vd, hvd⟩ : ∃ x, DV j = x := ⟨_, rfl⟩
        obtain ⟨vp, hvp⟩ : ∃ x, QV j = x := ⟨_, rfl⟩
        rw [hx] at x0 x1 x2 x5 x6
        have hA := HA.out j hlt
        rw [hx, hvd, hvp] at hA
        rw [hvd] at x3
        rw [hvp] at x4
        obtain ⟨⟨avd, cvd, e1, _, _⟩, ⟨avp, cvp, e2, _, _⟩⟩ := hA
        subst e1 e2
        obtain ⟨V, bx, hV, hbx, ⟨p0, p1, p2, p3, p4, p5, p6⟩, ⟨r0, r1, r2, r3, r4, r5, r6⟩, U, hU, hbA, kx⟩ := hap_boxed wr x (.slice avd x.len cvd) (.slice avp x.lp cvp)
        have CB := hid (strBend x (.slice avd x.len cvd) (.slice avp x.lp cvp) U)
        unfold hapV at CB
        have KX := hid kx
        obtain ⟨y0, y1, y2, y3, y4, y5, y6⟩ := seven_atC kx
        have JA := hid (J.out.up hbA)
        have HX := hid hx
        have HVd := hid hvd
        have HVp := hid hvp
        clear hbA kx hx hvd hvp hxj
        go_wp2_with fail
        refine Calls.mono CB.out ?_
        rintro e w3 ⟨rfl, hb⟩
        have J3 := hid (JA.out.up hb)
        have k3 := stayB KX.out hb
        clear hb CB x0 x1 x2 x3 x4 x5 x6 y0 y1 y2 y3 y4 y5 y6 p0 p1 p2 p3 p4 p5 p6 r0 r1 r2 r3 r4 r5 r6 hU JA hbx hV
        obtain ⟨y0, y1, y2, y3, y4, y5, y6⟩ := seven_atC k3
        clear k3
        by_cases h5 : x.kd = 5
        · rw [decide_eq_true h5]
          clear h5
          have L3 : Hid ((∀ p, p < k → ix p < n ∧ (H (ix p)).kd ≠ 5) ∧ ∀ p, j + 1 ≤ p → p < n → ix p = p) := ⟨L.out.1, fun p h1 h2 => L.out.2 p (by omega) h2⟩
          go_wp2
          go_roundw
          case rel => exact ⟨k, j + 1, ix, by omega, by omega, by first | rfl | go_num, by go_num, J3, L3⟩
          case measure => simp only [intOf]; omega
        · rw [decide_eq_false h5]
          have hkn : k < n := by omega
          have J4 := hid (J3.out.set (x := x) (vd := .slice avd x.len cvd) (vp := .slice avp x.lp cvp) hkn)
          have J5 : Hid (HRow w (setH w3 g (k * 7) x (.slice avd x.len cvd) (.slice avp x.lp cvp)) g n (fun p => DV (if p = k then j else ix p)) (fun p => QV (if p = k then j else ix p)) (fun p => H (if p = k then j else ix p))) := J4.out.congr fun p hp => by
            by_cases e : p = k
            · simp only [if_pos e]; exact ⟨HVd.out.symm, HVp.out.symm, HX.out.symm⟩
            · simp only [if_neg e]; exact ⟨trivial, trivial, trivial⟩
          have L5 : Hid ((∀ p, p < k + 1 → (if p = k then j else ix p) < n ∧ (H (if p = k then j else ix p)).kd ≠ 5) ∧ ∀ p, j + 1 ≤ p → p < n → (if p = k then j else ix p) = p) := ⟨fun p hp => by
            by_cases e : p = k
            · rw [if_pos e, HX.out]; exact ⟨hlt, h5⟩
            · rw [if_neg e]; exact L.out.1 p (by omega), fun p h1 h2 => by
            rw [if_neg (by omega)]; exact L.out.2 p (by omega) h2⟩
          obtain ⟨z0, z1, z2, z3, z4, z5, z6⟩ := J3.out.seven hkn
          have r0 := J3.out.free (k * 7)
          have r1 := J3.out.free (k * 7 + 1)
          have r2 := J3.out.free (k * 7 + 2)
          have r3 := J3.out.free (k * 7 + 3)
          have r4 := J3.out.free (k * 7 + 4)
          have r5 := J3.out.free (k * 7 + 5)
          have r6 := J3.out.free (k * 7 + 6)
          unfold setH at J5
          clear h5 J4
          go_wp2
          go_roundw
          case rel => exact ⟨k + 1, j + 1, _, by omega, by omega, by go_num, by go_num, J5, L5⟩
          case measure => simp only [intOf]; omega
      · have hje : n = j := by omega
        subst hje
        have hjn : ¬ (n : Int) < (n : Int) := by omega
        have hf := hap_from g n cap k hkj hc1
        obtain ⟨zs, hzs⟩ := clear_hap wr g (k * 7) (n - k) (cap - k) (by omega) (fun q hq => by
          have h9 := J.out.at_ (p := (k * 7 + q) / 7) (r := (k * 7 + q) % 7) (by omega) (Nat.mod_lt _ (by omega)) (u := (hapC (H (ix ((k * 7 + q) / 7))) (DV (ix ((k * 7 + q) / 7))) (QV (ix ((k * 7 + q) / 7)))).getD ((k * 7 + q) % 7) undef) (by
            have h7 : (k * 7 + q) % 7 < 7 := Nat.mod_lt _ (by omega)
            rw [List.getD_eq_getElem?_getD, List.getElem?_eq_getElem (by simpa [hapC] using h7)]; rfl)
          rw [show (k * 7 + q) / 7 * 7 + (k * 7 + q) % 7 = k * 7 + q by omega] at h9
          rw [h9.1]; rfl) (fun q hq => J.out.free _)
        have J9 := hid (J.out.cut (k := k) (zs := zs) (by omega))
        have hkc : (k : Int) ≤ (cap : Int) := by omega
        go_wp2
        go_ret
        exact ⟨k, rfl, by omega, ix, J9.out, L.out.1⟩

end Go.Proofs.YtajmnlhfnhbleaaGreat
