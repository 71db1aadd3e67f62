/- The law ShareBegins, of a package that does what it owes. -/
import Derived.Test.YtfcpmpcfbhkacaaShareKit
namespace Go.Proofs.Ytfcpmpcfbhkacaa
open Go.RowKit CurveMath
set_option linter.unusedVariables false

set_option maxHeartbeats 1000000 in
theorem shareBegins_of (hO : Owes) (nd of sz : Int) (a1 : Option Addr) (n cap1 : Nat) (D : Nat → Int) (w : World) (w1 : SlArg w a1 n cap1 D) :
    Calls Try.prog 7 #[planV nd of sz, .slice a1 n cap1] w fun e w' => e = .returned (.bool true) ∧ Below w.heap.size w w' := by
  have hbx := below_alloc w (.cells #[.int .i64 nd, .int .i64 of, .int .i64 sz] 23)
  have i1 := w1.isl.up hbx
  have HS := hid (hO.split nd of sz _ n D _ i1)
  have HP := hid (parted_up hO (w0 := w))
  have hsl := w1.isl
  unfold planV
  go_enter Try.func7, Try.ntmps7
  go_wp2_with fail
  refine HS.out.mono ?_
  rintro e w2 ⟨hb2, r, m, V, rfl, hm, hs, _, _⟩
  have B2 : Below w.heap.size w w2 := hbx.trans (hb2.mono hbx.size)
  have p0 : w2.cell? ⟨w.heap.size, 0, none⟩ = some (.int .i64 nd) := by rw [hb2.cell (by simp)]; exact cell_at (heap_alloc_new _ _) rfl
  have p1 : w2.cell? ⟨w.heap.size, 1, none⟩ = some (.int .i64 of) := by rw [hb2.cell (by simp)]; exact cell_at (heap_alloc_new _ _) rfl
  have p2 : w2.cell? ⟨w.heap.size, 2, none⟩ = some (.int .i64 sz) := by rw [hb2.cell (by simp)]; exact cell_at (heap_alloc_new _ _) rfl
  have KP : Hid (∀ w', Below w2.heap.size w2 w' → w'.cell? ⟨w.heap.size, 0, none⟩ = some (.int .i64 nd) ∧ w'.cell? ⟨w.heap.size, 1, none⟩ = some (.int .i64 of) ∧ w'.cell? ⟨w.heap.size, 2, none⟩ = some (.int .i64 sz)) := fun w' hb' =>
    ⟨by rw [hb'.cell (cell_lt p0)]; exact p0, by rw [hb'.cell (cell_lt p1)]; exact p1, by rw [hb'.cell (cell_lt p2)]; exact p2⟩
  clear p0 p1 p2
  have HB2 := hid B2
  by_cases he : splitE nd of sz n D = 0
  · rw [if_pos he] at hm
    rw [he]
    obtain ⟨hp, hsz, hD⟩ := splitE_ok he
    obtain ⟨hnd, hof, hsz2⟩ := planOk_spec hp
    have hrw := rowsN_bd hnd hsz2
    have hl := hO.long nd of sz
    have e2 : longP nd of sz = rowsN nd sz := by unfold longP; rw [if_pos hp]
    rw [e2] at hl
    obtain ⟨d, rfl⟩ : ∃ d : Nat, nd = d := ⟨nd.toNat, by omega⟩
    subst hsz
    subst hm
    obtain ⟨R, hR⟩ : ∃ R : Nat, rowsN (d : Int) (n : Int) = R := ⟨_, rfl⟩
    rw [hR] at hl hrw hs
    clear e2 hR hp he
    have HL : Hid (∀ w', Below w2.heap.size w2 w' → Calls Try.prog 19 #[.agg #[.int .i64 (d : Int), .int .i64 (m : Int), .int .i64 (n : Int)]] w' fun e w'' => e = .returned (.int .i64 (R : Int)) ∧ Below w2.heap.size w2 w'') := fun w' hb' =>
      (hl w').mono fun e w'' ⟨he, hb⟩ => ⟨he, hb'.trans (hb.mono hb'.size)⟩
    have HP2 := hid (parted_up hO (w0 := w2))
    have hd0 : 1 ≤ d ∧ d ≤ 4 := by omega
    have hp1 : (0 : Int) ≤ (R : Int) * (d : Int) ∧ (R : Int) * (d : Int) ≤ 27 := ⟨Int.mul_nonneg (by omega) (by omega), by omega⟩
    have hp2 : (0 : Int) ≤ ((R : Int) - 1) * (d : Int) ∧ ((R : Int) - 1) * (d : Int) ≤ 27 := ⟨Int.mul_nonneg (by omega) (by omega), by omega⟩
    have hc1 : decide ((R : Int) * (d : Int) < (n : Int)) = false := decide_eq_false (by omega)
    have hc2 : decide ((n : Int) ≤ ((R : Int) - 1) * (d : Int)) = false := decide_eq_false (by omega)
    have HRW := hid hrw
    have hRb : 1 ≤ R ∧ R ≤ 24 := by omega
    obtain ⟨ad, cap, rfl, ⟨hcap, _⟩, hs⟩ := hs
    rcases hs with h0 | ⟨b, off, rfl, hbl, hj⟩
    · omega
    have HJ := hid hj
    have HD := hid hD
    have HO := hid hO
    have HI := hid (hsl.up B2)
    clear hj hD hO hsl w1 HS HP hl hrw hb2 i1 hbx B2
    go_wp2_with (first
      | (go_at_call 16; go_must (refine (HP2.out _ (Below.refl _ _)).mono ?_; rintro e w3 ⟨rfl, hb3⟩; obtain ⟨p0, p1, p2⟩ := KP.out w3 hb3; have HB3 := hid hb3; clear hb3))
      | (go_at_call 19; go_must (refine (HL.out _ HB3.out).mono ?_; rintro e w4 ⟨rfl, hb4⟩; obtain ⟨p0, p1, p2⟩ := KP.out w4 hb4; have HB4 := hid hb4; clear hb4)))
    obtain ⟨ad1, cp1, hsl1, ⟨hcp1, _⟩, hdat⟩ := HI.out
    injection hsl1 with hsl1 _ hsl2
    subst hsl1 hsl2
    rcases hdat with h0 | ⟨bd, od, rfl, hbd, hdat⟩
    · omega
    have HDat := hid hdat
    clear hdat
    go_loopw [46] (fun i wr => ∃ k q : Nat, k ≤ n ∧ i = .int .i64 k ∧ wr = w4.drewN q) (fun i _ => n - (intOf i).toNat)
    case atStart => exact ⟨0, 0, Nat.zero_le _, rfl, rfl⟩
    case round =>
      obtain ⟨k, q, hk, rfl, hwr⟩ := hrel
      have HWr := hid hwr
      by_cases hlt : k < n
      · have hki : (k : Int) < (n : Int) := by omega
        have hB4 : Below w2.heap.size w2 wr := HWr.out ▸ HB4.out.trans ⟨rfl, rfl, rfl, Nat.le_refl _, fun _ _ => rfl⟩
        obtain ⟨p0, p1, p2⟩ := KP.out wr hB4
        have gd : wr.cell? ⟨bd, od + k, none⟩ = some (.int .i64 (D k)) := by rw [hB4.cell hbd]; exact HDat.out k hlt
        have hmod : k % d < m := by have := Nat.mod_lt k (show d > 0 by omega); omega
        obtain ⟨_, hg2, hg3⟩ := HJ.out (k % d) hmod
        obtain ⟨av, cv, hve, _, hv⟩ := hg3
        rcases hv with h0 | ⟨bv, ov, rfl, hbv, hv⟩
        · omega
        have hdiv : k / d < R := by
          have h1 := HRW.out.1
          rcases Nat.lt_or_ge (k / d) R with h | h
          · exact h
          · exfalso
            have h2 : R * d ≤ k / d * d := Nat.mul_le_mul_right d h
            have h3 := Nat.div_mul_le_self k d
            have h4 : ((R * d : Nat) : Int) = (R : Int) * (d : Int) := by simp
            omega
        have gv : wr.cell? ⟨b, off + k % d * 2 + 1, none⟩ = some (.slice (some ⟨bv, ov, none⟩) R cv) := by rw [hB4.cell (cell_lt hg2), hg2, hve]
        have gw : wr.cell? ⟨bv, ov + k / d, none⟩ = some (.int .i64 (D k)) := by
          rw [hB4.cell hbv, hv (k / d) hdiv]
          have e := shv_first (d := d) (n := n) (D := D) (by omega) HD.out k hlt
          show some (Value.int .i64 (shv ((d : Int)).toNat n D (k % d) (k / d))) = _
          rw [Int.toNat_natCast, e]
        have hdi : 0 ≤ (k : Int) / (d : Int) ∧ (k : Int) / (d : Int) < (R : Int) := by
          rw [show (k : Int) / (d : Int) = ((k / d : Nat) : Int) by simp]
          exact ⟨Int.natCast_nonneg _, lt_nat hdiv⟩
        clear hwr hg2 hv hB4
        go_wp2
        go_quiet (fail)
        go_wp2
        go_roundw
        case rel => exact ⟨k + 1, q + nq, by omega, by go_num, by rw [HWr.out]; simp⟩
        case measure => simp only [intOf]; omega
      · have he : k = n := by omega
        subst he
        clear hwr
        go_wp2
        have HBr : Hid (Below w2.heap.size w2 wr) := HWr.out ▸ HB4.out.trans ⟨rfl, rfl, rfl, Nat.le_refl _, fun _ _ => rfl⟩
        go_loopw [70] (fun i wq => ∃ j : Nat, j ≤ m ∧ i = .int .i64 j ∧ Hid (Below w2.heap.size w2 wq)) (fun i _ => m - (intOf i).toNat)
        case atStart => exact ⟨0, Nat.zero_le _, rfl, HBr⟩
        case round =>
          obtain ⟨j, hj, rfl, HQ⟩ := hrel
          by_cases hjm : j < m
          · have hji : (j : Int) < (m : Int) := by omega
            obtain ⟨hg1, hg2, hg3⟩ := HJ.out j hjm
            obtain ⟨av, cv, hve, _, _⟩ := hg3
            have g1 : wr.cell? ⟨b, off + j * 2, none⟩ = some (.int .i64 (j : Int)) := by rw [HQ.out.cell (cell_lt hg1), hg1]
            have g2 : wr.cell? ⟨b, off + j * 2 + 1, none⟩ = some (.slice av R cv) := by rw [HQ.out.cell (cell_lt hg2), hg2, hve]
            clear hg1 hg2
            go_wp2
            go_roundw
            case rel => exact ⟨j + 1, by omega, by go_num, HQ.out.alloc HQ.out.size _⟩
            case measure => simp only [intOf]; omega
          · have hjm2 : j = m := by omega
            subst hjm2
            go_wp2
            go_ret
            exact ⟨rfl, HB2.out.trans (HQ.out.mono HB2.out.size)⟩
  · have hne : (splitE nd of sz n D != 0) = true := by simpa using he
    generalize splitE nd of sz n D = c at *
    clear hm hs he
    go_wp2_with (go_at_call 16; go_must (refine (HP.out _ HB2.out).mono ?_; rintro e w3 ⟨rfl, hb3⟩; have HB2 := hid hb3; clear hb3))
    go_ret
    exact ⟨rfl, HB2.out⟩

end Go.Proofs.Ytfcpmpcfbhkacaa
