/- Several texts of one proof, in their order. -/
import Derived.Test.YtdhefajaekackaaBkSum18
import Derived.Test.YtdhefajaekackaaBookGrowsPart1
import Derived.Test.YtdhefajaekackaaBookGrowsPart2

/- What BookGrows leans on: slices.IsSorted, slices.ContainsFunc. -/
namespace Go.Proofs.Ytdhefajaekackaa

open Go.RowKit Go.Maps
set_option linter.unusedVariables false

/-- slices.IsSorted of a list that rises -/
theorem isSorted_rise {w : World} {v : Value} {n : Nat} {X : Nat → Int} (h : IntSl w w.heap.size v n X) (hX : ∀ i, i + 1 < n → X i < X (i + 1)) :
    Calls Try.prog 25 #[v] w fun e w' => e = .returned (.bool true) ∧ Below w.heap.size w w' := by
  obtain ⟨ad, cap, rfl, ⟨hcap, hbig⟩, hx⟩ := h
  have HX := hid hx
  have HR := hid hX
  clear hx hX
  go_enter Try.func25, Try.ntmps25
  go_wp2
  go_loopw [3] (fun iv wr => ∃ j : Nat, j ≤ n ∧ iv = .int .i64 ((j : Int) - 1) ∧ Hid (Below w.heap.size w wr)) (fun iv _ => (intOf iv + 1).toNat)
  case atStart => exact ⟨n, Nat.le_refl _, rfl, Below.refl _ _⟩
  case round =>
    obtain ⟨j, hj, rfl, HB⟩ := hrel
    by_cases h1 : j ≤ 1
    · have hj1 : ¬ 0 < (j : Int) - 1 := by omega
      clear h1
      go_wp2
      go_ret
      exact ⟨rfl, HB.out⟩
    · obtain ⟨y, rfl⟩ : ∃ y, j = y + 1 + 1 := ⟨j - 2, by omega⟩
      have hy : ((y + 1 + 1 : Nat) : Int) - 1 = ((y + 1 : Nat) : Int) := by omega
      rw [hy]
      rcases HX.out with h0 | ⟨b1, o1, rfl, hb1, hx⟩
      · omega
      have g0 : wr.cell? ⟨b1, o1 + y, none⟩ = some (.int .i64 (X y)) := by rw [HB.out.cell hb1]; exact hx y (by omega)
      have g1 : wr.cell? ⟨b1, o1 + (y + 1), none⟩ = some (.int .i64 (X (y + 1))) := by rw [HB.out.cell hb1]; exact hx (y + 1) (by omega)
      have hlt := HR.out y (by omega)
      have hyn : ((y : Int) + 1) < (n : Int) := by omega
      have hyn2 : (y : Int) < (n : Int) := by omega
      have HC : Hid (∀ w : World, Calls Try.prog 68 #[.int .i64 (X (y + 1)), .int .i64 (X y)] w fun e w' => e = .returned (.bool false) ∧ w' = w) := fun w => by
        have h := Try.cmp_Less_int2 (X (y + 1)) (X y) w
        rw [decide_eq_false (by omega)] at h
        exact h
      have hpos : 0 < ((y + 1 : Nat) : Int) := by omega
      clear hy h1 hx hlt
      go_wp2
      go_quiet ((go_at_call 68; exact Calls.quiet_of_same (HC.out _)))
      go_wp2
      go_roundw
      case rel => exact ⟨y + 1, by omega, by go_num, HB.out.trans ⟨rfl, rfl, rfl, Nat.le_refl _, fun _ _ => rfl⟩⟩
      case measure => simp only [intOf]; omega

/-- is it in the set? -/
theorem askGrows (bx g m n : Nat) (S : Nat → Bool) (k : Nat) (hk : k ≤ 1000) (w : World) (hx : w.cell? ⟨bx, 0, none⟩ = some (.map (some g))) (hc : SetM w g m n S) :
    Calls Try.prog 27 #[.int .i64 (k : Int), .pointer (some ⟨bx, 0, none⟩)] w fun e w' => e = .returned (.bool (!S k)) ∧ Below w.heap.size w w' := by
  have hrun := hc.look hk
  clear hc
  go_enter Try.func27, Try.ntmps27
  go_wp2
  go_ret
  exact ⟨rfl, Below.refl _ _⟩

set_option maxHeartbeats 1000000 in
theorem indexFunc_grows (bx : Nat) (v : Value) (m : Nat) (X : Nat → Int) (p : Nat → Bool) (w : World) (h : IntSl w w.heap.size v m X)
    (hp : ∀ i, i < m → ∀ w', Below w.heap.size w w' → Calls Try.prog 27 #[.int .i64 (X i), .pointer (some ⟨bx, 0, none⟩)] w' fun e w'' => e = .returned (.bool (p i)) ∧ Below w'.heap.size w' w'') :
    Calls Try.prog 69 #[v, .func (.func 27) #[] #[.pointer (some ⟨bx, 0, none⟩)]] w fun e w' => ∃ r : Int, e = .returned (.int .i64 r) ∧ decide (0 ≤ r) = anyB p m 0 ∧ Below w.heap.size w w' := by
  obtain ⟨ad, cap, rfl, ⟨hc, hr⟩, hx⟩ := h
  obtain ⟨ans, hans⟩ : ∃ ans, anyB p m 0 = ans := ⟨_, rfl⟩
  rw [hans]
  have HA := hid hans
  have HX := hid hx
  have HP := hid hp
  clear hans hx hp
  go_enter Try.func69, Try.ntmps69
  go_wp2
  go_loopw [8] (fun iv wr => ∃ i : Nat, i ≤ m ∧ iv = .int .i64 i ∧ Hid (Below w.heap.size w wr) ∧ Hid (anyB p (m - i) i = ans)) (fun iv _ => m - (intOf iv).toNat)
  case atStart => exact ⟨0, Nat.zero_le _, rfl, Below.refl _ _, HA⟩
  case round =>
    obtain ⟨i, hi, rfl, HB, HS⟩ := hrel
    by_cases hlt : i < m
    · have hii : (i : Int) < (m : Int) := by omega
      rcases HX.out with h0 | ⟨b1, o1, rfl, hb1, hx⟩
      · omega
      have g0 : wr.cell? ⟨b1, o1 + i, none⟩ = some (.int .i64 (X i)) := by rw [HB.out.cell hb1]; exact hx i hlt
      have hstep := HS.out
      rw [show m - i = (m - (i + 1)) + 1 by omega] at hstep
      simp only [anyB] at hstep
      have HC := hid (HP.out i hlt wr HB.out)
      clear hx
      cases hpi : p i with
      | true =>
        rw [hpi, Bool.true_or] at hstep
        rw [hpi] at HC
        have HSt := hid hstep
        clear hstep hpi
        go_wp2_with fail
        refine Calls.mono HC.out ?_
        rintro e w2 ⟨rfl, hb2⟩
        have HB2 := hid (HB.out.trans (hb2.mono HB.out.size))
        clear hb2
        go_wp2
        go_ret
        exact ⟨_, rfl, by rw [← HSt.out]; exact decide_eq_true (by omega), HB2.out⟩
      | false =>
        rw [hpi, Bool.false_or] at hstep
        rw [hpi] at HC
        have HSt := hid hstep
        clear hstep hpi
        go_wp2_with fail
        refine Calls.mono HC.out ?_
        rintro e w2 ⟨rfl, hb2⟩
        have HB2 := hid (HB.out.trans (hb2.mono HB.out.size))
        clear hb2
        go_wp2
        go_roundw
        case rel => exact ⟨i + 1, by omega, by go_num, HB2, HSt⟩
        case measure => simp only [intOf]; omega
    · have hie : m = i := by omega
      subst hie
      have hst := HS.out
      rw [Nat.sub_self] at hst
      have HFin : Hid (false = ans) := hst
      clear hst
      go_wp2
      go_ret
      exact ⟨_, rfl, by rw [← HFin.out]; decide, HB.out⟩

theorem containsFunc_grows (bx : Nat) (v : Value) (m : Nat) (X : Nat → Int) (p : Nat → Bool) (w : World) (h : IntSl w w.heap.size v m X)
    (hp : ∀ i, i < m → ∀ w', Below w.heap.size w w' → Calls Try.prog 27 #[.int .i64 (X i), .pointer (some ⟨bx, 0, none⟩)] w' fun e w'' => e = .returned (.bool (p i)) ∧ Below w'.heap.size w' w'') :
    Calls Try.prog 26 #[v, .func (.func 27) #[] #[.pointer (some ⟨bx, 0, none⟩)]] w fun e w' => e = .returned (.bool (anyB p m 0)) ∧ Below w.heap.size w w' := by
  have HI := hid (indexFunc_grows bx v m X p w h hp)
  obtain ⟨ad, cap, rfl, _, _⟩ := h
  clear hp
  go_enter Try.func26, Try.ntmps26
  go_wp2_with fail
  refine HI.out.mono ?_
  rintro e w2 ⟨r, rfl, hd, hb⟩
  have HB := hid hb
  have HD := hid hd
  clear hb hd
  go_wp2
  go_ret
  exact ⟨by rw [← HD.out]; simp, HB.out⟩

theorem anyB_none (p : Nat → Bool) (f i : Nat) (h : ∀ j, i ≤ j → j < i + f → p j = false) : anyB p f i = false := by
  cases hh : anyB p f i with
  | false => rfl
  | true =>
    obtain ⟨j, h1, h2, h3⟩ := (anyB_iff p f i).1 hh
    rw [h j h1 h2] at h3
    cases h3

/-- all of a list are in the set -/
theorem containsFunc_all (bx g m n : Nat) (S : Nat → Bool) (v : Value) (l : List Int) (w : World) (h : IntSl w w.heap.size v l.length (fun j => l.getD j 0)) (hx : w.cell? ⟨bx, 0, none⟩ = some (.map (some g))) (hc : SetM w g m n S) (hl : ∀ j, j < l.length → ∃ y : Nat, l.getD j 0 = (y : Int) ∧ y ≤ 1000 ∧ S y = true) :
    Calls Try.prog 26 #[v, .func (.func 27) #[] #[.pointer (some ⟨bx, 0, none⟩)]] w fun e w' => e = .returned (.bool false) ∧ Below w.heap.size w w' := by
  have h1 := containsFunc_grows bx v l.length (fun j => l.getD j 0) (fun _ => false) w h (fun i hi w' hb => by
    obtain ⟨y, e, hy, hS⟩ := hl i hi
    have h2 := askGrows bx g m n S y hy w' (by rw [hb.cell (cell_lt hx)]; exact hx) (hc.up hb)
    rw [hS] at h2
    rw [e]
    exact h2)
  rw [anyB_none _ _ _ (fun _ _ _ => rfl)] at h1
  exact h1

end Go.Proofs.Ytdhefajaekackaa
