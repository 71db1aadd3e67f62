/- What chapter 3's laws share: plans in order, rows, the first shares, sums; the closed fact in later worlds. -/
import Derived.Test.YtfcpmpcfbhkacaaShareLaw
namespace Go.Proofs.Ytfcpmpcfbhkacaa
open Go.RowKit CurveMath
set_option linter.unusedVariables false

theorem splitE_ok {nd of sz : Int} {n : Nat} {D : Nat → Int} (h : splitE nd of sz n D = 0) : planOk nd of sz = true ∧ (n : Int) = sz ∧ ∀ j, j < n → 0 ≤ D j ∧ D j ≤ 30 := by
  unfold splitE at h
  by_cases h1 : planOk nd of sz = true
  · rw [if_pos h1] at h
    by_cases h2 : (n : Int) = sz
    · rw [if_pos h2] at h
      by_cases h3 : numsB n D = true
      · refine ⟨h1, h2, fun j hj => ?_⟩
        exact (isNum_iff _).1 ((of_decide_eq_true h3) j hj)
      · rw [if_neg h3] at h; omega
    · rw [if_neg h2] at h; omega
  · rw [if_neg h1] at h; omega

/-- the curve goes through its points -/
theorem crv_own {n m : Nat} {X Y : Nat → Int} (h : Good n m X Y) (j : Nat) (hj : j < n) : crv n X Y (X j) = Y j := by
  have hm := h.same
  refine (crv_of n X Y (X j) (Y j) (h.ys j hj) ?_).symm
  unfold crvF
  exact (newt_at (fun i => toF (X i)) (fun i => toF (Y i)) n h.injF j hj).symm

theorem padD_num {n : Nat} {D : Nat → Int} (hD : ∀ j, j < n → 0 ≤ D j ∧ D j ≤ 30) (j : Nat) : 0 ≤ padD n D j ∧ padD n D j ≤ 30 := by
  unfold padD
  split
  · rename_i h; exact hD j h
  · omega

/-- a row of a content is in order -/
theorem good_row {d n : Nat} {D : Nat → Int} (hd : 1 ≤ d ∧ d ≤ 8) (hD : ∀ j, j < n → 0 ≤ D j ∧ D j ≤ 30) (r : Nat) : Good d d (fun i => (i : Int)) (fun i => padD n D (r * d + i)) :=
  ⟨rfl, hd, fun j hj => by omega, fun j hj => padD_num hD _, fun i j _ _ e => by have e2 : (i : Int) = (j : Int) := e; omega⟩

/-- the first shares have the content itself -/
theorem shv_first {d n : Nat} {D : Nat → Int} (hd : 1 ≤ d ∧ d ≤ 8) (hD : ∀ j, j < n → 0 ≤ D j ∧ D j ≤ 30) (k : Nat) (hk : k < n) : shv d n D (k % d) (k / d) = D k := by
  unfold shv
  have h := crv_own (good_row hd hD (k / d)) (k % d) (Nat.mod_lt k (by omega))
  have e : k / d * d + k % d = k := by rw [Nat.mul_comm]; exact Nat.div_add_mod k d
  rw [e] at h
  rw [h]
  unfold padD
  rw [if_pos hk]

theorem parted_up (hO : Owes) {w0 : World} (w' : World) (hb : Below w0.heap.size w0 w') :
    Calls Try.prog 16 #[] w' fun e w'' => e = .returned (.bool true) ∧ Below w0.heap.size w0 w'' :=
  (parted_any hO w').mono fun e w'' ⟨he, hb2⟩ => ⟨he, hb.trans (hb2.mono hb.size)⟩

theorem splitE_mk {nd of sz : Int} {n : Nat} {D : Nat → Int} (h1 : planOk nd of sz = true) (h2 : (n : Int) = sz) (h3 : ∀ j, j < n → 0 ≤ D j ∧ D j ≤ 30) : splitE nd of sz n D = 0 := by
  unfold splitE
  have h4 : numsB n D = true := decide_eq_true fun j hj => (isNum_iff _).2 (h3 j hj)
  rw [if_pos h1, if_pos h2, if_pos h4]

theorem shv_num (d n : Nat) (D : Nat → Int) (k r : Nat) : 0 ≤ shv d n D k r ∧ shv d n D k r ≤ 30 := crv_num _ _ _ _

/-- the shares of sums are the sums of the shares -/
theorem shv_sum {d n : Nat} {A B S : Nat → Int} (hd : 1 ≤ d ∧ d ≤ 8) (hA : ∀ j, j < n → 0 ≤ A j ∧ A j ≤ 30) (hB : ∀ j, j < n → 0 ≤ B j ∧ B j ≤ 30) (hS : ∀ j, j < n → S j = (A j + B j) % 31) (k r : Nat) :
    shv d n S k r = (shv d n A k r + shv d n B k r) % 31 := by
  unfold shv
  refine (crv_sum (good_row hd hA r) (good_row hd hB r) (fun j hj => ?_) k).2
  unfold padD
  by_cases h : r * d + j < n
  · rw [if_pos h, if_pos h, if_pos h, hS _ h]
  · rw [if_neg h, if_neg h, if_neg h]; rfl

end Go.Proofs.Ytfcpmpcfbhkacaa
