/- What chapter 3's reference answers: plans, rows, shares, and whether two are alike. -/
import Derived.Test.YtcdaknionmffgacShareKit
namespace Go.Proofs.Ytcdaknionmffgac
open Go.RowKit CurveMath
set_option linter.unusedVariables false

/-- rows: so many are wanted, and no more -/
theorem rowsN_uniq {d n r : Nat} (hd : 1 ≤ d ∧ d ≤ 4) (h1 : n ≤ r * d) (h2 : r * d < n + d) : rowsN (d : Int) (n : Int) = r := by
  unfold rowsN
  rcases (show d = 1 ∨ d = 2 ∨ d = 3 ∨ d = 4 by omega) with rfl | rfl | rfl | rfl <;> omega

/-- numbers from place k on, m of them -/
def numsFrom (X : Nat → Int) (n k : Nat) : Bool := decide (∀ j, j < n → k ≤ j → isNum (X j) = true)

theorem numsFrom_zero (X : Nat → Int) (n : Nat) : numsFrom X n 0 = numsB n X := by
  unfold numsFrom numsB
  rw [decide_eq_decide]
  exact ⟨fun h j hj => h j hj (Nat.zero_le _), fun h j hj _ => h j hj⟩

theorem numsFrom_bad {X : Nat → Int} {n k : Nat} {b : Bool} (hk : k < n) (h : numsFrom X n k = b) (hb : isNum (X k) = false) : b = false := by
  rw [← h]
  refine decide_eq_false fun h1 => ?_
  have := h1 k hk (Nat.le_refl _)
  rw [hb] at this
  cases this

theorem numsFrom_next {X : Nat → Int} {n k : Nat} {b : Bool} (h : numsFrom X n k = b) (hb : isNum (X k) = true) : numsFrom X n (k + 1) = b := by
  rw [← h]
  unfold numsFrom
  rw [decide_eq_decide]
  constructor
  · intro h1 j hjn hj
    by_cases e : j = k
    · rw [e]; exact hb
    · exact h1 j hjn (by omega)
  · intro h1 j hjn hj
    exact h1 j hjn (by omega)

theorem numsFrom_end {X : Nat → Int} {n : Nat} {b : Bool} (h : numsFrom X n n = b) : b = true := by
  rw [← h]
  exact decide_eq_true fun j h1 h2 => by omega

end Go.Proofs.Ytcdaknionmffgac
