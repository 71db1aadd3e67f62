/- What chapter 2's reference answers: the check of points, and the value of their curve, in plain words of numbers modulo 31. -/
import Derived.Test.YtnmionnbndfbkacInts
import Derived.Test.YtnmionnbndfbkacField
import Derived.Test.YtnmionnbndfbkacPoly
import Derived.Test.YtnmionnbndfbkacQuietTail
namespace Go.Proofs.Ytnmionnbndfbkac
open Go.RowKit CurveMath
set_option linter.unusedVariables false

/-- is it a number? -/
def isNum (a : Int) : Bool := decide (0 ≤ a ∧ a ≤ 30)

/-- points from number k on, m of them: the first error -/
def scan (X Y : Nat → Int) : Nat → Nat → Int
  | 0, _ => 0
  | m + 1, k => if (isNum (X k) && isNum (Y k)) = false then 2 else if hasB X k (X k) = true then 5 else scan X Y m (k + 1)

/-- the check of nx x's and ny y's -/
def chk (nx ny : Nat) (X Y : Nat → Int) : Int := if nx ≠ ny then 3 else if 1 ≤ nx ∧ nx ≤ 8 then scan X Y nx 0 else 1

theorem less_any (a b : Int) (ha : 0 ≤ a ∧ a ≤ 30) (hb : 0 ≤ b ∧ b ≤ 30) (w : World) :
    Calls Try.prog 83 #[.int .i64 a, .int .i64 b] w fun e w' => e = .returned (.int .i64 ((a + 31 - b) % 31)) ∧ w' = w := by
  go_enter Try.func83, Try.ntmps83
  go_wp2
  go_ret
  exact ⟨rfl, rfl⟩

theorem in_ok (n a b : Int) (h : a ≤ n ∧ n ≤ b) (w : World) :
    Calls Try.prog 70 #[.int .i64 n, .int .i64 a, .int .i64 b] w fun e w' => e = .returned (.bool true) ∧ w' = w := by
  have hd : decide (n ≤ b) = true := decide_eq_true h.2
  go_enter Try.func70, Try.ntmps70
  go_wp2
  go_ret
  exact ⟨rfl, rfl⟩

theorem isNumber_any (a : Int) (w : World) :
    Calls Try.prog 71 #[.int .i64 a] w fun e w' => e = .returned (.bool (isNum a)) ∧ w' = w := by
  by_cases h : 0 ≤ a ∧ a ≤ 30
  · have e : isNum a = true := decide_eq_true h
    rw [e]
    exact isNumber_ok a h w
  · have e : isNum a = false := decide_eq_false h
    rw [e]
    exact isNumber_bad a h w

theorem scan_bad {X Y : Nat → Int} {n k : Nat} {e : Int} (hk : k < n) (h : scan X Y (n - k) k = e) (hb : (isNum (X k) && isNum (Y k)) = false) : e = 2 := by
  rw [show n - k = (n - k - 1) + 1 by omega] at h
  simp only [scan] at h
  rw [if_pos hb] at h
  exact h.symm

theorem scan_dup {X Y : Nat → Int} {n k : Nat} {e : Int} (hk : k < n) (h : scan X Y (n - k) k = e) (hb : (isNum (X k) && isNum (Y k)) = true) (hd : hasB X k (X k) = true) : e = 5 := by
  rw [show n - k = (n - k - 1) + 1 by omega] at h
  simp only [scan] at h
  rw [if_neg (by rw [hb]; simp), if_pos hd] at h
  exact h.symm

theorem scan_next {X Y : Nat → Int} {n k : Nat} {e : Int} (hk : k < n) (h : scan X Y (n - k) k = e) (hb : (isNum (X k) && isNum (Y k)) = true) (hd : hasB X k (X k) = false) : scan X Y (n - (k + 1)) (k + 1) = e := by
  rw [show n - k = (n - (k + 1)) + 1 by omega] at h
  simp only [scan] at h
  rw [if_neg (by rw [hb]; simp), if_neg (by rw [hd]; simp)] at h
  exact h

end Go.Proofs.Ytnmionnbndfbkac
