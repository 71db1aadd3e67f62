/- What chapter 2's reference answers: the check of points, and the value of their curve, in plain words of numbers modulo 31. -/
import Derived.Test.YtcdaknionmffgacInts
import Derived.Test.YtcdaknionmffgacField
import Derived.Test.YtcdaknionmffgacPoly
import Derived.Test.YtcdaknionmffgacQuietTail
namespace Go.Proofs.Ytcdaknionmffgac
open Go.RowKit CurveMath
set_option linter.unusedVariables false

/-- is it a number? -/
def isNum (a : Int) : Bool := decide (0 ≤ a ∧ a ≤ 30)

/-- points from number k on, m of them: the first error -/
def scan (X Y : Nat → Int) : Nat → Nat → Int
  | 0, _ => 0
  | m + 1, k => if (isNum (X k) && isNum (Y k)) = false then 2 else if hasB X k (X k) = true then 5 else scan X Y m (k + 1)

/-- the check of nx x's and ny y's -/
def chk (nx ny : Nat) (X Y : Nat → Int) : Int := if nx ≠ ny then 3 else if 1 ≤ nx ∧ nx ≤ 8 then scan X Y nx 0 else 1

theorem scan_bad {X Y : Nat → Int} {n k : Nat} {e : Int} (hk : k < n) (h : scan X Y (n - k) k = e) (hb : (isNum (X k) && isNum (Y k)) = false) : e = 2 := by
  rw [show n - k = (n - k - 1) + 1 by omega] at h
  simp only [scan] at h
  rw [if_pos hb] at h
  exact h.symm

theorem scan_dup {X Y : Nat → Int} {n k : Nat} {e : Int} (hk : k < n) (h : scan X Y (n - k) k = e) (hb : (isNum (X k) && isNum (Y k)) = true) (hd : hasB X k (X k) = true) : e = 5 := by
  rw [show n - k = (n - k - 1) + 1 by omega] at h
  simp only [scan] at h
  rw [if_neg (by rw [hb]; simp), if_pos hd] at h
  exact h.symm

theorem scan_next {X Y : Nat → Int} {n k : Nat} {e : Int} (hk : k < n) (h : scan X Y (n - k) k = e) (hb : (isNum (X k) && isNum (Y k)) = true) (hd : hasB X k (X k) = false) : scan X Y (n - (k + 1)) (k + 1) = e := by
  rw [show n - k = (n - (k + 1)) + 1 by omega] at h
  simp only [scan] at h
  rw [if_neg (by rw [hb]; simp), if_neg (by rw [hd]; simp)] at h
  exact h

end Go.Proofs.Ytcdaknionmffgac
