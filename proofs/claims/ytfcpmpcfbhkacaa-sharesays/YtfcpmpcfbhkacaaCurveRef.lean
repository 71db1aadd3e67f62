/- What chapter 2's reference answers: the check of points, and the value of their curve, in plain words of numbers modulo 31. -/
import Derived.Test.YtfcpmpcfbhkacaaInts
import Derived.Test.YtfcpmpcfbhkacaaField
import Derived.Test.YtfcpmpcfbhkacaaPoly
import Derived.Test.YtfcpmpcfbhkacaaQuietTail
import Derived.Test.YtfcpmpcfbhkacaaPlanCode
namespace Go.Proofs.Ytfcpmpcfbhkacaa
open Go.RowKit CurveMath
set_option linter.unusedVariables false

/-- points from number k on, m of them: the first error -/
def scan (X Y : Nat → Int) : Nat → Nat → Int
  | 0, _ => 0
  | m + 1, k => if (isNum (X k) && isNum (Y k)) = false then 2 else if hasB X k (X k) = true then 5 else scan X Y m (k + 1)

/-- the check of nx x's and ny y's -/
def chk (nx ny : Nat) (X Y : Nat → Int) : Int := if nx ≠ ny then 3 else if 1 ≤ nx ∧ nx ≤ 8 then scan X Y nx 0 else 1

theorem less_any (a b : Int) (ha : 0 ≤ a ∧ a ≤ 30) (hb : 0 ≤ b ∧ b ≤ 30) (w : World) :
    Calls Try.prog 81 #[.int .i64 a, .int .i64 b] w fun e w' => e = .returned (.int .i64 ((a + 31 - b) % 31)) ∧ w' = w := by
  go_enter Try.func81, Try.ntmps81
  go_wp2
  go_ret
  exact ⟨rfl, rfl⟩

theorem scan_bad {X Y : Nat → Int} {n k : Nat} {e : Int} (hk : k < n) (h : scan X Y (n - k) k = e) (hb : (isNum (X k) && isNum (Y k)) = false) : e = 2 := by
  rw [show n - k = (n - k - 1) + 1 by omega] at h
  simp only [scan] at h
  rw [if_pos hb] at h
  exact h.symm

theorem scan_dup {X Y : Nat → Int} {n k : Nat} {e : Int} (hk : k < n) (h : scan X Y (n - k) k = e) (hb : (isNum (X k) && isNum (Y k)) = true) (hd : hasB X k (X k) = true) : e = 5 := by
  rw [show n - k = (n - k - 1) + 1 by omega] at h
  simp only [scan] at h
  rw [if_neg (by rw [hb]; simp), if_pos hd] at h
  exact h.symm

theorem scan_next {X Y : Nat → Int} {n k : Nat} {e : Int} (hk : k < n) (h : scan X Y (n - k) k = e) (hb : (isNum (X k) && isNum (Y k)) = true) (hd : hasB X k (X k) = false) : scan X Y (n - (k + 1)) (k + 1) = e := by
  rw [show n - k = (n - (k + 1)) + 1 by omega] at h
  simp only [scan] at h
  rw [if_neg (by rw [hb]; simp), if_neg (by rw [hd]; simp)] at h
  exact h

end Go.Proofs.Ytfcpmpcfbhkacaa
