/- A place brought within bounds, as the laws do it. -/
import Derived.Test.YtfcpmpcfbhkacaaRows
import Derived.WalkKit
import Derived.WalkSpells
import Derived.Handy
namespace Go.Proofs.Ytfcpmpcfbhkacaa
open Go.RowKit
set_option linter.unusedVariables false

/-- Go's remainder, and what 'at' makes of it -/
theorem tmod_bd (k n : Int) (hn : 1 ≤ n) : -n < k.tmod n ∧ k.tmod n < n ∧ (if k.tmod n < 0 then k.tmod n + n else k.tmod n) = k % n := by
  by_cases hk : 0 ≤ k
  · have e : k.tmod n = k % n := Int.tmod_eq_emod_of_nonneg hk
    have h1 := Int.emod_nonneg k (show n ≠ 0 by omega)
    have h2 := Int.emod_lt_of_pos k (show 0 < n by omega)
    rw [e, if_neg (by omega)]
    omega
  · obtain ⟨m, rfl⟩ : ∃ m : Int, k = -m := ⟨-k, by omega⟩
    have e : (-m).tmod n = -(m % n) := by rw [Int.neg_tmod, Int.tmod_eq_emod_of_nonneg (by omega)]
    have h1 := Int.emod_nonneg m (show n ≠ 0 by omega)
    have h2 := Int.emod_lt_of_pos m (show 0 < n by omega)
    rw [e]
    refine ⟨by omega, by omega, ?_⟩
    have e2 : (-m) % n = (-(m % n)) % n := by
      have := Int.mul_ediv_add_emod m n
      have e3 : -m = -(m % n) + n * (-(m / n)) := by rw [Int.mul_neg]; omega
      rw [e3, Int.add_mul_emod_self_left]
    rw [e2]
    by_cases h0 : m % n = 0
    · rw [h0]; simp
    · rw [if_pos (by omega)]
      have e4 : (-(m % n)) % n = (-(m % n) + n) % n := by simp
      have e5 : (-(m % n) + n) % n = -(m % n) + n := Int.emod_eq_of_lt (by omega) (by omega)
      rw [e4, e5]

theorem at_any (k n : Int) (hn : 1 ≤ n ∧ n ≤ 100) (w : World) :
    Calls Try.prog 27 #[.int .i64 k, .int .i64 n] w fun e w' => e = .returned (.int .i64 (k % n)) ∧ w' = w := by
  obtain ⟨h1, h2, h3⟩ := tmod_bd k n hn.1
  rw [← h3]
  clear h3
  by_cases h0 : k.tmod n < 0
  · rw [if_pos h0]
    go_enter Try.func27, Try.ntmps27
    go_wp2
    go_ret
    exact ⟨rfl, rfl⟩
  · rw [if_neg h0]
    go_enter Try.func27, Try.ntmps27
    go_wp2
    go_ret
    exact ⟨rfl, rfl⟩

end Go.Proofs.Ytfcpmpcfbhkacaa
