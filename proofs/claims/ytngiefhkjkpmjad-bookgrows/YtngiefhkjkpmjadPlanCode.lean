/- A plan's error: what the reference answers, and what package share answers. -/
import Derived.Test.YtngiefhkjkpmjadBase
namespace Go.Proofs.Ytngiefhkjkpmjad
open Go.RowKit
set_option linter.unusedVariables false

theorem shCheck (nd of sz : Int) (w : World) : Calls Try.prog 30 #[planV nd of sz] w fun e w' => e = .returned (.int .i64 (chkP nd of sz)) ∧ Below w.heap.size w w' := by
  have HB := hid (below_alloc w (.cells #[.int .i64 nd, .int .i64 of, .int .i64 sz] 27))
  obtain ⟨ans, hans⟩ : ∃ a, chkP nd of sz = a := ⟨_, rfl⟩
  rw [hans]
  unfold chkP planOk at hans
  unfold planV
  by_cases h1 : nd < 1
  · rw [if_neg (by rw [decide_eq_true_iff]; omega)] at hans
    subst hans
    go_enter Try.func30, Try.ntmps30
    go_wp2
    go_ret
    exact ⟨rfl, HB.out⟩
  by_cases h2 : 4 < nd
  · rw [if_neg (by rw [decide_eq_true_iff]; omega)] at hans
    subst hans
    go_enter Try.func30, Try.ntmps30
    go_wp2
    go_ret
    exact ⟨rfl, HB.out⟩
  by_cases h3 : of < nd
  · rw [if_neg (by rw [decide_eq_true_iff]; omega)] at hans
    subst hans
    go_enter Try.func30, Try.ntmps30
    go_wp2
    go_ret
    exact ⟨rfl, HB.out⟩
  by_cases h4 : 8 < of
  · rw [if_neg (by rw [decide_eq_true_iff]; omega)] at hans
    subst hans
    go_enter Try.func30, Try.ntmps30
    go_wp2
    go_ret
    exact ⟨rfl, HB.out⟩
  by_cases h5 : sz < 1
  · rw [if_neg (by rw [decide_eq_true_iff]; omega)] at hans
    subst hans
    go_enter Try.func30, Try.ntmps30
    go_wp2
    go_ret
    exact ⟨rfl, HB.out⟩
  by_cases h6 : 24 < sz
  · rw [if_neg (by rw [decide_eq_true_iff]; omega)] at hans
    subst hans
    go_enter Try.func30, Try.ntmps30
    go_wp2
    go_ret
    exact ⟨rfl, HB.out⟩
  rw [if_pos (by rw [decide_eq_true_iff]; omega)] at hans
  subst hans
  go_enter Try.func30, Try.ntmps30
  go_wp2
  go_ret
  exact ⟨rfl, HB.out⟩

end Go.Proofs.Ytngiefhkjkpmjad
