/- A plan's error: what the reference answers, and what package share answers. -/
import Derived.Test.YtfcpmpcfbhkacaaBase
namespace Go.Proofs.Ytfcpmpcfbhkacaa
open Go.RowKit
set_option linter.unusedVariables false

theorem in_ok (n a b : Int) (h : a ≤ n ∧ n ≤ b) (w : World) :
    Calls Try.prog 47 #[.int .i64 n, .int .i64 a, .int .i64 b] w fun e w' => e = .returned (.bool true) ∧ w' = w := by
  have hd : decide (n ≤ b) = true := decide_eq_true h.2
  go_enter Try.func47, Try.ntmps47
  go_wp2
  go_ret
  exact ⟨rfl, rfl⟩

theorem in_any (n a b : Int) (w : World) :
    Calls Try.prog 47 #[.int .i64 n, .int .i64 a, .int .i64 b] w fun e w' => e = .returned (.bool (decide (a ≤ n ∧ n ≤ b))) ∧ w' = w := by
  by_cases h1 : a ≤ n
  · by_cases h2 : n ≤ b
    · rw [decide_eq_true ⟨h1, h2⟩]
      exact in_ok n a b ⟨h1, h2⟩ w
    · have hd : decide (n ≤ b) = false := decide_eq_false h2
      rw [decide_eq_false (fun h => h2 h.2)]
      go_enter Try.func47, Try.ntmps47
      go_wp2
      go_ret
      exact ⟨rfl, rfl⟩
  · rw [decide_eq_false (fun h => h1 h.1)]
    have hd : decide (a ≤ n) = false := decide_eq_false h1
    go_enter Try.func47, Try.ntmps47
    go_wp2
    go_ret
    exact ⟨rfl, rfl⟩

theorem checkPlan_any (nd of sz : Int) (w : World) : Calls Try.prog 18 #[planV nd of sz] w fun e w' => e = .returned (.int .i64 (chkP nd of sz)) ∧ Below w.heap.size w w' := by
  have hbx := below_alloc w (.cells #[.int .i64 nd, .int .i64 of, .int .i64 sz] 23)
  have HB := hid hbx
  clear hbx
  unfold planV chkP planOk
  by_cases h1 : 1 ≤ nd ∧ nd ≤ 4
  · have e1 : decide (1 ≤ nd ∧ nd ≤ 4) = true := decide_eq_true h1
    by_cases h2 : nd ≤ of ∧ of ≤ 8
    · have e2 : decide (nd ≤ of ∧ of ≤ 8) = true := decide_eq_true h2
      by_cases h3 : 1 ≤ sz ∧ sz ≤ 24
      · have e3 : decide (1 ≤ sz ∧ sz ≤ 24) = true := decide_eq_true h3
        rw [if_pos (decide_eq_true ⟨h1, h2, h3⟩)]
        clear h1 h2 h3
        go_enter Try.func18, Try.ntmps18
        go_wp2_with (go_at_call 47; go_must (refine (in_any _ _ _ _).mono ?_; rintro e wq ⟨rfl, hwq⟩; subst wq; first | rw [e1] | rw [e2] | rw [e3]))
        go_ret
        exact ⟨rfl, HB.out⟩
      · have e3 : decide (1 ≤ sz ∧ sz ≤ 24) = false := decide_eq_false h3
        rw [if_neg (by rw [decide_eq_true_iff]; exact fun h => h3 h.2.2)]
        clear h1 h2 h3
        go_enter Try.func18, Try.ntmps18
        go_wp2_with (go_at_call 47; go_must (refine (in_any _ _ _ _).mono ?_; rintro e wq ⟨rfl, hwq⟩; subst wq; first | rw [e1] | rw [e2] | rw [e3]))
        go_ret
        exact ⟨rfl, HB.out⟩
    · have e2 : decide (nd ≤ of ∧ of ≤ 8) = false := decide_eq_false h2
      rw [if_neg (by rw [decide_eq_true_iff]; exact fun h => h2 h.2.1)]
      clear h1 h2
      go_enter Try.func18, Try.ntmps18
      go_wp2_with (go_at_call 47; go_must (refine (in_any _ _ _ _).mono ?_; rintro e wq ⟨rfl, hwq⟩; subst wq; first | rw [e1] | rw [e2]))
      go_ret
      exact ⟨rfl, HB.out⟩
  · have e1 : decide (1 ≤ nd ∧ nd ≤ 4) = false := decide_eq_false h1
    rw [if_neg (by rw [decide_eq_true_iff]; exact fun h => h1 h.1)]
    clear h1
    go_enter Try.func18, Try.ntmps18
    go_wp2_with (go_at_call 47; go_must (refine (in_any _ _ _ _).mono ?_; rintro e wq ⟨rfl, hwq⟩; subst wq; rw [e1]))
    go_ret
    exact ⟨rfl, HB.out⟩

theorem shCheck (nd of sz : Int) (w : World) : Calls Try.prog 17 #[planV nd of sz] w fun e w' => e = .returned (.int .i64 (chkP nd of sz)) ∧ Below w.heap.size w w' := by
  have HB := hid (below_alloc w (.cells #[.int .i64 nd, .int .i64 of, .int .i64 sz] 23))
  obtain ⟨ans, hans⟩ : ∃ a, chkP nd of sz = a := ⟨_, rfl⟩
  rw [hans]
  unfold chkP planOk at hans
  unfold planV
  by_cases h1 : nd < 1
  · rw [if_neg (by rw [decide_eq_true_iff]; omega)] at hans
    subst hans
    go_enter Try.func17, Try.ntmps17
    go_wp2
    go_ret
    exact ⟨rfl, HB.out⟩
  by_cases h2 : 4 < nd
  · rw [if_neg (by rw [decide_eq_true_iff]; omega)] at hans
    subst hans
    go_enter Try.func17, Try.ntmps17
    go_wp2
    go_ret
    exact ⟨rfl, HB.out⟩
  by_cases h3 : of < nd
  · rw [if_neg (by rw [decide_eq_true_iff]; omega)] at hans
    subst hans
    go_enter Try.func17, Try.ntmps17
    go_wp2
    go_ret
    exact ⟨rfl, HB.out⟩
  by_cases h4 : 8 < of
  · rw [if_neg (by rw [decide_eq_true_iff]; omega)] at hans
    subst hans
    go_enter Try.func17, Try.ntmps17
    go_wp2
    go_ret
    exact ⟨rfl, HB.out⟩
  by_cases h5 : sz < 1
  · rw [if_neg (by rw [decide_eq_true_iff]; omega)] at hans
    subst hans
    go_enter Try.func17, Try.ntmps17
    go_wp2
    go_ret
    exact ⟨rfl, HB.out⟩
  by_cases h6 : 24 < sz
  · rw [if_neg (by rw [decide_eq_true_iff]; omega)] at hans
    subst hans
    go_enter Try.func17, Try.ntmps17
    go_wp2
    go_ret
    exact ⟨rfl, HB.out⟩
  rw [if_pos (by rw [decide_eq_true_iff]; omega)] at hans
  subst hans
  go_enter Try.func17, Try.ntmps17
  go_wp2
  go_ret
  exact ⟨rfl, HB.out⟩

end Go.Proofs.Ytfcpmpcfbhkacaa
