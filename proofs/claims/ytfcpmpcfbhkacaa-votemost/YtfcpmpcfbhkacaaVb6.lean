/- Several texts of one proof, in their order. -/
import Derived.Test.YtfcpmpcfbhkacaaVb5
import Derived.Test.YtfcpmpcfbhkacaaVb0
import Derived.Test.YtfcpmpcfbhkacaaVb1
import Derived.Test.YtfcpmpcfbhkacaaVb2
import Derived.Test.YtfcpmpcfbhkacaaVb3

/- A plan's error: what the reference answers, and what package share answers. -/
namespace Go.Proofs.Ytfcpmpcfbhkacaa

open Go.RowKit
set_option linter.unusedVariables false

theorem in_ok (n a b : Int) (h : a ≤ n ∧ n ≤ b) (w : World) :
    Calls Try.prog 47 #[.int .i64 n, .int .i64 a, .int .i64 b] w fun e w' => e = .returned (.bool true) ∧ w' = w := by
  have hd : decide (n ≤ b) = true := decide_eq_true h.2
  go_enter Try.func47, Try.ntmps47
  go_wp2
  go_ret
  exact ⟨rfl, rfl⟩

theorem in_any (n a b : Int) (w : World) :
    Calls Try.prog 47 #[.int .i64 n, .int .i64 a, .int .i64 b] w fun e w' => e = .returned (.bool (decide (a ≤ n ∧ n ≤ b))) ∧ w' = w := by
  by_cases h1 : a ≤ n
  · by_cases h2 : n ≤ b
    · rw [decide_eq_true ⟨h1, h2⟩]
      exact in_ok n a b ⟨h1, h2⟩ w
    · have hd : decide (n ≤ b) = false := decide_eq_false h2
      rw [decide_eq_false (fun h => h2 h.2)]
      go_enter Try.func47, Try.ntmps47
      go_wp2
      go_ret
      exact ⟨rfl, rfl⟩
  · rw [decide_eq_false (fun h => h1 h.1)]
    have hd : decide (a ≤ n) = false := decide_eq_false h1
    go_enter Try.func47, Try.ntmps47
    go_wp2
    go_ret
    exact ⟨rfl, rfl⟩

theorem checkPlan_any (nd of sz : Int) (w : World) : Calls Try.prog 18 #[planV nd of sz] w fun e w' => e = .returned (.int .i64 (chkP nd of sz)) ∧ Below w.heap.size w w' := by
  have hbx := below_alloc w (.cells #[.int .i64 nd, .int .i64 of, .int .i64 sz] 23)
  have HB := hid hbx
  clear hbx
  unfold planV chkP planOk
  by_cases h1 : 1 ≤ nd ∧ nd ≤ 4
  · have e1 : decide (1 ≤ nd ∧ nd ≤ 4) = true := decide_eq_true h1
    by_cases h2 : nd ≤ of ∧ of ≤ 8
    · have e2 : decide (nd ≤ of ∧ of ≤ 8) = true := decide_eq_true h2
      by_cases h3 : 1 ≤ sz ∧ sz ≤ 24
      · have e3 : decide (1 ≤ sz ∧ sz ≤ 24) = true := decide_eq_true h3
        rw [if_pos (decide_eq_true ⟨h1, h2, h3⟩)]
        clear h1 h2 h3
        go_enter Try.func18, Try.ntmps18
        go_wp2_with (go_at_call 47; go_must (refine (in_any _ _ _ _).mono ?_; rintro e wq ⟨rfl, hwq⟩; subst wq; first | rw [e1] | rw [e2] | rw [e3]))
        go_ret
        exact ⟨rfl, HB.out⟩
      · have e3 : decide (1 ≤ sz ∧ sz ≤ 24) = false := decide_eq_false h3
        rw [if_neg (by rw [decide_eq_true_iff]; exact fun h => h3 h.2.2)]
        clear h1 h2 h3
        go_enter Try.func18, Try.ntmps18
        go_wp2_with (go_at_call 47; go_must (refine (in_any _ _ _ _).mono ?_; rintro e wq ⟨rfl, hwq⟩; subst wq; first | rw [e1] | rw [e2] | rw [e3]))
        go_ret
        exact ⟨rfl, HB.out⟩
    · have e2 : decide (nd ≤ of ∧ of ≤ 8) = false := decide_eq_false h2
      rw [if_neg (by rw [decide_eq_true_iff]; exact fun h => h2 h.2.1)]
      clear h1 h2
      go_enter Try.func18, Try.ntmps18
      go_wp2_with (go_at_call 47; go_must (refine (in_any _ _ _ _).mono ?_; rintro e wq ⟨rfl, hwq⟩; subst wq; first | rw [e1] | rw [e2]))
      go_ret
      exact ⟨rfl, HB.out⟩
  · have e1 : decide (1 ≤ nd ∧ nd ≤ 4) = false := decide_eq_false h1
    rw [if_neg (by rw [decide_eq_true_iff]; exact fun h => h1 h.1)]
    clear h1
    go_enter Try.func18, Try.ntmps18
    go_wp2_with (go_at_call 47; go_must (refine (in_any _ _ _ _).mono ?_; rintro e wq ⟨rfl, hwq⟩; subst wq; rw [e1]))
    go_ret
    exact ⟨rfl, HB.out⟩

theorem shCheck (nd of sz : Int) (w : World) : Calls Try.prog 17 #[planV nd of sz] w fun e w' => e = .returned (.int .i64 (chkP nd of sz)) ∧ Below w.heap.size w w' := by
  have HB := hid (below_alloc w (.cells #[.int .i64 nd, .int .i64 of, .int .i64 sz] 23))
  obtain ⟨ans, hans⟩ : ∃ a, chkP nd of sz = a := ⟨_, rfl⟩
  rw [hans]
  unfold chkP planOk at hans
  unfold planV
  by_cases h1 : nd < 1
  · rw [if_neg (by rw [decide_eq_true_iff]; omega)] at hans
    subst hans
    go_enter Try.func17, Try.ntmps17
    go_wp2
    go_ret
    exact ⟨rfl, HB.out⟩
  by_cases h2 : 4 < nd
  · rw [if_neg (by rw [decide_eq_true_iff]; omega)] at hans
    subst hans
    go_enter Try.func17, Try.ntmps17
    go_wp2
    go_ret
    exact ⟨rfl, HB.out⟩
  by_cases h3 : of < nd
  · rw [if_neg (by rw [decide_eq_true_iff]; omega)] at hans
    subst hans
    go_enter Try.func17, Try.ntmps17
    go_wp2
    go_ret
    exact ⟨rfl, HB.out⟩
  by_cases h4 : 8 < of
  · rw [if_neg (by rw [decide_eq_true_iff]; omega)] at hans
    subst hans
    go_enter Try.func17, Try.ntmps17
    go_wp2
    go_ret
    exact ⟨rfl, HB.out⟩
  by_cases h5 : sz < 1
  · rw [if_neg (by rw [decide_eq_true_iff]; omega)] at hans
    subst hans
    go_enter Try.func17, Try.ntmps17
    go_wp2
    go_ret
    exact ⟨rfl, HB.out⟩
  by_cases h6 : 24 < sz
  · rw [if_neg (by rw [decide_eq_true_iff]; omega)] at hans
    subst hans
    go_enter Try.func17, Try.ntmps17
    go_wp2
    go_ret
    exact ⟨rfl, HB.out⟩
  rw [if_pos (by rw [decide_eq_true_iff]; omega)] at hans
  subst hans
  go_enter Try.func17, Try.ntmps17
  go_wp2
  go_ret
  exact ⟨rfl, HB.out⟩

end Go.Proofs.Ytfcpmpcfbhkacaa

/- What chapter 2's reference answers: the check of points, and the value of their curve, in plain words of numbers modulo 31. -/
namespace Go.Proofs.Ytfcpmpcfbhkacaa

open Go.RowKit CurveMath
set_option linter.unusedVariables false

/-- points from number k on, m of them: the first error -/
def scan (X Y : Nat → Int) : Nat → Nat → Int
  | 0, _ => 0
  | m + 1, k => if (isNum (X k) && isNum (Y k)) = false then 2 else if hasB X k (X k) = true then 5 else scan X Y m (k + 1)

/-- the check of nx x's and ny y's -/
def chk (nx ny : Nat) (X Y : Nat → Int) : Int := if nx ≠ ny then 3 else if 1 ≤ nx ∧ nx ≤ 8 then scan X Y nx 0 else 1

theorem less_any (a b : Int) (ha : 0 ≤ a ∧ a ≤ 30) (hb : 0 ≤ b ∧ b ≤ 30) (w : World) :
    Calls Try.prog 81 #[.int .i64 a, .int .i64 b] w fun e w' => e = .returned (.int .i64 ((a + 31 - b) % 31)) ∧ w' = w := by
  go_enter Try.func81, Try.ntmps81
  go_wp2
  go_ret
  exact ⟨rfl, rfl⟩

theorem scan_bad {X Y : Nat → Int} {n k : Nat} {e : Int} (hk : k < n) (h : scan X Y (n - k) k = e) (hb : (isNum (X k) && isNum (Y k)) = false) : e = 2 := by
  rw [show n - k = (n - k - 1) + 1 by omega] at h
  simp only [scan] at h
  rw [if_pos hb] at h
  exact h.symm

theorem scan_dup {X Y : Nat → Int} {n k : Nat} {e : Int} (hk : k < n) (h : scan X Y (n - k) k = e) (hb : (isNum (X k) && isNum (Y k)) = true) (hd : hasB X k (X k) = true) : e = 5 := by
  rw [show n - k = (n - k - 1) + 1 by omega] at h
  simp only [scan] at h
  rw [if_neg (by rw [hb]; simp), if_pos hd] at h
  exact h.symm

theorem scan_next {X Y : Nat → Int} {n k : Nat} {e : Int} (hk : k < n) (h : scan X Y (n - k) k = e) (hb : (isNum (X k) && isNum (Y k)) = true) (hd : hasB X k (X k) = false) : scan X Y (n - (k + 1)) (k + 1) = e := by
  rw [show n - k = (n - (k + 1)) + 1 by omega] at h
  simp only [scan] at h
  rw [if_neg (by rw [hb]; simp), if_neg (by rw [hd]; simp)] at h
  exact h

end Go.Proofs.Ytfcpmpcfbhkacaa
