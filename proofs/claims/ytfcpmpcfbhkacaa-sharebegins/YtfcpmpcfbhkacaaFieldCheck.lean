/- Is it a number: what package field answers, and what the reference answers. -/
import Derived.Test.YtfcpmpcfbhkacaaRows
import Derived.WalkKit
import Derived.WalkSpells
import Derived.Handy
namespace Go.Proofs.Ytfcpmpcfbhkacaa
open Go.RowKit
set_option linter.unusedVariables false

theorem check_ok (a : Int) (ha : 0 ≤ a ∧ a ≤ 30) (w : World) :
    Calls Try.prog 57 #[.int .i64 a] w fun e w' => e = .returned (.int .i64 0) ∧ w' = w := by
  go_enter Try.func57, Try.ntmps57
  go_wp2
  go_ret
  exact ⟨rfl, rfl⟩

theorem check_bad (a : Int) (ha : ¬ (0 ≤ a ∧ a ≤ 30)) (w : World) :
    Calls Try.prog 57 #[.int .i64 a] w fun e w' => e = .returned (.int .i64 2) ∧ w' = w := by
  by_cases h0 : a < 0
  · go_enter Try.func57, Try.ntmps57
    go_wp2
    go_ret
    exact ⟨rfl, rfl⟩
  · have h1 : 31 ≤ a := by omega
    clear ha
    go_enter Try.func57, Try.ntmps57
    go_wp2
    go_ret
    exact ⟨rfl, rfl⟩

theorem isNumber_ok (a : Int) (ha : 0 ≤ a ∧ a ≤ 30) (w : World) :
    Calls Try.prog 43 #[.int .i64 a] w fun e w' => e = .returned (.bool true) ∧ w' = w := by
  go_enter Try.func43, Try.ntmps43
  go_wp2
  go_ret
  exact ⟨rfl, rfl⟩

theorem isNumber_bad (a : Int) (ha : ¬ (0 ≤ a ∧ a ≤ 30)) (w : World) :
    Calls Try.prog 43 #[.int .i64 a] w fun e w' => e = .returned (.bool false) ∧ w' = w := by
  by_cases h0 : a < 0
  · clear ha
    go_enter Try.func43, Try.ntmps43
    go_wp2
    go_ret
    exact ⟨rfl, rfl⟩
  · have h1 : 31 ≤ a := by omega
    clear ha
    have hd : decide (a ≤ 30) = false := decide_eq_false (by omega)
    go_enter Try.func43, Try.ntmps43
    go_wp2
    go_ret
    exact ⟨rfl, rfl⟩

/-- is it a number? -/
def isNum (a : Int) : Bool := decide (0 ≤ a ∧ a ≤ 30)

theorem isNumber_any (a : Int) (w : World) :
    Calls Try.prog 43 #[.int .i64 a] w fun e w' => e = .returned (.bool (isNum a)) ∧ w' = w := by
  by_cases h : 0 ≤ a ∧ a ≤ 30
  · have e : isNum a = true := decide_eq_true h
    rw [e]
    exact isNumber_ok a h w
  · have e : isNum a = false := decide_eq_false h
    rw [e]
    exact isNumber_bad a h w

theorem isNum_iff (a : Int) : isNum a = true ↔ 0 ≤ a ∧ a ≤ 30 := by unfold isNum; simp

end Go.Proofs.Ytfcpmpcfbhkacaa
