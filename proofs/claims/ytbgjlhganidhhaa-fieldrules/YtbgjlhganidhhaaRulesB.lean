/- The walk of FieldRules at a number and nought. -/
import Derived.Test.YtbgjlhganidhhaaRows
import Derived.WalkKit
import Derived.ProofKit
import Derived.Handy
import Derived.Test.YtbgjlhganidhhaaRulesKit
namespace Go.Proofs.Ytbgjlhganidhhaa
open Go.RowKit
set_option linter.unusedVariables false

set_option maxRecDepth 10000 in
set_option maxHeartbeats 4000000 in
theorem walk_b (a0 : Int) (a1 : Int) (a2 : Int) (hb1 : a1 % 31 = 0) (w : World) :
    Calls Try.prog 5 #[.int .i64 a0, .int .i64 a1, .int .i64 a2] w fun e w' => e = .returned (.bool true) ∧ Grown w w' := by
  obtain ⟨a, hea⟩ : ∃ a, a0 % 31 = a := ⟨_, rfl⟩
  obtain ⟨b, heb⟩ : ∃ b, a1 % 31 = b := ⟨_, rfl⟩
  obtain ⟨c, hec⟩ : ∃ c, a2 % 31 = c := ⟨_, rfl⟩
  have nA : Num a := ⟨by omega, by omega⟩
  have nB : Num b := ⟨by omega, by omega⟩
  have nC : Num c := ⟨by omega, by omega⟩
  have r1 : ad b a = ad a b := by unfold ad; rw [Int.add_comm]
  have r2 : ml b a = ml a b := by unfold ml; rw [Int.mul_comm]
  have r3 := md_add1 a b c
  have r4 := md_mul1 a b c
  have r5 := md_dist a b c
  have r6 : ad a 0 = a := by unfold ad; have := nA.1; have := nA.2; omega
  have r7 : ml a 1 = a := by unfold ml; have := nA.1; have := nA.2; omega
  have hab := nought a b ⟨nA.1, nA.2⟩ ⟨nB.1, nB.2⟩
  have hb0 : b = 0 := by omega
  have hpb : (b == 0) = true := by simp; exact hb0
  have hm : (ml a b == 0) = true := by simp; exact hab.2 (Or.inr hb0)
  clear hab hb0 hb1
  go_enter Try.func5, Try.ntmps5
  go_wp2_with (first
        | (go_at_call 19; go_must (refine (at_any _ _ (by omega) _).mono ?_; rintro e w' ⟨rfl, rfl⟩; simp only [hea, heb, hec]))
        | (go_at_call 20; go_must (refine (add_cl _ _ (by first | assumption | exact num_ad _ _ | exact num_ml _ _ | exact num_0) (by first | assumption | exact num_ad _ _ | exact num_ml _ _ | exact num_0) _ _ (blk _)).mono ?_; rintro e w' ⟨rfl, rfl⟩))
        | (go_at_call 21; go_must (refine (mul_cl _ _ (by first | assumption | exact num_ad _ _ | exact num_ml _ _ | exact num_dv _ _ | exact num_1) (by first | assumption | exact num_ad _ _ | exact num_ml _ _ | exact num_1) _ _ (blk _)).mono ?_; rintro e w' ⟨rfl, rfl⟩))
        | (go_at_call 14; go_must (refine (div_cl _ _ (by assumption) (by assumption) (by assumption) _).mono ?_; rintro e w' ⟨rfl, rfl⟩))
        | (go_at_call 16; go_must (refine (reckoned_any _).mono ?_; rintro e w' ⟨rfl, rfl⟩)))
  all_goals (go_ret; exact ⟨rfl, by go_grown⟩)

end Go.Proofs.Ytbgjlhganidhhaa
