/- Proved: for every two ints the law FieldSays returns true: Check, Add, Mul and Div answer as the document says, errors too. No condition on the input. -/
import Derived.Test.YtbgjlhganidhhaaRows
import Derived.WalkKit
import Derived.ProofKit
import Derived.OpenShut
import Derived.ShutString
import Derived.Test.YtbgjlhganidhhaaField
namespace Go.Proofs.Ytbgjlhganidhhaa.fieldSays
open Go.ChangeShapes Go.WideShapes Go.ChangeAt Go.RowKit
open Go.ChangeMaps (open_string shut_string)
set_option linter.unusedVariables false

theorem own : ownKnob Try.prog.godebug = none := by kernel_rfl

theorem walk (a0 : Int) (a1 : Int) (w0 : (Lit.int .i64 a0).wf = true) (w1 : (Lit.int .i64 a1).wf = true) (w : World) :
    Calls Try.prog 4 #[.int .i64 a0, .int .i64 a1] w fun e w' => e = .returned (.bool true) ∧ Grown w w' := by
  clear w0 w1
  by_cases hA : 0 ≤ a0 ∧ a0 ≤ 30
  · by_cases hB : 0 ≤ a1 ∧ a1 ≤ 30
    · have hp := prod_bd hA hB
      by_cases h0 : a1 = 0
      · subst h0
        clear hp hB
        go_enter Try.func4, Try.ntmps4
        go_wp2_with (first
          | (go_at_call 12; go_must (refine (add_ok _ _ (by omega) (by omega) _).mono ?_; rintro e w' ⟨rfl, rfl⟩))
          | (go_at_call 13; go_must (refine (mul_ok _ _ (by omega) (by omega) _).mono ?_; rintro e w' ⟨rfl, rfl⟩))
          | (go_at_call 14; go_must (refine (div_nought _ (by omega) _).mono ?_; rintro e w' ⟨rfl, rfl⟩))
          | (go_at_call 15; go_must (refine (isNumber_ok _ (by omega) _).mono ?_; rintro e w' ⟨rfl, rfl⟩))
          | (go_at_call 16; go_must (refine (reckoned_any _).mono ?_; rintro e w' ⟨rfl, rfl⟩))
          | (go_at_call 17; go_must (refine (check_ok _ (by omega) _).mono ?_; rintro e w' ⟨rfl, rfl⟩)))
        go_ret
        exact ⟨rfl, Grown.refl _⟩
      · go_enter Try.func4, Try.ntmps4
        go_wp2_with (first
          | (go_at_call 12; go_must (refine (add_ok _ _ (by omega) (by omega) _).mono ?_; rintro e w' ⟨rfl, rfl⟩))
          | (go_at_call 13; go_must (refine (mul_ok _ _ (by omega) (by omega) _).mono ?_; rintro e w' ⟨rfl, rfl⟩))
          | (go_at_call 14; go_must (refine (div_ok _ _ (by omega) (by omega) _).mono ?_; rintro e w' ⟨rfl, rfl⟩))
          | (go_at_call 15; go_must (refine (isNumber_ok _ (by omega) _).mono ?_; rintro e w' ⟨rfl, rfl⟩))
          | (go_at_call 16; go_must (refine (reckoned_any _).mono ?_; rintro e w' ⟨rfl, rfl⟩))
          | (go_at_call 17; go_must (refine (check_ok _ (by omega) _).mono ?_; rintro e w' ⟨rfl, rfl⟩))
          | (go_at_call 18; go_must (refine (quotient_any _ _ (by omega) (by omega) _).mono ?_; rintro e w' ⟨rfl, rfl⟩)))
        go_ret
        exact ⟨rfl, Grown.refl _⟩
    · have hN : ¬ ((0 ≤ a0 ∧ a0 ≤ 30) ∧ (0 ≤ a1 ∧ a1 ≤ 30)) := fun h => hB h.2
      go_enter Try.func4, Try.ntmps4
      go_wp2_with (first
        | (go_at_call 12; go_must (refine (add_bad _ _ hN _).mono ?_; rintro e w' ⟨rfl, rfl⟩))
        | (go_at_call 13; go_must (refine (mul_bad _ _ hN _).mono ?_; rintro e w' ⟨rfl, rfl⟩))
        | (go_at_call 14; go_must (refine (div_bad _ _ hN _).mono ?_; rintro e w' ⟨rfl, rfl⟩))
        | (go_at_call 15; (refine (isNumber_ok _ hA _).mono ?_; rintro e w' ⟨rfl, rfl⟩))
        | (go_at_call 15; (refine (isNumber_bad _ hB _).mono ?_; rintro e w' ⟨rfl, rfl⟩))
        | (go_at_call 16; go_must (refine (reckoned_any _).mono ?_; rintro e w' ⟨rfl, rfl⟩))
        | (go_at_call 17; (refine (check_ok _ hA _).mono ?_; rintro e w' ⟨rfl, rfl⟩)))
      go_ret
      exact ⟨rfl, Grown.refl _⟩
  · have hN : ¬ ((0 ≤ a0 ∧ a0 ≤ 30) ∧ (0 ≤ a1 ∧ a1 ≤ 30)) := fun h => hA h.1
    go_enter Try.func4, Try.ntmps4
    go_wp2_with (first
      | (go_at_call 12; go_must (refine (add_bad _ _ hN _).mono ?_; rintro e w' ⟨rfl, rfl⟩))
      | (go_at_call 13; go_must (refine (mul_bad _ _ hN _).mono ?_; rintro e w' ⟨rfl, rfl⟩))
      | (go_at_call 14; go_must (refine (div_bad _ _ hN _).mono ?_; rintro e w' ⟨rfl, rfl⟩))
      | (go_at_call 15; (refine (isNumber_bad _ hA _).mono ?_; rintro e w' ⟨rfl, rfl⟩))
      | (go_at_call 16; go_must (refine (reckoned_any _).mono ?_; rintro e w' ⟨rfl, rfl⟩))
      | (go_at_call 17; (refine (check_bad _ hA _).mono ?_; rintro e w' ⟨rfl, rfl⟩)))
    go_ret
    exact ⟨rfl, Grown.refl _⟩

set_option maxRecDepth 100000 in
theorem lifted (os : Os) (started : os.Started) (H : Type) (enc : TypeId × Value → H) :
    ReturnsInHanded {} Try.checked os 4 .any (Rows.fieldSaysSpec.pre6 enc Try.prog Try.f4 Rows.fieldSaysRow.domain false) (Rows.fieldSaysSpec.post enc Try.prog Try.f4 false true false false) := by
  refine returnsInHanded_of_change (C := Try.checked) own started (by kernel_rfl) Try.func4
    (ChangeSpec.witness6 (enc := enc) (C := Try.checked) false ⟨#[], #[.int .i64 0, .int .i64 0], []⟩ 8 (by kernel_rfl) (by kernel_rfl) (by kernel_rfl) (by kernel_rfl)) ?_
  intro W base args ds gs before hval0 hW hcnd _
  have hval : ∀ (j : Nat) t v, Try.f4.params[j]? = some t → args[j]? = some v → Value.okWide Try.prog W .any base t v := hval0
  have hW' := hW
  obtain ⟨p, q, hA0, hV, rfl, hfz, hnd⟩ := hW
  have hA : DataW.TrodAll enc Try.prog W 0 (fun _ => true) true Try.f4.params.toList args.toList ds p := hA0
  rw [Try.params4] at hA hval
  obtain ⟨v0, vs0, d0, ds0, p0, q0, hargs, rfl, rfl, h0, r0⟩ := trodAll_cons hA
  obtain ⟨v1, vs1, d1, ds1, p1, q1, rfl, rfl, rfl, h1, r1⟩ := trodAll_cons r0
  obtain ⟨rfl, rfl, rfl⟩ := trodAll_nil r1
  obtain rfl : args = #[v0, v1] := by cases args; simp_all
  obtain ⟨rfl, rfl⟩ := trodVars_none hV
  obtain ⟨a0, rfl, rfl, rfl, w0⟩ := open_int Try.underlying3 (hval 0 3 v0 rfl rfl) h0
  obtain ⟨a1, rfl, rfl, rfl, w1⟩ := open_int Try.underlying3 (hval 1 3 v1 rfl rfl) h1
  clear hA0 hval0
  simp only [List.append_nil] at hW'
  refine (walk a0 a1 w0 w1 W).mono fun e W' ⟨he, hg⟩ => ?_
  subst he
  exact ⟨_, rfl, post_of_same (pa := []) (pv := []) hW' (fun _ _ _ => (trodAll_cons_mk (shut_bool Try.underlying4 _) trodAll_mk0)) (fun sp _ => (trodAll_cons_mk (shut_int Try.underlying3 w0) (trodAll_cons_mk (shut_int Try.underlying3 w1) trodAll_mk0))) (fun _ _ => rfl) rfl
    (hg.frame _) hg.2.1 (ok_one (by kernel_rfl) rfl (okWide_bool_mk Try.underlying4 _))⟩

theorem over : Rows.fieldSaysRow.holds Try.pinned (OpenSpec.ofChange Rows.fieldSaysSpec) :=
  OpenClaim.holds_of_wide 4 Try.f4 rfl rfl rfl rfl rfl rfl rfl ⟨rfl, rfl, rfl, rfl, rfl⟩ rfl rfl rfl rfl rfl (by kernel_rfl) Try.func4 (by kernel_rfl)
    (of_decide_eq_true (by kernel_rfl)) (by unfold Func.isWrapper; first | (rw [if_pos (by decide +kernel)]; kernel_rfl) | (rw [if_neg (by decide +kernel)]; exact ⟨rfl, rfl⟩))
    (fun os started H enc _ => lifted os started H enc)

theorem proved : Rows.FieldSaysSaid :=
  over
end Go.Proofs.Ytbgjlhganidhhaa.fieldSays

namespace Go.Proofs.Ytbgjlhganidhhaa
theorem fieldSays_holds : Rows.FieldSaysSaid := fieldSays.proved
#print axioms fieldSays_holds
end Go.Proofs.Ytbgjlhganidhhaa
