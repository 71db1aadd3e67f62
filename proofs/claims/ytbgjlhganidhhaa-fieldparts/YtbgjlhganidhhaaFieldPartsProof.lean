/- Proved: for every three ints the law FieldParts returns true: to divide by two numbers one after the other is to divide by both, times, and to divide by a quotient is to divide by its lower one times its upper one. No condition on the input. -/
import Derived.Test.YtbgjlhganidhhaaRows
import Derived.WalkKit
import Derived.ProofKit
import Derived.OpenShut
import Derived.ShutString
import Derived.Test.YtbgjlhganidhhaaField
namespace Go.Proofs.Ytbgjlhganidhhaa.fieldParts
open Go.ChangeShapes Go.WideShapes Go.ChangeAt Go.RowKit
open Go.ChangeMaps (open_string shut_string)
set_option linter.unusedVariables false

theorem own : ownKnob Try.prog.godebug = none := by kernel_rfl

/-- the quotient by two numbers, one after the other -/
theorem dv_dv (a b c : Int) (ha : 0 ≤ a ∧ a ≤ 30) (hb : 1 ≤ b ∧ b ≤ 30) (hc : 1 ≤ c ∧ c ≤ 30) (hp : 1 ≤ b * c % 31 ∧ b * c % 31 ≤ 30) :
    dv (dv a b) c = dv a (b * c % 31) := by
  have h1 := dv_bd a b
  have h2 := dv_bd (dv a b) c
  have h3 := dv_bd a (b * c % 31)
  refine cancel _ _ (b * c % 31) h2 h3 hp ?_
  rw [dv_mul a (b * c % 31) ha hp]
  rw [Int.mul_emod, Int.emod_emod, ← Int.mul_emod, Int.mul_comm b c, ← Int.mul_assoc, Int.mul_emod, dv_mul (dv a b) c h1 hc]
  rw [Int.mul_emod, Int.emod_emod, ← Int.mul_emod] <;> exact dv_mul a b ha hb

theorem prod_pos (b c : Int) (hb : 1 ≤ b ∧ b ≤ 30) (hc : 1 ≤ c ∧ c ≤ 30) : 1 ≤ b * c % 31 ∧ b * c % 31 ≤ 30 := by
  have h := nought b c (by omega) (by omega)
  have h2 : b * c % 31 ≠ 0 := fun e => by have := h.1 e; omega
  omega

theorem quot_pos (b c : Int) (hb : 1 ≤ b ∧ b ≤ 30) (hc : 1 ≤ c ∧ c ≤ 30) : 1 ≤ dv b c ∧ dv b c ≤ 30 := by
  have h := dv_mul b c (by omega) hc
  have h2 := dv_bd b c
  have h3 : dv b c ≠ 0 := fun e => by rw [e] at h; simp at h; omega
  omega

/-- the quotient by a quotient -/
theorem dv_quot (a b c : Int) (ha : 0 ≤ a ∧ a ≤ 30) (hb : 1 ≤ b ∧ b ≤ 30) (hc : 1 ≤ c ∧ c ≤ 30) :
    dv a (dv b c) = dv (a * c % 31) b := by
  have hq := quot_pos b c hb hc
  have h1 := dv_bd a (dv b c)
  have h2 := dv_bd (a * c % 31) b
  refine cancel _ _ b h1 h2 hb ?_
  rw [dv_mul (a * c % 31) b (by omega) hb]
  have e := dv_mul b c (by omega) hc
  have e2 : dv a (dv b c) * b % 31 = dv a (dv b c) * (dv b c * c % 31) % 31 := by rw [e]
  rw [e2, Int.mul_emod, Int.emod_emod, ← Int.mul_emod, ← Int.mul_assoc, Int.mul_emod, dv_mul a (dv b c) ha hq]
  rw [Int.mul_emod, Int.emod_emod, ← Int.mul_emod]

theorem walk (a0 : Int) (a1 : Int) (a2 : Int) (w0 : (Lit.int .i64 a0).wf = true) (w1 : (Lit.int .i64 a1).wf = true) (w2 : (Lit.int .i64 a2).wf = true) (w : World) :
    Calls Try.prog 6 #[.int .i64 a0, .int .i64 a1, .int .i64 a2] w fun e w' => e = .returned (.bool true) ∧ Grown w w' := by
  have hA : 0 ≤ a0 % 31 ∧ a0 % 31 ≤ 30 := by omega
  have hB : 1 ≤ 1 + a1 % 30 ∧ 1 + a1 % 30 ≤ 30 := by omega
  have hC : 1 ≤ 1 + a2 % 30 ∧ 1 + a2 % 30 ≤ 30 := by omega
  have hp := prod_pos _ _ hB hC
  have hq := quot_pos _ _ hB hC
  have hx := dv_bd (a0 % 31) (1 + a1 % 30)
  have hl1 := dv_dv _ _ _ hA hB hC hp
  have hl2 := dv_quot _ _ _ hA hB hC
  have hv : 0 ≤ (a0 % 31) * (1 + a2 % 30) % 31 ∧ (a0 % 31) * (1 + a2 % 30) % 31 ≤ 30 := by omega
  clear w0 w1 w2
  go_enter Try.func6, Try.ntmps6
  go_wp2_with (first
    | (go_at_call 19; go_must (refine (at_any _ _ (by omega) _).mono ?_; rintro e w' ⟨rfl, rfl⟩))
    | (go_at_call 16; go_must (refine (reckoned_any _).mono ?_; rintro e w' ⟨rfl, rfl⟩))
    | (go_at_call 13; go_must (refine (mul_ok _ _ (by omega) (by omega) _).mono ?_; rintro e w' ⟨rfl, rfl⟩))
    | (go_at_call 14; go_must (refine (div_ok _ _ (by omega) (by omega) _).mono ?_; rintro e w' ⟨rfl, rfl⟩)))
  go_ret
  exact ⟨rfl, Grown.refl _⟩

set_option maxRecDepth 100000 in
theorem lifted (os : Os) (started : os.Started) (H : Type) (enc : TypeId × Value → H) :
    ReturnsInHanded {} Try.checked os 6 .any (Rows.fieldPartsSpec.pre6 enc Try.prog Try.f6 Rows.fieldPartsRow.domain false) (Rows.fieldPartsSpec.post enc Try.prog Try.f6 false true false false) := by
  refine returnsInHanded_of_change (C := Try.checked) own started (by kernel_rfl) Try.func6
    (ChangeSpec.witness6 (enc := enc) (C := Try.checked) false ⟨#[], #[.int .i64 0, .int .i64 0, .int .i64 0], []⟩ 8 (by kernel_rfl) (by kernel_rfl) (by kernel_rfl) (by kernel_rfl)) ?_
  intro W base args ds gs before hval0 hW hcnd _
  have hval : ∀ (j : Nat) t v, Try.f6.params[j]? = some t → args[j]? = some v → Value.okWide Try.prog W .any base t v := hval0
  have hW' := hW
  obtain ⟨p, q, hA0, hV, rfl, hfz, hnd⟩ := hW
  have hA : DataW.TrodAll enc Try.prog W 0 (fun _ => true) true Try.f6.params.toList args.toList ds p := hA0
  rw [Try.params6] at hA hval
  obtain ⟨v0, vs0, d0, ds0, p0, q0, hargs, rfl, rfl, h0, r0⟩ := trodAll_cons hA
  obtain ⟨v1, vs1, d1, ds1, p1, q1, rfl, rfl, rfl, h1, r1⟩ := trodAll_cons r0
  obtain ⟨v2, vs2, d2, ds2, p2, q2, rfl, rfl, rfl, h2, r2⟩ := trodAll_cons r1
  obtain ⟨rfl, rfl, rfl⟩ := trodAll_nil r2
  obtain rfl : args = #[v0, v1, v2] := by cases args; simp_all
  obtain ⟨rfl, rfl⟩ := trodVars_none hV
  obtain ⟨a0, rfl, rfl, rfl, w0⟩ := open_int Try.underlying3 (hval 0 3 v0 rfl rfl) h0
  obtain ⟨a1, rfl, rfl, rfl, w1⟩ := open_int Try.underlying3 (hval 1 3 v1 rfl rfl) h1
  obtain ⟨a2, rfl, rfl, rfl, w2⟩ := open_int Try.underlying3 (hval 2 3 v2 rfl rfl) h2
  clear hA0 hval0
  simp only [List.append_nil] at hW'
  refine (walk a0 a1 a2 w0 w1 w2 W).mono fun e W' ⟨he, hg⟩ => ?_
  subst he
  exact ⟨_, rfl, post_of_same (pa := []) (pv := []) hW' (fun _ _ _ => (trodAll_cons_mk (shut_bool Try.underlying4 _) trodAll_mk0)) (fun sp _ => (trodAll_cons_mk (shut_int Try.underlying3 w0) (trodAll_cons_mk (shut_int Try.underlying3 w1) (trodAll_cons_mk (shut_int Try.underlying3 w2) trodAll_mk0)))) (fun _ _ => rfl) rfl
    (hg.frame _) hg.2.1 (ok_one (by kernel_rfl) rfl (okWide_bool_mk Try.underlying4 _))⟩

theorem over : Rows.fieldPartsRow.holds Try.pinned (OpenSpec.ofChange Rows.fieldPartsSpec) :=
  OpenClaim.holds_of_wide 6 Try.f6 rfl rfl rfl rfl rfl rfl rfl ⟨rfl, rfl, rfl, rfl, rfl⟩ rfl rfl rfl rfl rfl (by kernel_rfl) Try.func6 (by kernel_rfl)
    (of_decide_eq_true (by kernel_rfl)) (by unfold Func.isWrapper; first | (rw [if_pos (by decide +kernel)]; kernel_rfl) | (rw [if_neg (by decide +kernel)]; exact ⟨rfl, rfl⟩))
    (fun os started H enc _ => lifted os started H enc)

theorem proved : Rows.FieldPartsSaid :=
  over
end Go.Proofs.Ytbgjlhganidhhaa.fieldParts

namespace Go.Proofs.Ytbgjlhganidhhaa
theorem fieldParts_holds : Rows.FieldPartsSaid := fieldParts.proved
#print axioms fieldParts_holds
end Go.Proofs.Ytbgjlhganidhhaa
