/- Several texts of one proof, in their order. -/
import Derived.Test.YtikchpffkhohlaaGreatMSum9

namespace Go.Proofs.YtikchpffkhohlaaGreat

open Go.RowKit CurveMath
set_option linter.unusedVariables false

def awayP (P : Ps) : Ps := ⟨P.th, fun k => max (P.rm k) 20, fun k => if P.th k = true then P.m k else 0, P.t⟩

theorem thRow_gone {P : Ps} {ver : Int} {k : Nat} {l : List (Nat × Nat)} (h : P.th k = false) : ∀ f, thRow P ver k l f = l := by
  intro f
  induction f with
  | zero => rfl
  | succ f ih =>
    rw [thRow_succ, ih]
    unfold thStep isTh
    rw [h, Bool.false_and, Bool.false_and, if_neg (by decide)]

theorem thRow_away (P : Ps) (ver : Int) (k : Nat) (l : List (Nat × Nat)) (f : Nat) : thRow (awayP P) ver k l f = thRow P ver k l f := rfl

theorem thAll_away (P : Ps) (ver : Int) : ∀ f, thAll (awayP P) ver f = thAll P ver f := by
  intro f
  induction f with
  | zero => rfl
  | succ f ih =>
    rw [thAll_succ, thAll_succ, ih, thRow_away]
    cases h : P.th f with
    | false => rw [thRow_gone h, thRow_gone h]
    | true =>
      have e : (awayP P).m f = P.m f := by simp only [awayP]; rw [if_pos h]
      rw [e]

theorem MeshR.away {n : Nat} {b : Bk} {np : Nat} {P : Ps} (h : MeshR n b np P) : MeshR n b np (awayP P) := by
  refine ⟨h.book, h.few, fun k hk => ?_⟩
  have hp := h.peer k hk
  have hr := hp.room_
  have hf := hp.few
  have hm : (awayP P).m k ≤ P.m k := by
    simp only [awayP]
    by_cases c : P.th k = true
    · rw [if_pos c]; exact Nat.le_refl _
    · rw [if_neg c]; exact Nat.zero_le _
  have hrm : (awayP P).rm k = 20 := by simp only [awayP]; omega
  refine ⟨h.book, by rw [hrm]; omega, by rw [hrm]; omega, fun j hj => hp.right j (by omega), fun i j hij hj => hp.rise i j hij (by omega)⟩

theorem away_same {n : Nat} {b : Bk} {np : Nat} {P : Ps} (h : MeshR n b np P) (k : Int) : rsE n b np (awayP P) k = rsE n b np P k ∧ rsD b np (awayP P) k = rsD b np P k ∧ rsB n b np (awayP P) k = rsB n b np P k := by
  have e : thereL (awayP P) k np = thereL P k np := thAll_away P k np
  have e2 : verM n b np (awayP P) k = verM n b np P k := by unfold verM; rw [h.away.e, h.e]
  refine ⟨?_, ?_, ?_⟩
  · unfold rsE; rw [e, e2]; rfl
  · unfold rsD; rw [e]; rfl
  · unfold rsB; rw [e, e2]; rfl

end Go.Proofs.YtikchpffkhohlaaGreat
