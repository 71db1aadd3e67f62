/- Several texts of one proof, in their order. -/
import Derived.Test.YtikchpffkhohlaaGreatMSum11
import Derived.Test.YtikchpffkhohlaaGreatMeshSavesPart1

namespace Go.Proofs.YtikchpffkhohlaaGreat

open Go.RowKit CurveMath
set_option linter.unusedVariables false


section

variable {P : Ps} {ver : Int} {W : List Nat} {c : Int}

end

section

variable {n : Nat} {b : Bk} {np : Nat} {P : Ps} {need of : Int} {len : Nat} {D : Nat → Int} {lp : Nat} {X : Nat → Int} {W : List Nat} {c : Int}

theorem save_has (h : SaveOk n b np P need of len D lp X) {k : Nat} (hk : k < np) : hasK (saveP n np P need of len D) (n : Int) k = decide (0 ≤ gvn n np P of k) ∧ (0 ≤ gvn n np P of k → atK (saveP n np P need of len D) (n : Int) k = P.m k ∧ P.th k = true) := by
  by_cases c : 0 ≤ gvn n np P of k
  · obtain ⟨e1, e2, _⟩ := save_new h hk c
    have hf : fstAt ((saveP n np P need of len D).t k).V (n : Int) ((saveP n np P need of len D).m k) 0 = ((P.m k : Nat) : Int) := by
      rw [e1]
      have e := fstAt_succ ((saveP n np P need of len D).t k).V (n : Int) (P.m k) 0
      have hno : ¬ 0 ≤ fstAt ((saveP n np P need of len D).t k).V (n : Int) (P.m k) 0 := fun hh => by
        obtain ⟨i, _, hi, e⟩ := (fstAt_neg _ _ _ 0).1 hh
        rw [save_old h hk (by omega)] at e
        have := ((h.mesh.peer k hk).right i (by omega)).1.2
        omega
      rw [Nat.zero_add, if_neg hno, if_pos e2] at e
      exact e
    have hth : P.th k = true := by
      obtain ⟨i, _, hi, e⟩ := gvn_at c
      obtain ⟨q, h1, h2, h3, _⟩ := forA_at h.many hi
      have : q = k := by omega
      subst this
      exact h3.1
    refine ⟨?_, fun _ => ⟨by unfold atK; rw [hf, Int.toNat_natCast], hth⟩⟩
    unfold hasK
    rw [hf, decide_eq_true c, decide_eq_true (by omega), Bool.and_true]
    exact hth
  · refine ⟨?_, fun h => absurd h c⟩
    have hno : ¬ 0 ≤ fstAt ((saveP n np P need of len D).t k).V (n : Int) ((saveP n np P need of len D).m k) 0 := fun hh => by
      rw [save_not (need := need) (len := len) (D := D) c] at hh
      obtain ⟨i, _, hi, e⟩ := (fstAt_neg _ _ _ 0).1 hh
      rw [save_old h hk (by omega)] at e
      have := ((h.mesh.peer k hk).right i (by omega)).1.2
      omega
    unfold hasK
    rw [decide_eq_false hno, decide_eq_false c, Bool.and_false]

end

end Go.Proofs.YtikchpffkhohlaaGreat
