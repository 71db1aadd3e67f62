/- What chapter 5's reference answers: does a version come from another one; what is behind a version; which are heads? -/
import Derived.Test.YtmefjflponcfhaeBookSpec
import Derived.Test.YtmefjflponcfhaeTwo
namespace Go.Proofs.Ytmefjflponcfhae
open Go.RowKit
set_option linter.unusedVariables false

/-- does it hold of one of f, from number i on? -/
def anyB (p : Nat → Bool) : Nat → Nat → Bool
  | 0, _ => false
  | f + 1, i => p i || anyB p f (i + 1)

theorem anyB_iff (p : Nat → Bool) : ∀ f i, anyB p f i = true ↔ ∃ j, i ≤ j ∧ j < i + f ∧ p j = true := by
  intro f
  induction f with
  | zero => intro i; simp only [anyB]; exact ⟨fun h => (by cases h), fun ⟨j, h1, h2, _⟩ => (by omega)⟩
  | succ f ih =>
    intro i
    simp only [anyB, Bool.or_eq_true, ih]
    constructor
    · rintro (h | ⟨j, h1, h2, h3⟩)
      · exact ⟨i, Nat.le_refl _, by omega, h⟩
      · exact ⟨j, by omega, by omega, h3⟩
    · rintro ⟨j, h1, h2, h3⟩
      by_cases e : j = i
      · subst e; exact Or.inl h3
      · exact Or.inr ⟨j, by omega, by omega, h3⟩

/-- does version k come from another one? (f: more than k) -/
def frm (b : Bk) : Nat → Nat → Nat → Bool
  | 0, _, _ => false
  | f + 1, k, old => decide (k = old) || anyB (fun i => frm b f (b.PX k i).toNat old) (b.PL k) 0

/-- parents are elder versions -/
def Elder (n : Nat) (b : Bk) : Prop := ∀ k, k < n → ∀ i, i < b.PL k → 0 ≤ b.PX k i ∧ b.PX k i < (k : Int)

theorem parE_ok (k : Int) (X : Nat → Int) : ∀ f i last, parE k X f i last = 0 → (∀ j, i ≤ j → j < i + f → 0 ≤ X j ∧ X j < k ∧ last < X j) ∧ ∀ j, i ≤ j → j + 1 < i + f → X j < X (j + 1) := by
  intro f
  induction f with
  | zero => intro i last _; exact ⟨fun j h1 h2 => by omega, fun j h1 h2 => by omega⟩
  | succ f ih =>
    intro i last h
    simp only [parE] at h
    by_cases c1 : X i < 0 ∨ k ≤ X i
    · rw [if_pos c1] at h; omega
    · rw [if_neg c1] at h
      by_cases c2 : X i ≤ last
      · rw [if_pos c2] at h; omega
      · rw [if_neg c2] at h
        obtain ⟨h1, h2⟩ := ih (i + 1) (X i) h
        have c3 : ¬ X i < 0 := fun hh => c1 (Or.inl hh)
        have c4 : ¬ k ≤ X i := fun hh => c1 (Or.inr hh)
        refine ⟨fun j g1 g2 => ?_, fun j g1 g2 => ?_⟩
        · by_cases e : j = i
          · subst e; omega
          · have := h1 j (by omega) (by omega); omega
        · by_cases e : j = i
          · subst e; exact (h1 (j + 1) (by omega) (by omega)).2.2
          · exact h2 j (by omega) (by omega)

theorem scanV_ok (b : Bk) : ∀ f k, scanV b f k = 0 → ∀ j, k ≤ j → j < k + f → verE b j = 0 := by
  intro f
  induction f with
  | zero => intro k _ j h1 h2; omega
  | succ f ih =>
    intro k h j h1 h2
    simp only [scanV] at h
    by_cases c : verE b k = 0
    · rw [if_pos c] at h
      by_cases e : j = k
      · subst e; exact c
      · exact ih (k + 1) h j (by omega) (by omega)
    · rw [if_neg c] at h; exact absurd h c

/-- a right book -/
structure Right (n : Nat) (b : Bk) : Prop where
  le : n ≤ 12
  elder : Elder n b
  rise : ∀ k, k < n → ∀ i, i + 1 < b.PL k → b.PX k i < b.PX k (i + 1)
  plan : ∀ k, k < n → chkP (b.nd k) (b.of k) (b.sz k) = 0

theorem right_of {n : Nat} {b : Bk} (h : bookE n b = 0) : Right n b := by
  unfold bookE at h
  by_cases hn : n ≤ 12
  · rw [if_pos hn] at h
    have hall := scanV_ok b n 0 h
    have hp : ∀ k, k < n → parE k (b.PX k) (b.PL k) 0 (-1) = 0 ∧ chkP (b.nd k) (b.of k) (b.sz k) = 0 := fun k hk => by
      have h1 := hall k (Nat.zero_le _) (by omega)
      unfold verE at h1
      by_cases c : parE k (b.PX k) (b.PL k) 0 (-1) = 0
      · rw [if_pos c] at h1; exact ⟨c, h1⟩
      · rw [if_neg c] at h1; exact absurd h1 c
    refine ⟨hn, fun k hk i hi => ?_, fun k hk i hi => (parE_ok _ _ _ _ _ (hp k hk).1).2 i (Nat.zero_le _) (by omega), fun k hk => (hp k hk).2⟩
    have := (parE_ok _ _ _ _ _ (hp k hk).1).1 i (Nat.zero_le _) (by omega)
    omega
  · rw [if_neg hn] at h; omega

end Go.Proofs.Ytmefjflponcfhae
