/- The closed fact of chapter 7, in plain words: two are kept, one is dropped. -/
import Derived.Test.YtokebjclbpgljadPeerMath
namespace Go.Proofs.Ytokebjclbpgljad
open Go.RowKit
set_option linter.unusedVariables false

def x7 : Nat → Int := fun i => [(7 : Int)].getD i 0
/-- one is kept, of version 3 -/
def st1 (t : Kt) : Kt := selT (snocT 0 t 3 0 1 x7) [0]
/-- two are kept, of versions 1 and 3 -/
def st2 (t : Kt) : Kt := selT (snocT 1 (st1 t) 1 0 1 x7) [1, 0]
/-- one is left, of version 1 -/
def st3 (t : Kt) : Kt := selT (st2 t) [0]

theorem fam_ok : bookE 5 famB = 0 := by decide
theorem one_ok (k : Nat) (t : Kt) (h1 : 0 ≤ t.V k ∧ t.V k < 5) (h2 : t.N k = 0) (h3 : t.L k = 1) (h4 : t.X k = x7) : oneK famB t k = 0 := by
  unfold oneK
  rw [h2, h3, h4]
  show oneE 1 1 1 0 1 x7 = 0
  decide

theorem pe0 (t : Kt) : peerE 5 famB 2 0 t = 0 := by
  unfold peerE; rw [if_pos fam_ok]; rfl
theorem pe1 (t : Kt) : peerE 5 famB 2 1 (st1 t) = 0 := by
  unfold peerE; rw [if_pos fam_ok, if_pos (by decide), if_pos (by decide)]
  simp only [scanK]
  rw [if_neg (by show ¬ ((3 : Int) < 0 ∨ (5 : Int) ≤ 3); decide), if_neg (by show ¬ ((3 : Int) ≤ -1); decide), if_pos (one_ok 0 (st1 t) (by show (0 : Int) ≤ 3 ∧ (3 : Int) < 5; decide) rfl rfl rfl)]
theorem pe2 (t : Kt) : peerE 5 famB 2 2 (st2 t) = 0 := by
  unfold peerE; rw [if_pos fam_ok, if_pos (by decide), if_pos (by decide)]
  simp only [scanK]
  rw [if_neg (by show ¬ ((1 : Int) < 0 ∨ (5 : Int) ≤ 1); decide), if_neg (by show ¬ ((1 : Int) ≤ -1); decide), if_pos (one_ok 0 (st2 t) (by show (0 : Int) ≤ 1 ∧ (1 : Int) < 5; decide) rfl rfl rfl)]
  rw [if_neg (by show ¬ ((3 : Int) < 0 ∨ (5 : Int) ≤ 3); decide), if_neg (by show ¬ ((3 : Int) ≤ 1); decide), if_pos (one_ok 1 (st2 t) (by show (0 : Int) ≤ 3 ∧ (3 : Int) < 5; decide) rfl rfl rfl)]
theorem pe3 (t : Kt) : peerE 5 famB 2 1 (st3 t) = 0 := by
  unfold peerE; rw [if_pos fam_ok, if_pos (by decide), if_pos (by decide)]
  simp only [scanK]
  rw [if_neg (by show ¬ ((1 : Int) < 0 ∨ (5 : Int) ≤ 1); decide), if_neg (by show ¬ ((1 : Int) ≤ -1); decide), if_pos (one_ok 0 (st3 t) (by show (0 : Int) ≤ 1 ∧ (1 : Int) < 5; decide) rfl rfl rfl)]

theorem fnd (t : Kt) : fstAt (st2 t).V 3 2 0 = 1 ∧ fstAt (st3 t).V 3 1 0 = -1 ∧ fstAt (st3 t).V 1 1 0 = 0 ∧ fstAt (st1 t).V 1 1 0 = -1 := ⟨rfl, rfl, rfl, rfl⟩

theorem but2 (t : Kt) : butL (st2 t) 3 2 = [0] := rfl

/-- the first is kept -/
theorem keep1 {t t' : Kt} {er : Int} {th' : Bool} {room' : Int} {m' : Nat} (h : KeepsTo 5 famB false 2 0 t 3 0 1 x7 er th' room' m' t') : er = 0 ∧ th' = false ∧ room' = 2 ∧ m' = 1 ∧ t' = st1 t := by
  have g : KeepsTo 5 famB false 2 0 t 3 0 1 x7 0 false 2 1 (st1 t) := Or.inr (Or.inr (Or.inr ⟨pe0 t, by decide, (by show (-1 : Int) < 0; decide), [0], ⟨List.Perm.refl _, by simp⟩, (pe1 t).symm, Or.inl ⟨rfl, rfl, rfl, rfl, rfl⟩⟩))
  obtain ⟨h1, h2, h3, h4, h5⟩ := keepsTo_uniq h g
  exact ⟨h1, h2, h3, h4, h5.resolve_left (by omega)⟩

/-- the second is kept, ahead of it -/
theorem keep2 {t t' : Kt} {er : Int} {th' : Bool} {room' : Int} {m' : Nat} (h : KeepsTo 5 famB false 2 1 (st1 t) 1 0 1 x7 er th' room' m' t') : er = 0 ∧ th' = false ∧ room' = 2 ∧ m' = 2 ∧ t' = st2 t := by
  have g : KeepsTo 5 famB false 2 1 (st1 t) 1 0 1 x7 0 false 2 2 (st2 t) := Or.inr (Or.inr (Or.inr ⟨pe1 t, by decide, by rw [(fnd t).2.2.2]; decide, [1, 0], ⟨by decide, by simp only [List.pairwise_cons, List.mem_cons, List.not_mem_nil, or_false, forall_eq]; exact ⟨by show (1 : Int) < 3; decide, by simp, List.Pairwise.nil⟩⟩, (pe2 t).symm, Or.inl ⟨rfl, rfl, rfl, rfl, rfl⟩⟩))
  obtain ⟨h1, h2, h3, h4, h5⟩ := keepsTo_uniq h g
  exact ⟨h1, h2, h3, h4, h5.resolve_left (by omega)⟩

/-- for a third there is no room -/
theorem keep3 {t t' : Kt} {er : Int} {th' : Bool} {room' : Int} {m' : Nat} (h : KeepsTo 5 famB false 2 2 (st2 t) 2 0 1 x7 er th' room' m' t') : er = 8 :=
  (keepsTo_uniq h (t2 := t) (Or.inr (Or.inl ⟨pe2 t, by decide, rfl, rfl, rfl, rfl⟩))).1

/-- one is dropped -/
theorem drop3 {t t' : Kt} {er : Int} {th' : Bool} {room' : Int} {m' : Nat} (h : DropsTo 5 famB false 2 2 (st2 t) 3 er th' room' m' t') : er = 0 ∧ th' = false ∧ room' = 2 ∧ m' = 1 ∧ t' = st3 t := by
  rcases h with ⟨h0, _⟩ | ⟨h0, h1, h2, h3, h4, h5⟩
  · exact absurd (pe2 t) h0
  · exact ⟨h1, h2, h3, h4, h5⟩

/-- what is left is there already -/
theorem keep4 {t t' : Kt} {er : Int} {th' : Bool} {room' : Int} {m' : Nat} (h : KeepsTo 5 famB false 2 1 (st3 t) 1 0 1 x7 er th' room' m' t') : er = 5 :=
  (keepsTo_uniq h (t2 := t) (Or.inr (Or.inr (Or.inl ⟨pe3 t, by decide, by rw [(fnd t).2.2.1]; decide, rfl, rfl, rfl, rfl⟩)))).1

end Go.Proofs.Ytokebjclbpgljad
