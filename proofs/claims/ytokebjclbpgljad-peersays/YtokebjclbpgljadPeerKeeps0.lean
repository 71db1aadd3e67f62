/- What chapter 7's reference answers: one more is kept. -/
import Derived.Test.YtokebjclbpgljadPeerSortFunc
import Derived.Test.YtokebjclbpgljadMixedTreeLast
namespace Go.Proofs.Ytokebjclbpgljad
open Go.RowKit
set_option linter.unusedVariables false

/-- one more behind m -/
def snocT (m : Nat) (t : Kt) (ver N : Int) (L : Nat) (X : Nat → Int) : Kt := ⟨fun j => if j = m then ver else t.V j, fun j => if j = m then N else t.N j, fun j => if j = m then L else t.L j, fun j => if j = m then X else t.X j⟩

/-- the first K places, by version -/
def InOrder (t : Kt) (K : Nat) (l : List Nat) : Prop := l.Perm (List.range K) ∧ l.Pairwise fun a c => t.V a < t.V c

theorem inOrder_uniq {t : Kt} {K : Nat} {l l' : List Nat} (h : InOrder t K l) (h' : InOrder t K l') : l = l' := by
  refine List.Perm.eq_of_pairwise (le := fun a c => t.V a < t.V c) (fun a c _ _ h1 h2 => ?_) h.2 h'.2 (h.1.trans h'.1.symm)
  omega

/-- what Keep comes to -/
def KeepsTo (n : Nat) (b : Bk) (th : Bool) (room : Int) (m : Nat) (t : Kt) (ver N : Int) (L : Nat) (X : Nat → Int) (er : Int) (th' : Bool) (room' : Int) (m' : Nat) (t' : Kt) : Prop :=
  (peerE n b room m t ≠ 0 ∧ er = peerE n b room m t ∧ th' = false ∧ room' = 0 ∧ m' = 0) ∨
  (peerE n b room m t = 0 ∧ room ≤ (m : Int) ∧ er = 8 ∧ th' = false ∧ room' = 0 ∧ m' = 0) ∨
  (peerE n b room m t = 0 ∧ (m : Int) < room ∧ 0 ≤ fstAt t.V ver m 0 ∧ er = 5 ∧ th' = false ∧ room' = 0 ∧ m' = 0) ∨
  (peerE n b room m t = 0 ∧ (m : Int) < room ∧ fstAt t.V ver m 0 < 0 ∧ ∃ l, InOrder (snocT m t ver N L X) (m + 1) l ∧ er = peerE n b room (m + 1) (selT (snocT m t ver N L X) l) ∧
    ((er = 0 ∧ th' = th ∧ room' = room ∧ m' = m + 1 ∧ t' = selT (snocT m t ver N L X) l) ∨ (er ≠ 0 ∧ th' = false ∧ room' = 0 ∧ m' = 0)))

/-- a peer and an error that were answered -/
def KeepPost (w : World) (n : Nat) (b : Bk) (th : Bool) (room : Int) (m : Nat) (t : Kt) (ver N : Int) (L : Nat) (X : Nat → Int) (e : Ending) (w' : World) : Prop :=
  Below w.heap.size w w' ∧ ∃ (er : Int) (th' : Bool) (room' : Int) (r : Value) (m' : Nat) (UV' : Nat → Value) (t' : Kt), e = .returned (.tuple #[peerV th' room' r, .int .i64 er]) ∧ KeSl w' w'.heap.size r m' UV' t' ∧ KeepsTo n b th room m t ver N L X er th' room' m' t'

theorem fstAt_none {X : Nat → Int} {v : Int} {m : Nat} (h : fstAt X v m 0 < 0) : ∀ j, j < m → X j ≠ v := fun j hj e => by
  have := (fstAt_neg X v m 0).2 ⟨j, Nat.zero_le _, by omega, e⟩
  omega

theorem scanK_rise {n : Nat} {b : Bk} {t : Kt} : ∀ f k last, scanK n b t f k last = 0 → (∀ j, k ≤ j → j < k + f → last < t.V j) ∧ ∀ j, k ≤ j → j + 1 < k + f → t.V j < t.V (j + 1) := by
  intro f
  induction f with
  | zero => intro k last _; exact ⟨fun j h1 h2 => by omega, fun j h1 h2 => by omega⟩
  | succ f ih =>
    intro k last h
    simp only [scanK] at h
    by_cases c1 : t.V k < 0 ∨ (n : Int) ≤ t.V k
    · rw [if_pos c1] at h; omega
    · rw [if_neg c1] at h
      by_cases c2 : t.V k ≤ last
      · rw [if_pos c2] at h; omega
      · rw [if_neg c2] at h
        by_cases c3 : oneK b t k = 0
        · rw [if_pos c3] at h
          obtain ⟨h1, h2⟩ := ih (k + 1) (t.V k) h
          refine ⟨fun j g1 g2 => ?_, fun j g1 g2 => ?_⟩
          · by_cases e : j = k
            · subst e; omega
            · have := h1 j (by omega) (by omega); omega
          · by_cases e : j = k
            · subst e; exact h1 (j + 1) (by omega) (by omega)
            · exact h2 j (by omega) (by omega)
        · rw [if_neg c3] at h; exact absurd h c3

theorem rise_far {X : Nat → Int} {m : Nat} (h : ∀ j, j + 1 < m → X j < X (j + 1)) : ∀ i j, i < j → j < m → X i < X j := by
  intro i j
  induction j with
  | zero => intro h1; omega
  | succ j ih =>
    intro h1 h2
    by_cases e : i = j
    · subst e; exact h i h2
    · have h3 := ih (by omega) (by omega)
      have h4 := h j h2
      omega

/-- what peers in order keep: each version once -/
theorem peerE_ok {n : Nat} {b : Bk} {room : Int} {m : Nat} {t : Kt} (h : peerE n b room m t = 0) : bookE n b = 0 ∧ (0 ≤ room ∧ room ≤ 20) ∧ (m : Int) ≤ room ∧ scanK n b t m 0 (-1) = 0 := by
  unfold peerE at h
  by_cases h1 : bookE n b = 0
  · rw [if_pos h1] at h
    by_cases h2 : 0 ≤ room ∧ room ≤ 20
    · rw [if_pos h2] at h
      by_cases h3 : (m : Int) ≤ room
      · rw [if_pos h3] at h; exact ⟨h1, h2, h3, h⟩
      · rw [if_neg h3] at h; omega
    · rw [if_neg h2] at h; omega
  · rw [if_neg h1] at h; exact absurd h h1

theorem snocT_inj {n : Nat} {b : Bk} {room : Int} {m : Nat} {t : Kt} {ver N : Int} {L : Nat} {X : Nat → Int} (h : peerE n b room m t = 0) (hf : fstAt t.V ver m 0 < 0) : ∀ i j, i < m + 1 → j < m + 1 → (snocT m t ver N L X).V i = (snocT m t ver N L X).V j → i = j := by
  have hr := rise_far (X := t.V) (m := m) (fun j hj => (scanK_rise m 0 (-1) (peerE_ok h).2.2.2).2 j (Nat.zero_le _) (by omega))
  have hn := fstAt_none hf
  intro i j hi hj e
  simp only [snocT] at e
  by_cases ei : i = m
  · by_cases ej : j = m
    · omega
    · rw [if_pos ei, if_neg ej] at e
      exact absurd e.symm (hn j (by omega))
  · by_cases ej : j = m
    · rw [if_neg ei, if_pos ej] at e
      exact absurd e (hn i (by omega))
    · rw [if_neg ei, if_neg ej] at e
      rcases Nat.lt_trichotomy i j with h1 | h1 | h1
      · have := hr i j h1 (by omega); omega
      · exact h1
      · have := hr j i h1 (by omega); omega

end Go.Proofs.Ytokebjclbpgljad
