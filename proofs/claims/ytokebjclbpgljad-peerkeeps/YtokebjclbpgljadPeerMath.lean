/- Chapter 7's second law, in plain words: what is kept is found; dropped again it is as it was. -/
import Derived.Test.YtokebjclbpgljadPeerOwes
namespace Go.Proofs.Ytokebjclbpgljad
open Go.RowKit
set_option linter.unusedVariables false

theorem keptB_of {m : Nat} {t u : Kt} (h : ∀ j, j < m → t.V j = u.V j ∧ t.N j = u.N j ∧ t.L j = u.L j ∧ t.X j = u.X j) : keptB m m t u = true := by
  have h2 : ∀ f k, k + f ≤ m → restK t u f k = true := by
    intro f
    induction f with
    | zero => intro k _; rfl
    | succ f ih =>
      intro k hk
      obtain ⟨h1, h2, h3, h4⟩ := h k (by omega)
      simp only [restK, ih (k + 1) (by omega), Bool.and_true]
      unfold verK sameB eqB
      simp [h1, h2, h3, h4]
  unfold keptB
  rw [h2 m 0 (by omega)]; simp

theorem peerB_of {th : Bool} {room : Int} {m m' : Nat} {t u : Kt} (hm : m = m') (h : ∀ j, j < m → t.V j = u.V j ∧ t.N j = u.N j ∧ t.L j = u.L j ∧ t.X j = u.X j) : peerB th th room room m m' t u = true := by
  subst hm
  unfold peerB
  rw [keptB_of h]; simp

theorem butL_none {t : Kt} {ver : Int} {m : Nat} (h : ∀ j, j < m → t.V j ≠ ver) : butL t ver m = List.range m := by
  unfold butL
  refine List.filter_eq_self.2 fun j hj => ?_
  have := h j (List.mem_range.1 hj)
  simpa using this

theorem getN_mem {l : List Nat} {j : Nat} (h : j < l.length) : l.getD j 0 ∈ l := by
  rw [List.getD_eq_getElem?_getD, List.getElem?_eq_getElem h]
  exact List.getElem_mem h

theorem map_getD_range (l : List Nat) : (List.range l.length).map (fun j => l.getD j 0) = l := by
  refine List.ext_getElem (by simp) fun i h1 h2 => ?_
  simp [List.getD_eq_getElem?_getD, h2]

/-- without what was just kept: the places that were there -/
theorem but_back {t : Kt} {ver N : Int} {L m : Nat} {X : Nat → Int} {l : List Nat} (hl : InOrder (snocT m t ver N L X) (m + 1) l) (hr : ∀ i j, i < j → j < m → t.V i < t.V j) (hn : ∀ j, j < m → t.V j ≠ ver) :
    (butL (selT (snocT m t ver N L X) l) ver (m + 1)).map (fun j => l.getD j 0) = List.range m := by
  have hlen : l.length = m + 1 := by rw [hl.1.length_eq]; simp
  have e1 : (butL (selT (snocT m t ver N L X) l) ver (m + 1)).map (fun j => l.getD j 0) = l.filter fun i => i != m := by
    unfold butL
    have h1 : (l.filter fun i => i != m) = ((List.range l.length).map (fun j => l.getD j 0)).filter fun i => i != m := by rw [map_getD_range]
    rw [h1, List.filter_map, hlen]
    congr 1
    refine List.filter_congr fun j hj => ?_
    have hj2 := List.mem_range.1 hj
    have hm := List.mem_range.1 (hl.1.mem_iff.1 (getN_mem (l := l) (j := j) (by omega)))
    simp only [selT, snocT, Function.comp]
    by_cases e : l.getD j 0 = m
    · rw [e]; simp
    · rw [if_neg e]
      have := hn _ (show l.getD j 0 < m by omega)
      simp only [bne, beq_eq_false_iff_ne.2 this, beq_eq_false_iff_ne.2 e]
  rw [e1]
  refine List.Perm.eq_of_pairwise (le := fun a c => (snocT m t ver N L X).V a < (snocT m t ver N L X).V c) (fun a c _ _ h1 h2 => by omega) (hl.2.filter _) ?_ ?_
  · refine (List.pairwise_lt_range (n := m)).imp_of_mem fun {a c} ha hc hac => ?_
    have h1 := List.mem_range.1 ha
    have h2 := List.mem_range.1 hc
    simp only [snocT, if_neg (show a ≠ m by omega), if_neg (show c ≠ m by omega)]
    exact hr a c hac h2
  · refine (hl.1.filter _).trans ?_
    rw [List.range_succ, List.filter_append]
    have h3 : (List.range m).filter (fun i => i != m) = List.range m := List.filter_eq_self.2 fun j hj => by have := List.mem_range.1 hj; simp; omega
    rw [h3]; simp

/-- dropped again it is as it was -/
theorem back_alike {th : Bool} {room : Int} {t : Kt} {ver N : Int} {L m : Nat} {X : Nat → Int} {l : List Nat} (hl : InOrder (snocT m t ver N L X) (m + 1) l) (hr : ∀ i j, i < j → j < m → t.V i < t.V j) (hn : ∀ j, j < m → t.V j ≠ ver) :
    peerB th th room room (butL (selT (snocT m t ver N L X) l) ver (m + 1)).length m (selT (selT (snocT m t ver N L X) l) (butL (selT (snocT m t ver N L X) l) ver (m + 1))) t = true := by
  have hb := but_back hl hr hn
  have hlen : (butL (selT (snocT m t ver N L X) l) ver (m + 1)).length = m := by have := congrArg List.length hb; simpa using this
  refine peerB_of hlen fun j hj => ?_
  have hg : l.getD ((butL (selT (snocT m t ver N L X) l) ver (m + 1)).getD j 0) 0 = j := by
    have h1 := congrArg (fun q : List Nat => q[j]?) hb
    simp only [List.getElem?_map, List.getElem?_range (show j < m by omega)] at h1
    rw [List.getElem?_eq_getElem hj] at h1
    simp only [Option.map_some, Option.some.injEq] at h1
    rw [show (butL (selT (snocT m t ver N L X) l) ver (m + 1)).getD j 0 = (butL (selT (snocT m t ver N L X) l) ver (m + 1))[j] by rw [List.getD_eq_getElem?_getD, List.getElem?_eq_getElem hj]; rfl]
    exact h1
  simp only [selT]
  simp only [selT] at hg
  rw [hg]
  simp only [snocT, if_neg (show j ≠ m by omega), and_self]

/-- dropped where nothing of it is: as it was -/
theorem none_alike {th : Bool} {room : Int} {t : Kt} {ver : Int} {m : Nat} (hn : ∀ j, j < m → t.V j ≠ ver) : peerB th th room room (butL t ver m).length m (selT t (butL t ver m)) t = true := by
  rw [butL_none hn]
  refine peerB_of (by simp) fun j hj => ?_
  have : (List.range m).getD j 0 = j := by simp at hj; simp [List.getD_eq_getElem?_getD, hj]
  simp only [selT, this, and_self]

theorem fstAt_at (X : Nat → Int) (v : Int) : ∀ (m k : Nat), 0 ≤ fstAt X v m k → ∃ i : Nat, fstAt X v m k = (i : Int) ∧ k ≤ i ∧ i < k + m ∧ X i = v := by
  intro m
  induction m with
  | zero => intro k h; simp [fstAt] at h
  | succ m ih =>
    intro k h
    simp only [fstAt] at h ⊢
    by_cases e : v = X k
    · rw [if_pos e]; exact ⟨k, rfl, Nat.le_refl _, by omega, e.symm⟩
    · rw [if_neg e] at h ⊢
      obtain ⟨i, h1, h2, h3, h4⟩ := ih (k + 1) h
      exact ⟨i, h1, by omega, by omega, h4⟩

/-- what was kept is found, as it was kept -/
theorem found_alike {t : Kt} {ver N : Int} {L m : Nat} {X : Nat → Int} {l : List Nat} (hl : InOrder (snocT m t ver N L X) (m + 1) l) (hn : ∀ j, j < m → t.V j ≠ ver) :
    ∃ i : Nat, fstAt (selT (snocT m t ver N L X) l).V ver (m + 1) 0 = (i : Int) ∧ i < m + 1 ∧ (selT (snocT m t ver N L X) l).N i = N ∧ (selT (snocT m t ver N L X) l).L i = L ∧ (selT (snocT m t ver N L X) l).X i = X := by
  have hlen : l.length = m + 1 := by rw [hl.1.length_eq]; simp
  have hmm : m ∈ l := hl.1.mem_iff.2 (List.mem_range.2 (by omega))
  obtain ⟨k, hk, hke⟩ := List.getElem_of_mem hmm
  have hex : 0 ≤ fstAt (selT (snocT m t ver N L X) l).V ver (m + 1) 0 := (fstAt_neg _ _ _ _).2 ⟨k, Nat.zero_le _, by omega, by simp [selT, snocT, List.getD_eq_getElem?_getD, hk, hke]⟩
  obtain ⟨i, h1, _, h2, h3⟩ := fstAt_at _ _ _ _ hex
  have hi := List.mem_range.1 (hl.1.mem_iff.1 (getN_mem (l := l) (j := i) (by omega)))
  have he : l.getD i 0 = m := by
    by_cases e : l.getD i 0 = m
    · exact e
    · simp only [selT, snocT, if_neg e] at h3
      exact absurd h3 (hn _ (by omega))
  exact ⟨i, h1, by omega, by simp only [selT, snocT, he, if_true], by simp only [selT, snocT, he, if_true], by simp only [selT, snocT, he, if_true]⟩

end Go.Proofs.Ytokebjclbpgljad
