/- Several texts of one proof, in their order. -/
import Derived.Test.YtdhefajaekackaaPrSum10
import Derived.Test.YtdhefajaekackaaPrSum8

/- Chapter 7's second law, in plain words: what is kept is found; dropped again it is as it was. -/
namespace Go.Proofs.Ytdhefajaekackaa

open Go.RowKit
set_option linter.unusedVariables false

theorem keptB_of {m : Nat} {t u : Kt} (h : ∀ j, j < m → t.V j = u.V j ∧ t.N j = u.N j ∧ t.L j = u.L j ∧ t.X j = u.X j) : keptB m m t u = true := by
  have h2 : ∀ f k, k + f ≤ m → restK t u f k = true := by
    intro f
    induction f with
    | zero => intro k _; rfl
    | succ f ih =>
      intro k hk
      obtain ⟨h1, h2, h3, h4⟩ := h k (by omega)
      simp only [restK, ih (k + 1) (by omega), Bool.and_true]
      unfold verK sameB eqB
      simp [h1, h2, h3, h4]
  unfold keptB
  rw [h2 m 0 (by omega)]; simp

theorem peerB_of {th : Bool} {room : Int} {m m' : Nat} {t u : Kt} (hm : m = m') (h : ∀ j, j < m → t.V j = u.V j ∧ t.N j = u.N j ∧ t.L j = u.L j ∧ t.X j = u.X j) : peerB th th room room m m' t u = true := by
  subst hm
  unfold peerB
  rw [keptB_of h]; simp

theorem butL_none {t : Kt} {ver : Int} {m : Nat} (h : ∀ j, j < m → t.V j ≠ ver) : butL t ver m = List.range m := by
  unfold butL
  refine List.filter_eq_self.2 fun j hj => ?_
  have := h j (List.mem_range.1 hj)
  simpa using this

theorem getN_mem {l : List Nat} {j : Nat} (h : j < l.length) : l.getD j 0 ∈ l := by
  rw [List.getD_eq_getElem?_getD, List.getElem?_eq_getElem h]
  exact List.getElem_mem h

theorem map_getD_range (l : List Nat) : (List.range l.length).map (fun j => l.getD j 0) = l := by
  refine List.ext_getElem (by simp) fun i h1 h2 => ?_
  simp [List.getD_eq_getElem?_getD, h2]

/-- without what was just kept: the places that were there -/
theorem but_back {t : Kt} {ver N : Int} {L m : Nat} {X : Nat → Int} {l : List Nat} (hl : InOrder (snocT m t ver N L X) (m + 1) l) (hr : ∀ i j, i < j → j < m → t.V i < t.V j) (hn : ∀ j, j < m → t.V j ≠ ver) :
    (butL (selT (snocT m t ver N L X) l) ver (m + 1)).map (fun j => l.getD j 0) = List.range m := by
  have hlen : l.length = m + 1 := by rw [hl.1.length_eq]; simp
  have e1 : (butL (selT (snocT m t ver N L X) l) ver (m + 1)).map (fun j => l.getD j 0) = l.filter fun i => i != m := by
    unfold butL
    have h1 : (l.filter fun i => i != m) = ((List.range l.length).map (fun j => l.getD j 0)).filter fun i => i != m := by rw [map_getD_range]
    rw [h1, List.filter_map, hlen]
    congr 1
    refine List.filter_congr fun j hj => ?_
    have hj2 := List.mem_range.1 hj
    have hm := List.mem_range.1 (hl.1.mem_iff.1 (getN_mem (l := l) (j := j) (by omega)))
    simp only [selT, snocT, Function.comp]
    by_cases e : l.getD j 0 = m
    · rw [e]; simp
    · rw [if_neg e]
      have := hn _ (show l.getD j 0 < m by omega)
      simp only [bne, beq_eq_false_iff_ne.2 this, beq_eq_false_iff_ne.2 e]
  rw [e1]
  refine List.Perm.eq_of_pairwise (le := fun a c => (snocT m t ver N L X).V a < (snocT m t ver N L X).V c) (fun a c _ _ h1 h2 => by omega) (hl.2.filter _) ?_ ?_
  · refine (List.pairwise_lt_range (n := m)).imp_of_mem fun {a c} ha hc hac => ?_
    have h1 := List.mem_range.1 ha
    have h2 := List.mem_range.1 hc
    simp only [snocT, if_neg (show a ≠ m by omega), if_neg (show c ≠ m by omega)]
    exact hr a c hac h2
  · refine (hl.1.filter _).trans ?_
    rw [List.range_succ, List.filter_append]
    have h3 : (List.range m).filter (fun i => i != m) = List.range m := List.filter_eq_self.2 fun j hj => by have := List.mem_range.1 hj; simp; omega
    rw [h3]; simp

/-- dropped again it is as it was -/
theorem back_alike {th : Bool} {room : Int} {t : Kt} {ver N : Int} {L m : Nat} {X : Nat → Int} {l : List Nat} (hl : InOrder (snocT m t ver N L X) (m + 1) l) (hr : ∀ i j, i < j → j < m → t.V i < t.V j) (hn : ∀ j, j < m → t.V j ≠ ver) :
    peerB th th room room (butL (selT (snocT m t ver N L X) l) ver (m + 1)).length m (selT (selT (snocT m t ver N L X) l) (butL (selT (snocT m t ver N L X) l) ver (m + 1))) t = true := by
  have hb := but_back hl hr hn
  have hlen : (butL (selT (snocT m t ver N L X) l) ver (m + 1)).length = m := by have := congrArg List.length hb; simpa using this
  refine peerB_of hlen fun j hj => ?_
  have hg : l.getD ((butL (selT (snocT m t ver N L X) l) ver (m + 1)).getD j 0) 0 = j := by
    have h1 := congrArg (fun q : List Nat => q[j]?) hb
    simp only [List.getElem?_map, List.getElem?_range (show j < m by omega)] at h1
    rw [List.getElem?_eq_getElem hj] at h1
    simp only [Option.map_some, Option.some.injEq] at h1
    rw [show (butL (selT (snocT m t ver N L X) l) ver (m + 1)).getD j 0 = (butL (selT (snocT m t ver N L X) l) ver (m + 1))[j] by rw [List.getD_eq_getElem?_getD, List.getElem?_eq_getElem hj]; rfl]
    exact h1
  simp only [selT]
  simp only [selT] at hg
  rw [hg]
  simp only [snocT, if_neg (show j ≠ m by omega), and_self]

/-- dropped where nothing of it is: as it was -/
theorem none_alike {th : Bool} {room : Int} {t : Kt} {ver : Int} {m : Nat} (hn : ∀ j, j < m → t.V j ≠ ver) : peerB th th room room (butL t ver m).length m (selT t (butL t ver m)) t = true := by
  rw [butL_none hn]
  refine peerB_of (by simp) fun j hj => ?_
  have : (List.range m).getD j 0 = j := by simp at hj; simp [List.getD_eq_getElem?_getD, hj]
  simp only [selT, this, and_self]

theorem fstAt_at (X : Nat → Int) (v : Int) : ∀ (m k : Nat), 0 ≤ fstAt X v m k → ∃ i : Nat, fstAt X v m k = (i : Int) ∧ k ≤ i ∧ i < k + m ∧ X i = v := by
  intro m
  induction m with
  | zero => intro k h; simp [fstAt] at h
  | succ m ih =>
    intro k h
    simp only [fstAt] at h ⊢
    by_cases e : v = X k
    · rw [if_pos e]; exact ⟨k, rfl, Nat.le_refl _, by omega, e.symm⟩
    · rw [if_neg e] at h ⊢
      obtain ⟨i, h1, h2, h3, h4⟩ := ih (k + 1) h
      exact ⟨i, h1, by omega, by omega, h4⟩

/-- what was kept is found, as it was kept -/
theorem found_alike {t : Kt} {ver N : Int} {L m : Nat} {X : Nat → Int} {l : List Nat} (hl : InOrder (snocT m t ver N L X) (m + 1) l) (hn : ∀ j, j < m → t.V j ≠ ver) :
    ∃ i : Nat, fstAt (selT (snocT m t ver N L X) l).V ver (m + 1) 0 = (i : Int) ∧ i < m + 1 ∧ (selT (snocT m t ver N L X) l).N i = N ∧ (selT (snocT m t ver N L X) l).L i = L ∧ (selT (snocT m t ver N L X) l).X i = X := by
  have hlen : l.length = m + 1 := by rw [hl.1.length_eq]; simp
  have hmm : m ∈ l := hl.1.mem_iff.2 (List.mem_range.2 (by omega))
  obtain ⟨k, hk, hke⟩ := List.getElem_of_mem hmm
  have hex : 0 ≤ fstAt (selT (snocT m t ver N L X) l).V ver (m + 1) 0 := (fstAt_neg _ _ _ _).2 ⟨k, Nat.zero_le _, by omega, by simp [selT, snocT, List.getD_eq_getElem?_getD, hk, hke]⟩
  obtain ⟨i, h1, _, h2, h3⟩ := fstAt_at _ _ _ _ hex
  have hi := List.mem_range.1 (hl.1.mem_iff.1 (getN_mem (l := l) (j := i) (by omega)))
  have he : l.getD i 0 = m := by
    by_cases e : l.getD i 0 = m
    · exact e
    · simp only [selT, snocT, if_neg e] at h3
      exact absurd h3 (hn _ (by omega))
  exact ⟨i, h1, by omega, by simp only [selT, snocT, he, if_true], by simp only [selT, snocT, he, if_true], by simp only [selT, snocT, he, if_true]⟩

end Go.Proofs.Ytdhefajaekackaa

/- The closed fact of chapter 7, in plain words: two are kept, one is dropped. -/
namespace Go.Proofs.Ytdhefajaekackaa

open Go.RowKit
set_option linter.unusedVariables false

def x7 : Nat → Int := fun i => [(7 : Int)].getD i 0
/-- one is kept, of version 3 -/
def st1 (t : Kt) : Kt := selT (snocT 0 t 3 0 1 x7) [0]
/-- two are kept, of versions 1 and 3 -/
def st2 (t : Kt) : Kt := selT (snocT 1 (st1 t) 1 0 1 x7) [1, 0]
/-- one is left, of version 1 -/
def st3 (t : Kt) : Kt := selT (st2 t) [0]

theorem fam_ok : bookE 5 famB = 0 := by decide
theorem one_ok (k : Nat) (t : Kt) (h1 : 0 ≤ t.V k ∧ t.V k < 5) (h2 : t.N k = 0) (h3 : t.L k = 1) (h4 : t.X k = x7) : oneK famB t k = 0 := by
  unfold oneK
  rw [h2, h3, h4]
  show oneE 1 1 1 0 1 x7 = 0
  decide

theorem pe0 (t : Kt) : peerE 5 famB 2 0 t = 0 := by
  unfold peerE; rw [if_pos fam_ok]; rfl
theorem pe1 (t : Kt) : peerE 5 famB 2 1 (st1 t) = 0 := by
  unfold peerE; rw [if_pos fam_ok, if_pos (by decide), if_pos (by decide)]
  simp only [scanK]
  rw [if_neg (by show ¬ ((3 : Int) < 0 ∨ (5 : Int) ≤ 3); decide), if_neg (by show ¬ ((3 : Int) ≤ -1); decide), if_pos (one_ok 0 (st1 t) (by show (0 : Int) ≤ 3 ∧ (3 : Int) < 5; decide) rfl rfl rfl)]
theorem pe2 (t : Kt) : peerE 5 famB 2 2 (st2 t) = 0 := by
  unfold peerE; rw [if_pos fam_ok, if_pos (by decide), if_pos (by decide)]
  simp only [scanK]
  rw [if_neg (by show ¬ ((1 : Int) < 0 ∨ (5 : Int) ≤ 1); decide), if_neg (by show ¬ ((1 : Int) ≤ -1); decide), if_pos (one_ok 0 (st2 t) (by show (0 : Int) ≤ 1 ∧ (1 : Int) < 5; decide) rfl rfl rfl)]
  rw [if_neg (by show ¬ ((3 : Int) < 0 ∨ (5 : Int) ≤ 3); decide), if_neg (by show ¬ ((3 : Int) ≤ 1); decide), if_pos (one_ok 1 (st2 t) (by show (0 : Int) ≤ 3 ∧ (3 : Int) < 5; decide) rfl rfl rfl)]
theorem pe3 (t : Kt) : peerE 5 famB 2 1 (st3 t) = 0 := by
  unfold peerE; rw [if_pos fam_ok, if_pos (by decide), if_pos (by decide)]
  simp only [scanK]
  rw [if_neg (by show ¬ ((1 : Int) < 0 ∨ (5 : Int) ≤ 1); decide), if_neg (by show ¬ ((1 : Int) ≤ -1); decide), if_pos (one_ok 0 (st3 t) (by show (0 : Int) ≤ 1 ∧ (1 : Int) < 5; decide) rfl rfl rfl)]

theorem fnd (t : Kt) : fstAt (st2 t).V 3 2 0 = 1 ∧ fstAt (st3 t).V 3 1 0 = -1 ∧ fstAt (st3 t).V 1 1 0 = 0 ∧ fstAt (st1 t).V 1 1 0 = -1 := ⟨rfl, rfl, rfl, rfl⟩

/-- the first is kept -/
theorem keep1 {t t' : Kt} {er : Int} {th' : Bool} {room' : Int} {m' : Nat} (h : KeepsTo 5 famB false 2 0 t 3 0 1 x7 er th' room' m' t') : er = 0 ∧ th' = false ∧ room' = 2 ∧ m' = 1 ∧ t' = st1 t := by
  have g : KeepsTo 5 famB false 2 0 t 3 0 1 x7 0 false 2 1 (st1 t) := Or.inr (Or.inr (Or.inr ⟨pe0 t, by decide, (by show (-1 : Int) < 0; decide), [0], ⟨List.Perm.refl _, by simp⟩, (pe1 t).symm, Or.inl ⟨rfl, rfl, rfl, rfl, rfl⟩⟩))
  obtain ⟨h1, h2, h3, h4, h5⟩ := keepsTo_uniq h g
  exact ⟨h1, h2, h3, h4, h5.resolve_left (by omega)⟩

/-- the second is kept, ahead of it -/
theorem keep2 {t t' : Kt} {er : Int} {th' : Bool} {room' : Int} {m' : Nat} (h : KeepsTo 5 famB false 2 1 (st1 t) 1 0 1 x7 er th' room' m' t') : er = 0 ∧ th' = false ∧ room' = 2 ∧ m' = 2 ∧ t' = st2 t := by
  have g : KeepsTo 5 famB false 2 1 (st1 t) 1 0 1 x7 0 false 2 2 (st2 t) := Or.inr (Or.inr (Or.inr ⟨pe1 t, by decide, by rw [(fnd t).2.2.2]; decide, [1, 0], ⟨by decide, by simp only [List.pairwise_cons, List.mem_cons, List.not_mem_nil, or_false, forall_eq]; exact ⟨by show (1 : Int) < 3; decide, by simp, List.Pairwise.nil⟩⟩, (pe2 t).symm, Or.inl ⟨rfl, rfl, rfl, rfl, rfl⟩⟩))
  obtain ⟨h1, h2, h3, h4, h5⟩ := keepsTo_uniq h g
  exact ⟨h1, h2, h3, h4, h5.resolve_left (by omega)⟩

/-- for a third there is no room -/
theorem keep3 {t t' : Kt} {er : Int} {th' : Bool} {room' : Int} {m' : Nat} (h : KeepsTo 5 famB false 2 2 (st2 t) 2 0 1 x7 er th' room' m' t') : er = 8 :=
  (keepsTo_uniq h (t2 := t) (Or.inr (Or.inl ⟨pe2 t, by decide, rfl, rfl, rfl, rfl⟩))).1

/-- one is dropped -/
theorem drop3 {t t' : Kt} {er : Int} {th' : Bool} {room' : Int} {m' : Nat} (h : DropsTo 5 famB false 2 2 (st2 t) 3 er th' room' m' t') : er = 0 ∧ th' = false ∧ room' = 2 ∧ m' = 1 ∧ t' = st3 t := by
  rcases h with ⟨h0, _⟩ | ⟨h0, h1, h2, h3, h4, h5⟩
  · exact absurd (pe2 t) h0
  · exact ⟨h1, h2, h3, h4, h5⟩

/-- what is left is there already -/
theorem keep4 {t t' : Kt} {er : Int} {th' : Bool} {room' : Int} {m' : Nat} (h : KeepsTo 5 famB false 2 1 (st3 t) 1 0 1 x7 er th' room' m' t') : er = 5 :=
  (keepsTo_uniq h (t2 := t) (Or.inr (Or.inr (Or.inl ⟨pe3 t, by decide, by rw [(fnd t).2.2.1]; decide, rfl, rfl, rfl, rfl⟩)))).1

end Go.Proofs.Ytdhefajaekackaa

/- As MixedTree and MixedTreeLast, where what all orders come to is told once, and the rest is walked once. Plain: it speaks of no program. -/
namespace Go.Proofs.Ytdhefajaekackaa

set_option linter.unusedVariables false

variable {P : Program} {D : World → Prop}

theorem anyL_mono {md : Region.Mode} {ops : Array Oper} {sE : Array Bool} {R R' : Act → World → Prop} (hR : ∀ a w, R a w → R' a w) : ∀ (f : Nat) (seen : Array Bool) (a : Act) (w : World), anyL P md ops D sE R f seen a w → anyL P md ops D sE R' f seen a w := by
  intro f
  induction f with
  | zero => intro seen a w h; exact ⟨h.1, hR _ _ h.2⟩
  | succ f ih => intro seen a w h; exact ⟨h.1, fun i hi => wpOp_ends (fun a' w' h' => ⟨h'.1, ih _ a' w' h'.2⟩) (h.2 i hi)⟩

/-- what all orders come to ahead of the last operation, R; the rest from there -/
theorem region_tree_to {id : Nat} {Q : Exit → Act → World → Prop} {a : Act} {w : World} {l lc : List Oper} (D : World → Prop) (c : Nat) (sE : Array Bool) (f : Nat) (R : Act → World → Prop) (hm : P.follows .mixedOrders = true) (hE : Region.ready .any l.toArray sE = [c]) (hE2 : Region.ready .any l.toArray (sE.setIfInBounds c true) = []) (hf : f + 1 = l.length) (hc : pickO l [c] = lc) (hcs : (l[c]?).isSome = true)
    (h : anyL P .any l.toArray D sE R f (Array.replicate l.length false) a w.drew) (hR : ∀ a' w', R a' w' → wpList P l.toArray Q lc a' w') : (Code.region id l.toArray true).wp P Q a w :=
  region_tree_last D c sE f hm hE hE2 hf hc hcs (anyL_mono hR _ _ _ _ h)

end Go.Proofs.Ytdhefajaekackaa
