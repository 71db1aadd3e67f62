/- Several texts of one proof, in their order. -/
import Derived.Test.YtajmnlhfnhbleaaGreatTSum9
import Derived.Test.YtajmnlhfnhbleaaGreatTSum10
import Derived.Test.YtajmnlhfnhbleaaGreatTSum2

namespace Go.Proofs.YtajmnlhfnhbleaaGreat

open Go.RowKit CurveMath
set_option linter.unusedVariables false

def spN (b : Bk) (np : Nat) (P : Ps) (v : Int) : Int := ((thereL P v np).length : Int) - b.nd v.toNat


structure ThS (d m s : Nat) (b : Bk) (np : Nat) (P : Ps) (v : Int) (l : List (Nat × Nat)) : Prop where
  nd : b.nd v.toNat = (d : Int)
  of : b.of v.toNat = (m : Int)
  sz : b.sz v.toNat = (s : Int)
  plan : planOk (d : Int) (m : Int) (s : Int) = true
  le : l.length ≤ m
  at_ : ∀ j, j < l.length → ∃ k i q : Nat, k < np ∧ i < P.m k ∧ (P.t k).V i = v ∧ (P.t k).N i = (q : Int) ∧ q < m ∧ nT P l j = (q : Int) ∧ lT P l j = rowsN (d : Int) (s : Int) ∧ xT P l j = (P.t k).X i ∧ (P.t k).L i = rowsN (d : Int) (s : Int) ∧ ∀ r, r < rowsN (d : Int) (s : Int) → 0 ≤ (P.t k).X i r ∧ (P.t k).X i r ≤ 30
  inj : ∀ i j, i < l.length → j < l.length → nT P l i = nT P l j → i = j

theorem plan_of {n : Nat} {b : Bk} (h : bookE n b = 0) {v : Int} (hv : 0 ≤ v ∧ v < (n : Int)) : ∃ d m s : Nat, b.nd v.toNat = (d : Int) ∧ b.of v.toNat = (m : Int) ∧ b.sz v.toNat = (s : Int) ∧ planOk (d : Int) (m : Int) (s : Int) = true := by
  have h1 := (right_of h).plan v.toNat (by omega)
  unfold chkP at h1
  by_cases c : planOk (b.nd v.toNat) (b.of v.toNat) (b.sz v.toNat) = true
  · obtain ⟨a1, a2, a3⟩ := planOk_spec c
    refine ⟨(b.nd v.toNat).toNat, (b.of v.toNat).toNat, (b.sz v.toNat).toNat, by omega, by omega, by omega, ?_⟩
    rw [show (((b.nd v.toNat).toNat : Nat) : Int) = b.nd v.toNat by omega, show (((b.of v.toNat).toNat : Nat) : Int) = b.of v.toNat by omega, show (((b.sz v.toNat).toNat : Nat) : Int) = b.sz v.toNat by omega]
    exact c
  · rw [if_neg c] at h1; omega

theorem thereS {n : Nat} {b : Bk} {np : Nat} {P : Ps} {v : Int} (hm : MeshR n b np P) (hv : 0 ≤ v ∧ v < (n : Int)) : ∃ d m s : Nat, ThS d m s b np P v (thereL P v np) := by
  obtain ⟨d, m, s, e1, e2, e3, hp⟩ := plan_of hm.book hv
  have hok := thAll_ok P v np np (Nat.le_refl _)
  have hone : ∀ x, x ∈ thereL P v np → x.1 < np ∧ x.2 < P.m x.1 ∧ (P.t x.1).V x.2 = v ∧ oneE (d : Int) (m : Int) (s : Int) ((P.t x.1).N x.2) ((P.t x.1).L x.2) ((P.t x.1).X x.2) = 0 := fun x hx => by
    obtain ⟨h1, h2, h3, h4⟩ := hok.at_ x hx
    have h5 := ((hm.peer x.1 h1).right x.2 h2).2
    unfold oneK at h5
    rw [h4, e1, e2, e3] at h5
    exact ⟨h1, h2, h4, h5⟩
  refine ⟨d, m, s, e1, e2, e3, hp, ?_, fun j hj => ?_, fun i j hi hj e => ?_⟩
  · refine once_len (f := fun x => (P.t x.1).N x.2) hok.once fun x hx => ?_
    obtain ⟨_, _, _, h4⟩ := hone x hx
    have := (oneE_ok h4).2.1
    exact ⟨this.1, by have := this.2; omega⟩
  · obtain ⟨h1, h2, h3, h4⟩ := hone _ (getD_in (d := (0, 0)) hj)
    obtain ⟨_, g2, g3, g4⟩ := oneE_ok h4
    obtain ⟨t1, t2, t3⟩ := tT_eq P (thereL P v np) hj
    obtain ⟨x, hx⟩ : ∃ x, (thereL P v np).getD j (0, 0) = x := ⟨_, rfl⟩
    unfold nL at t1
    unfold lL at t2
    unfold xL at t3
    rw [hx] at h1 h2 h3 h4 g2 g3 g4 t1 t2 t3
    refine ⟨x.1, x.2, ((P.t x.1).N x.2).toNat, h1, h2, h3, by omega, by omega, by rw [← t1]; omega, by rw [← t2]; omega, t3.symm, by omega, fun r hr => ?_⟩
    have h5 := of_decide_eq_true g4 r (by omega)
    unfold isNum at h5
    rw [decide_eq_true_iff] at h5
    exact h5
  · have en : nL P (thereL P v np) i = nL P (thereL P v np) j := by rw [(tT_eq _ _ hi).1, (tT_eq _ _ hj).1]; exact e
    rcases Nat.lt_trichotomy i j with hl | hl | hl
    · exact absurd en (pairwise_getD hok.once hl hj)
    · exact hl
    · exact absurd en.symm (pairwise_getD hok.once hl hi)

section

variable {d m s : Nat} {n : Nat} {b : Bk} {np : Nat} {P : Ps} {v : Int}

theorem ThS.checks (h : ThS d m s b np P v (thereL P v np)) : checksE (d : Int) (m : Int) (s : Int) (thereL P v np).length (nT P (thereL P v np)) (lT P (thereL P v np)) (xT P (thereL P v np)) = if d ≤ (thereL P v np).length then 0 else 7 := by
  obtain ⟨b1, b2, b3⟩ := planOk_spec h.plan
  have hle := h.le
  have hsc : scanS (d : Int) (m : Int) (s : Int) (nT P (thereL P v np)) (lT P (thereL P v np)) (xT P (thereL P v np)) (thereL P v np).length 0 = 0 := scanS_mk _ 0 fun j _ hj => by
    have hj' : j < (thereL P v np).length := by omega
    obtain ⟨k, i, q, _, _, _, _, g4, g5, g6, g7, _, g9⟩ := h.at_ j hj'
    refine ⟨?_, ?_⟩
    · rw [g5, g6, g7]
      exact oneE_mk h.plan ⟨by omega, by omega⟩ rfl g9
    · rw [Bool.eq_false_iff]
      intro hb
      obtain ⟨i', hi, e⟩ := (hasB_iff _ _ _).1 hb
      have := h.inj i' j (by omega) hj' e
      omega
  unfold checksE
  rw [if_pos h.plan, if_pos (by omega), if_pos hsc]
  by_cases c : d ≤ (thereL P v np).length
  · rw [if_pos c, if_pos (by omega)]
  · rw [if_neg c, if_neg (by omega)]

theorem spare_says (hm : MeshR n b np P) (hv : 0 ≤ v ∧ v < (n : Int)) : (spN b np P v < 0 → rsE n b np P v = 7) ∧ (0 ≤ spN b np P v → rsE n b np P v = 0 ∨ rsE n b np P v = 9) := by
  obtain ⟨d, m, s, h⟩ := thereS hm hv
  have hv0 : verM n b np P v = 0 := by unfold verM; rw [if_pos hm.e, if_pos hv]
  have hc := h.checks
  have he : rsE n b np P v = mostE (d : Int) (m : Int) (s : Int) (thereL P v np).length (nT P (thereL P v np)) (lT P (thereL P v np)) (xT P (thereL P v np)) := by unfold rsE; rw [if_pos hv0, h.nd, h.of, h.sz]
  unfold spN
  rw [he, h.nd]
  unfold mostE
  rw [hc]
  constructor
  · intro hs
    rw [show (if d ≤ (thereL P v np).length then (0 : Int) else 7) = 7 from if_neg (by omega), if_neg (show ¬ (7 : Int) = 0 by decide)]
  · intro hs
    rw [show (if d ≤ (thereL P v np).length then (0 : Int) else 7) = 0 from if_pos (by omega), if_pos rfl]
    by_cases c : (mostC (d : Int) (s : Int) (thereL P v np).length (nT P (thereL P v np)) (xT P (thereL P v np))).isSome = true
    · rw [if_pos c]; exact Or.inl rfl
    · rw [if_neg c]; exact Or.inr rfl

end


def thN (P : Ps) (v : Int) (f : Nat) : List Int := (thAll P v f).map fun x => (P.t x.1).N x.2

theorem thN_len (P : Ps) (v : Int) (np : Nat) : (thN P v np).length = (thereL P v np).length := List.length_map _

theorem thN_nodup (P : Ps) (v : Int) (np : Nat) : (thN P v np).Nodup := by
  unfold thN
  rw [List.Nodup, List.pairwise_map]
  exact (thAll_ok P v np np (Nat.le_refl _)).once

theorem seen_thN (P : Ps) (v : Int) (f : Nat) (N : Int) : seenN P (thAll P v f) N = true ↔ N ∈ thN P v f := by
  rw [seenN_iff]
  unfold thN
  rw [List.mem_map]

theorem mem_thN {P : Ps} {v : Int} {np : Nat} (hr : ∀ k, k < np → ∀ i j, i < j → j < P.m k → (P.t k).V i < (P.t k).V j) : ∀ f, f ≤ np → ∀ x, x ∈ thN P v f ↔ ∃ k, k < f ∧ hasK P v k = true ∧ numK P v k = x := by
  intro f
  induction f with
  | zero => intro _ x; simp [thN, thAll_zero]
  | succ f ih =>
    intro hf x
    have hrow := thRow_has (ver := v) (hr f (by omega)) (thAll P v f)
    have e : thN P v (f + 1) = if (hasK P v f && !seenN P (thAll P v f) (numK P v f)) = true then thN P v f ++ [numK P v f] else thN P v f := by
      unfold thN
      rw [thAll_succ, hrow]
      by_cases c : (hasK P v f && !seenN P (thAll P v f) (numK P v f)) = true
      · rw [if_pos c, if_pos c, List.map_append]; rfl
      · rw [if_neg c, if_neg c]
    rw [e]
    have hx := ih (by omega) x
    by_cases c : (hasK P v f && !seenN P (thAll P v f) (numK P v f)) = true
    · rw [if_pos c, List.mem_append, List.mem_singleton, hx]
      rw [Bool.and_eq_true] at c
      constructor
      · rintro (⟨k, h1, h2, h3⟩ | rfl)
        · exact ⟨k, by omega, h2, h3⟩
        · exact ⟨f, by omega, c.1, rfl⟩
      · rintro ⟨k, h1, h2, h3⟩
        by_cases ek : k = f
        · subst ek; exact Or.inr h3.symm
        · exact Or.inl ⟨k, by omega, h2, h3⟩
    · rw [if_neg c, hx]
      constructor
      · rintro ⟨k, h1, h2, h3⟩; exact ⟨k, by omega, h2, h3⟩
      · rintro ⟨k, h1, h2, h3⟩
        by_cases ek : k = f
        · subst ek
          have hs : seenN P (thAll P v k) (numK P v k) = true := by
            cases hh : seenN P (thAll P v k) (numK P v k) with
            | true => rfl
            | false => rw [h2, hh] at c; exact absurd rfl c
          rw [seen_thN, h3, hx] at hs
          exact hs
        · exact ⟨k, by omega, h2, h3⟩

section

variable {n : Nat} {b : Bk} {np : Nat} {P Q : Ps} {v : Int} {k : Nat}

theorem one_less (hP : MeshR n b np P) (hQ : MeshR n b np Q) (h0 : hasK Q v k = false) (hs : ∀ j, j < np → j ≠ k → hasK Q v j = hasK P v j ∧ numK Q v j = numK P v j) :
    spN b np Q v ≤ spN b np P v ∧ spN b np P v ≤ spN b np Q v + 1 ∧ (hasK P v k = false → spN b np Q v = spN b np P v) := by
  have mP := mem_thN (P := P) (v := v) (fun k hk => (hP.peer k hk).rise) np (Nat.le_refl _)
  have mQ := mem_thN (P := Q) (v := v) (fun k hk => (hQ.peer k hk).rise) np (Nat.le_refl _)
  have hsub : ∀ x, x ∈ thN Q v np → x ∈ thN P v np := fun x hx => by
    obtain ⟨j, h1, h2, h3⟩ := (mQ x).1 hx
    have hne : j ≠ k := fun e => by subst e; rw [h0] at h2; cases h2
    obtain ⟨a, c⟩ := hs j h1 hne
    exact (mP x).2 ⟨j, h1, a ▸ h2, by rw [← c]; exact h3⟩
  have hsup : ∀ x, x ∈ thN P v np → x ∈ numK P v k :: thN Q v np := fun x hx => by
    obtain ⟨j, h1, h2, h3⟩ := (mP x).1 hx
    by_cases e : j = k
    · subst e; rw [h3]; exact List.mem_cons_self
    · obtain ⟨a, c⟩ := hs j h1 e
      exact List.mem_cons_of_mem _ ((mQ x).2 ⟨j, h1, a.symm ▸ h2, by rw [c]; exact h3⟩)
  have l1 := nodup_sub _ _ (thN_nodup Q v np) hsub
  have l2 := nodup_sub _ _ (thN_nodup P v np) hsup
  rw [List.length_cons] at l2
  rw [thN_len, thN_len] at l1 l2
  unfold spN
  refine ⟨by omega, by omega, fun hk => ?_⟩
  have hsup2 : ∀ x, x ∈ thN P v np → x ∈ thN Q v np := fun x hx => by
    obtain ⟨j, h1, h2, h3⟩ := (mP x).1 hx
    have hne : j ≠ k := fun e => by subst e; rw [hk] at h2; cases h2
    obtain ⟨a, c⟩ := hs j h1 hne
    exact (mQ x).2 ⟨j, h1, a.symm ▸ h2, by rw [c]; exact h3⟩
  have l3 := nodup_sub _ _ (thN_nodup P v np) hsup2
  rw [thN_len, thN_len] at l3
  omega

theorem one_same {Q' : Ps} (hQ : MeshR n b np Q) (hQ' : MeshR n b np Q') (hs : ∀ j, j < np → hasK Q v j = hasK Q' v j ∧ (hasK Q v j = true → numK Q v j = numK Q' v j)) : spN b np Q v = spN b np Q' v := by
  have m1 := mem_thN (P := Q) (v := v) (fun k hk => (hQ.peer k hk).rise) np (Nat.le_refl _)
  have m2 := mem_thN (P := Q') (v := v) (fun k hk => (hQ'.peer k hk).rise) np (Nat.le_refl _)
  have s1 : ∀ x, x ∈ thN Q v np → x ∈ thN Q' v np := fun x hx => by
    obtain ⟨j, h1, h2, h3⟩ := (m1 x).1 hx
    obtain ⟨a, c⟩ := hs j h1
    exact (m2 x).2 ⟨j, h1, a ▸ h2, by rw [← c h2]; exact h3⟩
  have s2 : ∀ x, x ∈ thN Q' v np → x ∈ thN Q v np := fun x hx => by
    obtain ⟨j, h1, h2, h3⟩ := (m2 x).1 hx
    obtain ⟨a, c⟩ := hs j h1
    have h2' : hasK Q v j = true := a.symm ▸ h2
    exact (m1 x).2 ⟨j, h1, h2', by rw [c h2']; exact h3⟩
  have l1 := nodup_sub _ _ (thN_nodup Q v np) s1
  have l2 := nodup_sub _ _ (thN_nodup Q' v np) s2
  rw [thN_len, thN_len] at l1 l2
  unfold spN
  omega

theorem has_putT {m : Nat} {t : Kt} {j : Nat} (h : j ≠ k) : hasK (putT P k m t) v j = hasK P v j ∧ numK (putT P k m t) v j = numK P v j := by
  have e1 : (putT P k m t).m j = P.m j := by simp [putT, h]
  have e2 : (putT P k m t).t j = P.t j := by simp [putT, h]
  have ea : atK (putT P k m t) v j = atK P v j := by unfold atK; rw [e1, e2]
  refine ⟨by unfold hasK; rw [e1, e2]; rfl, ?_⟩
  unfold numK
  rw [ea, e2]

theorem has_lost {t : Kt} : hasK (putT P k 0 t) v k = false := by
  unfold hasK
  have e1 : (putT P k 0 t).m k = 0 := by simp [putT]
  rw [e1]
  simp [fstAt]

theorem has_putB {x : Bool} {j : Nat} (h : j ≠ k) : hasK (putB P k x) v j = hasK P v j ∧ numK (putB P k x) v j = numK P v j := by
  refine ⟨?_, rfl⟩
  unfold hasK
  have e1 : (putB P k x).th j = P.th j := by simp [putB, h]
  rw [e1]
  rfl

theorem has_gone : hasK (putB P k false) v k = false := by
  unfold hasK
  have e1 : (putB P k false).th k = false := by simp [putB]
  rw [e1, Bool.false_and]

theorem spare_lost (hP : MeshR n b np P) (hk : k < np) : spN b np (putT P k 0 (P.t k)) v ≤ spN b np P v ∧ spN b np P v ≤ spN b np (putT P k 0 (P.t k)) v + 1 ∧ (hasK P v k = false → spN b np (putT P k 0 (P.t k)) v = spN b np P v) :=
  one_less hP (hP.putT (hP.peer k hk).none) has_lost fun j hj hne => has_putT hne

theorem spare_gone (hP : MeshR n b np P) (hk : k < np) : spN b np (putB P k false) v = spN b np (putT P k 0 (P.t k)) v := by
  refine one_same (hP.putB k false) (hP.putT (hP.peer k hk).none) fun j hj => ?_
  by_cases e : j = k
  · subst e
    rw [has_gone, has_lost]
    exact ⟨rfl, fun h => by cases h⟩
  · obtain ⟨a1, a2⟩ := has_putB (P := P) (v := v) (k := k) (x := false) e
    obtain ⟨c1, c2⟩ := has_putT (P := P) (v := v) (k := k) (m := 0) (t := P.t k) e
    exact ⟨by rw [a1, c1], fun _ => by rw [a2, c2]⟩

end


def CleanT (b : Bk) (C : Nat → Nat → Int) (m : Nat) (t : Kt) : Prop := ∀ i, i < m → ∀ r, r < t.L i → t.X i r = shv (b.nd (t.V i).toNat).toNat (b.sz (t.V i).toNat).toNat (C (t.V i).toNat) (t.N i).toNat r

theorem CleanT.sel {b : Bk} {C : Nat → Nat → Int} {m : Nat} {t : Kt} (h : CleanT b C m t) {l : List Nat} (hl : ∀ x, x ∈ l → x < m) : CleanT b C l.length (selT t l) := fun i hi r hr => h _ (hl _ (getD_in hi)) r hr

theorem CleanT.snoc {b : Bk} {C : Nat → Nat → Int} {m : Nat} {t : Kt} (h : CleanT b C m t) {ver N : Int} {L : Nat} {X : Nat → Int} (hX : ∀ r, r < L → X r = shv (b.nd ver.toNat).toNat (b.sz ver.toNat).toNat (C ver.toNat) N.toNat r) : CleanT b C (m + 1) (snocT m t ver N L X) := fun i hi r hr => by
  by_cases e : i = m
  · subst e
    simp only [snocT, if_true] at hr ⊢
    exact hX r hr
  · simp only [snocT, if_neg e] at hr ⊢
    exact h i (by omega) r hr

theorem CleanT.keep {b : Bk} {C : Nat → Nat → Int} {m : Nat} {t : Kt} (h : CleanT b C m t) {ver N : Int} {L : Nat} {X : Nat → Int} (hX : ∀ r, r < L → X r = shv (b.nd ver.toNat).toNat (b.sz ver.toNat).toNat (C ver.toNat) N.toNat r) (ho : InOrder (snocT m t ver N L X) (m + 1) (keepL t ver m)) : CleanT b C (m + 1) (keepT t m ver N L X) := by
  have hs := (h.snoc hX).sel (l := keepL t ver m) fun x hx => List.mem_range.1 (ho.1.mem_iff.1 hx)
  have hl : (keepL t ver m).length = m + 1 := by rw [ho.1.length_eq]; simp
  rw [hl] at hs
  exact hs

theorem CleanT.other {b b' : Bk} {C C' : Nat → Nat → Int} {m : Nat} {t : Kt} (h : CleanT b C m t) (he : ∀ i, i < m → b'.nd (t.V i).toNat = b.nd (t.V i).toNat ∧ b'.sz (t.V i).toNat = b.sz (t.V i).toNat ∧ C' (t.V i).toNat = C (t.V i).toNat) : CleanT b' C' m t := fun i hi r hr => by
  obtain ⟨e1, e2, e3⟩ := he i hi
  rw [e1, e2, e3]
  exact h i hi r hr

structure Clean (m : Ms) (C : Nat → Nat → Int) : Prop where
  right : msE m = 0
  num : ∀ v, v < m.n → ∀ j, j < (m.b.sz v).toNat → 0 ≤ C v j ∧ C v j ≤ 30
  kept : ∀ k, k < m.np → CleanT m.b C (m.P.m k) (m.P.t k)

theorem Clean.rest {m : Ms} {C : Nat → Nat → Int} (h : Clean m C) {v : Int} (hv : 0 ≤ v ∧ v < (m.n : Int)) :
    (spN m.b m.np m.P v < 0 → rsE m.n m.b m.np m.P v = 7) ∧ (0 ≤ spN m.b m.np m.P v → rsE m.n m.b m.np m.P v = 0 ∧ (∀ i : Nat, (i : Int) < m.b.sz v.toNat → rsD m.b m.np m.P v i = C v.toNat i) ∧ rsB m.n m.b m.np m.P v = []) := by
  have hm := ms_right h.right
  refine ⟨(spare_says hm hv).1, fun hs => ?_⟩
  obtain ⟨d, mm, s, hT⟩ := thereS hm hv
  have hv0 : verM m.n m.b m.np m.P v = 0 := by unfold verM; rw [if_pos hm.e, if_pos hv]
  obtain ⟨l, hl⟩ : ∃ l, thereL m.P v m.np = l := ⟨_, rfl⟩
  rw [hl] at hT
  have hS : RightS d mm s (rowsN (d : Int) (s : Int)) l.length (fun j => (nT m.P l j).toNat) (C v.toNat) (nT m.P l) (lT m.P l) (xT m.P l) := by
    refine ⟨hT.plan, rfl, fun j hj => h.num v.toNat (by omega) j (by rw [hT.sz, Int.toNat_natCast]; exact hj), hT.le, fun j => ?_, fun j hj => ?_, fun i j hi hj e => ?_, fun j hj => ?_, fun j hj r hr => ?_⟩
    · by_cases c : j < l.length
      · obtain ⟨_, _, q, _, _, _, _, _, g5, _⟩ := hT.at_ j c
        simp only [g5]
        rfl
      · simp only [nT]
        rw [if_neg c]
        rfl
    · obtain ⟨_, _, q, _, _, _, _, g4, g5, _⟩ := hT.at_ j hj
      simp only [g5, Int.toNat_natCast]
      exact g4
    · obtain ⟨_, _, q1, _, _, _, _, _, g5, _⟩ := hT.at_ i hi
      obtain ⟨_, _, q2, _, _, _, _, _, g6, _⟩ := hT.at_ j hj
      refine hT.inj i j hi hj ?_
      simp only [g5, g6, Int.toNat_natCast] at e
      rw [g5, g6, e]
    · obtain ⟨_, _, _, _, _, _, _, _, _, g6, _⟩ := hT.at_ j hj
      exact g6
    · obtain ⟨k, i, q, g0, g1, g2, g3, g4, g5, g6, g7, g8, _⟩ := hT.at_ j hj
      simp only [g5, Int.toNat_natCast]
      rw [g7, h.kept k g0 i g1 r (by rw [g8]; exact hr), g2, g3, hT.nd, hT.sz, Int.toNat_natCast, Int.toNat_natCast, Int.toNat_natCast]
  unfold spN at hs
  rw [hl, hT.nd] at hs
  obtain ⟨m1, m2, m3⟩ := hS.most (by omega)
  refine ⟨?_, fun i hi => ?_, ?_⟩
  · unfold rsE; rw [if_pos hv0, hl, hT.nd, hT.of, hT.sz]; exact m1
  · unfold rsD; rw [hl, hT.nd, hT.sz]; exact m2 i (by rw [hT.sz] at hi; omega)
  · unfold rsB; rw [if_pos hv0, hl, hT.nd, hT.of, hT.sz]; exact m3

theorem Clean.mend {m : Ms} {C : Nat → Nat → Int} (h : Clean m C) {v : Int} (hv : 0 ≤ v ∧ v < (m.n : Int)) : mendE m.n m.b m.np m.P v = 0 ∨ mendE m.n m.b m.np m.P v = 7 := by
  obtain ⟨h1, h2⟩ := h.rest hv
  unfold mendE
  rcases Int.lt_or_le (spN m.b m.np m.P v) 0 with hs | hs
  · rw [h1 hs, if_neg (by decide)]; exact Or.inr rfl
  · rw [(h2 hs).1, if_pos rfl]
    obtain ⟨d, mm, s, e1, e2, e3, hp⟩ := plan_of (ms_right h.right).book hv
    have hl := planOk_spec hp
    have hle : (lackL m.P v (rowsN (m.b.nd v.toNat) (m.b.sz v.toNat)) (rsS m.b m.np m.P v) m.np (m.b.of v.toNat).toNat).length ≤ (m.b.of v.toNat).toNat := by
      unfold lackL
      exact Nat.le_trans (List.length_filter_le _ _) (by simp)
    unfold fillE manyE
    rw [if_pos ⟨by omega, by omega⟩]
    by_cases c : ((orderL (repP m.P v (rowsN (m.b.nd v.toNat) (m.b.sz v.toNat)) (rsS m.b m.np m.P v) m.np) v m.np).length : Int) < ((lackL m.P v (rowsN (m.b.nd v.toNat) (m.b.sz v.toNat)) (rsS m.b m.np m.P v) m.np (m.b.of v.toNat).toNat).length : Int)
    · rw [if_pos c]; exact Or.inr rfl
    · rw [if_neg c]; exact Or.inl rfl

def contC (m : Ms) (x : Hp) (C : Nat → Nat → Int) : Nat → Nat → Int := if x.kd = 1 ∧ happE m x = 0 then fun v => if v = m.n then x.D else C v else C

theorem Clean.happ {m : Ms} {C : Nat → Nat → Int} (h : Clean m C) {x : Hp} (hb : x.kd ≠ 5) (he : happE m x = 0) : Clean (happM m x) (contC m x C) := by
  have hm := ms_right h.right
  refine ⟨happ_right h.right he, ?_, ?_⟩
  · unfold contC happM
    by_cases c1 : x.kd = 1
    · rw [if_pos c1, if_pos ⟨c1, he⟩]
      unfold happE at he
      rw [if_pos c1] at he
      obtain ⟨_, _, hD⟩ := splitE_ok (saveE_ok he).split
      intro v hv j hj
      by_cases e : v = m.n
      · subst e
        simp only [if_true]
        simp only [saveB, snocB, if_true, Int.toNat_natCast] at hj
        exact hD j hj
      · simp only [if_neg e]
        simp only [saveB, snocB, if_neg e] at hj
        exact h.num v (by have : v < m.n + 1 := hv; omega) j hj
    · rw [if_neg c1, if_neg (show ¬ (x.kd = 1 ∧ happE m x = 0) from fun q => c1 q.1)]
      by_cases c6 : x.kd = 6
      · rw [if_pos c6]; exact h.num
      · rw [if_neg c6]
        by_cases c7 : x.kd = 7
        · rw [if_pos c7]; exact h.num
        · rw [if_neg c7]; exact h.num
  · unfold contC happM
    by_cases c1 : x.kd = 1
    · rw [if_pos c1, if_pos ⟨c1, he⟩]
      unfold happE at he
      rw [if_pos c1] at he
      have hs := saveE_ok he
      intro k hk
      have hk' : k < m.np := hk
      have hlt : ∀ j, j < m.P.m k → (m.P.t k).V j < (m.n : Int) := fun j hj => ((hm.peer k hk').right j hj).1.2
      have hnn : ∀ j, j < m.P.m k → 0 ≤ (m.P.t k).V j := fun j hj => ((hm.peer k hk').right j hj).1.1
      have ho : CleanT (saveB m.n m.b x.need x.of x.len x.lp x.X) (fun v => if v = m.n then x.D else C v) (m.P.m k) (m.P.t k) := (h.kept k hk').other fun i hi => by
        have h1 := hlt i hi
        have h2 := hnn i hi
        have hne : ((m.P.t k).V i).toNat ≠ m.n := by omega
        simp only [saveB, snocB, if_neg hne]
        exact ⟨trivial, trivial, trivial⟩
      show CleanT _ _ ((saveP m.n m.np m.P x.need x.of x.len x.D).m k) ((saveP m.n m.np m.P x.need x.of x.len x.D).t k)
      by_cases g : 0 ≤ gvn m.n m.np m.P x.of k
      · have g' : 0 ≤ fstAt (forA m.P (m.n : Int) m.np x.of.toNat) (k : Int) x.of.toNat 0 := g
        simp only [saveP, giveP]
        rw [if_pos g', if_pos g']
        refine ho.keep (fun r hr => ?_) ?_
        · simp only [saveB, snocB, if_true, Int.toNat_natCast]
        · have hn : ∀ j, j < m.P.m k → (m.P.t k).V j ≠ (m.n : Int) := fun j hj => by have := hlt j hj; omega
          exact put_order (hm.peer k hk').rise hn
      · have g' : ¬ 0 ≤ fstAt (forA m.P (m.n : Int) m.np x.of.toNat) (k : Int) x.of.toNat 0 := g
        simp only [saveP, giveP]
        rw [if_neg g', if_neg g']
        exact ho
    · rw [if_neg c1, if_neg (show ¬ (x.kd = 1 ∧ happE m x = 0) from fun q => c1 q.1)]
      unfold happE at he
      rw [if_neg c1] at he
      by_cases c6 : x.kd = 6
      · rw [if_pos c6] at he ⊢
        intro k hk
        have hk' : k < m.np := hk
        obtain ⟨g1, hF⟩ := mend_ok he
        have hR := h.rest hF.ver_
        have hs : 0 ≤ spN m.b m.np m.P x.N := by
          rcases Int.lt_or_le (spN m.b m.np m.P x.N) 0 with hs | hs
          · rw [hR.1 hs] at g1; omega
          · exact hs
        have hD := (hR.2 hs).2.1
        have hrep : CleanT m.b C ((repP m.P x.N (rowsN (m.b.nd x.N.toNat) (m.b.sz x.N.toNat)) (rsS m.b m.np m.P x.N) m.np).m k) ((repP m.P x.N (rowsN (m.b.nd x.N.toNat) (m.b.sz x.N.toNat)) (rsS m.b m.np m.P x.N) m.np).t k) := by
          obtain ⟨r1, r2⟩ := rep_of (P := m.P) (ver := x.N) (R := rowsN (m.b.nd x.N.toNat) (m.b.sz x.N.toNat)) (S := rsS m.b m.np m.P x.N) hk'
          rw [r1, r2]
          by_cases d : dropK m.P x.N (rowsN (m.b.nd x.N.toNat) (m.b.sz x.N.toNat)) (rsS m.b m.np m.P x.N) k = true
          · rw [if_pos d, if_pos d]
            exact (h.kept k hk').sel fun y hy => butL_lt hy
          · rw [if_neg d, if_neg d]
            exact h.kept k hk'
        show CleanT m.b C ((fillP m.P x.N (rowsN (m.b.nd x.N.toNat) (m.b.sz x.N.toNat)) (rsS m.b m.np m.P x.N) m.np (m.b.of x.N.toNat).toNat).m k) ((fillP m.P x.N (rowsN (m.b.nd x.N.toNat) (m.b.sz x.N.toNat)) (rsS m.b m.np m.P x.N) m.np (m.b.of x.N.toNat).toNat).t k)
        by_cases g : 0 ≤ gotK m.P x.N (rowsN (m.b.nd x.N.toNat) (m.b.sz x.N.toNat)) (rsS m.b m.np m.P x.N) m.np (m.b.of x.N.toNat).toNat k
        · obtain ⟨e1, e2⟩ := fill_new g
          rw [e1, e2]
          refine hrep.keep (fun r hr => ?_) (hF.order hk' g _ _ _).1
          unfold rsS
          rw [Int.toNat_natCast]
          exact shv_congr fun i hi => hD i (by have := hF.ver_; omega)
        · obtain ⟨e1, e2⟩ := fill_old g
          rw [e1, e2]
          exact hrep
      · rw [if_neg c6] at he ⊢
        by_cases c7 : x.kd = 7
        · rw [if_pos c7]
          intro k hk
          have hk' : k < m.np := hk
          show CleanT m.b C ((forgP m.P x.N).m k) ((forgP m.P x.N).t k)
          simp only [forgP]
          by_cases t : m.P.th k = true
          · rw [if_pos t, if_pos t]
            exact (h.kept k hk').sel fun y hy => butL_lt hy
          · rw [if_neg t, if_neg t]
            exact h.kept k hk'
        · rw [if_neg c7] at he ⊢
          by_cases cc : 2 ≤ x.kd ∧ x.kd ≤ 5
          · intro k hk
            have hk' : k < m.np := hk
            show CleanT m.b C ((lonP m x).m k) ((lonP m x).t k)
            unfold lonP
            by_cases c2 : x.kd = 2
            · rw [if_pos c2]; exact h.kept k hk'
            · rw [if_neg c2]
              by_cases c3 : x.kd = 3
              · rw [if_pos c3]; exact h.kept k hk'
              · rw [if_neg c3, if_pos (by omega)]
                by_cases e : k = x.N.toNat
                · simp only [putT, if_pos e]
                  intro i hi
                  exact absurd hi (Nat.not_lt_zero _)
                · simp only [putT, if_neg e]
                  exact h.kept k hk'
          · rw [if_neg cc] at he; omega

def savedL : Ms → List Hp → List (Nat × (Nat → Int))
  | _, [] => []
  | m, x :: l => (if x.kd = 1 ∧ happE m x = 0 then [(x.len, x.D)] else []) ++ savedL (stepM m x) l

theorem step_sz (m : Ms) (x : Hp) {v : Nat} (hv : v < m.n) : (stepM m x).b.sz v = m.b.sz v := by
  unfold stepM
  by_cases c : happE m x = 0
  · rw [if_pos c]
    unfold happM
    by_cases c1 : x.kd = 1
    · rw [if_pos c1]
      have : v ≠ m.n := by omega
      simp [saveB, snocB, this]
    · rw [if_neg c1]
      by_cases c6 : x.kd = 6
      · rw [if_pos c6]
      · rw [if_neg c6]
        by_cases c7 : x.kd = 7
        · rw [if_pos c7]
        · rw [if_neg c7]
  · rw [if_neg c]

theorem step_n (m : Ms) (x : Hp) : (stepM m x).n = if x.kd = 1 ∧ happE m x = 0 then m.n + 1 else m.n := by
  unfold stepM
  by_cases c : happE m x = 0
  · rw [if_pos c, happ_n]
    by_cases c1 : x.kd = 1
    · rw [if_pos c1, if_pos ⟨c1, c⟩]
    · rw [if_neg c1, if_neg (show ¬ (x.kd = 1 ∧ happE m x = 0) from fun q => c1 q.1)]
  · rw [if_neg c, if_neg (fun q => c q.2)]

theorem Clean.run (l : List Hp) : ∀ {m : Ms} {C : Nat → Nat → Int}, Clean m C → (∀ x, x ∈ l → x.kd ≠ 5) → ∃ C', Clean (runM m l) C' ∧ (∀ v, v < m.n → C' v = C v ∧ (runM m l).b.sz v = m.b.sz v) ∧ (runM m l).n = m.n + (savedL m l).length ∧
    ∀ j, j < (savedL m l).length → (runM m l).b.sz (m.n + j) = ((((savedL m l).getD j (0, fun _ => 0)).1 : Nat) : Int) ∧ C' (m.n + j) = ((savedL m l).getD j (0, fun _ => 0)).2 := by
  induction l with
  | nil => intro m C h _; exact ⟨C, h, fun v _ => ⟨rfl, rfl⟩, rfl, fun j hj => absurd hj (Nat.not_lt_zero _)⟩
  | cons x l ih =>
    intro m C h hb
    have hx := hb x List.mem_cons_self
    have hs : Clean (stepM m x) (contC m x C) := by
      unfold stepM
      by_cases c : happE m x = 0
      · rw [if_pos c]; exact h.happ hx c
      · rw [if_neg c]
        have : contC m x C = C := by unfold contC; rw [if_neg (fun q => c q.2)]
        rw [this]; exact h
    obtain ⟨C', i1, i2, i3, i4⟩ := ih hs fun y hy => hb y (List.mem_cons_of_mem _ hy)
    have er : runM m (x :: l) = runM (stepM m x) l := rfl
    have hn := step_n m x
    rw [er]
    by_cases c : x.kd = 1 ∧ happE m x = 0
    · rw [if_pos c] at hn
      have es : savedL m (x :: l) = (x.len, x.D) :: savedL (stepM m x) l := by simp only [savedL]; rw [if_pos c]; rfl
      have hcn : ∀ v, contC m x C v = if v = m.n then x.D else C v := fun v => by unfold contC; rw [if_pos c]
      refine ⟨C', i1, fun v hv => ?_, ?_, fun j hj => ?_⟩
      · obtain ⟨a1, a2⟩ := i2 v (by omega)
        rw [a1, a2, hcn, if_neg (by omega), step_sz m x hv]
        exact ⟨rfl, rfl⟩
      · rw [i3, hn, es, List.length_cons]; omega
      · rw [es] at hj ⊢
        cases j with
        | zero =>
          obtain ⟨a1, a2⟩ := i2 m.n (by omega)
          rw [Nat.add_zero, a1, a2, hcn, if_pos rfl]
          refine ⟨?_, rfl⟩
          unfold stepM
          rw [if_pos c.2]
          unfold happM
          rw [if_pos c.1]
          simp [saveB, snocB]
        | succ j =>
          rw [List.length_cons] at hj
          have := i4 j (by omega)
          rw [hn] at this
          rw [show m.n + (j + 1) = m.n + 1 + j by omega]
          simpa using this
    · rw [if_neg c] at hn
      have es : savedL m (x :: l) = savedL (stepM m x) l := by simp only [savedL]; rw [if_neg c]; rfl
      have hcn : contC m x C = C := by unfold contC; rw [if_neg c]
      rw [hcn] at i2
      refine ⟨C', i1, fun v hv => ?_, ?_, fun j hj => ?_⟩
      · obtain ⟨a1, a2⟩ := i2 v (by omega)
        exact ⟨a1, by rw [a2, step_sz m x hv]⟩
      · rw [i3, hn, es]
      · rw [es] at hj ⊢
        have := i4 j hj
        rw [hn] at this
        exact this

theorem clean_new {len : Nat} {X : Nat → Int} (h : newE len X = 0) : Clean ⟨0, noB, len, freshP X⟩ (fun _ _ => 0) :=
  ⟨h, fun v hv => absurd hv (Nat.not_lt_zero _), fun k hk i hi => absurd hi (Nat.not_lt_zero _)⟩


theorem mend_spare {n : Nat} {b : Bk} {np : Nat} {P : Ps} {v : Int} (h : mendE n b np P v = 0) : spN b np (mendP b np P v) v = b.of v.toNat - b.nd v.toNat := by
  obtain ⟨h1, hF⟩ := mend_ok h
  have h2 := hF.of_
  unfold spN
  rw [show thereL (mendP b np P v) v np = hereH (mendP b np P v) v np from hF.there, show (hereH (mendP b np P v) v np).length = (b.of v.toNat).toNat from hF.count]
  omega

def leaveM (m : Ms) (k : Nat) : Ms := if m.P.th k = true then ⟨m.n, m.b, m.np, putB m.P k false⟩ else m
def leavesM (m : Ms) (l : List Nat) : Ms := l.foldl leaveM m

theorem leave_clean {m : Ms} {C : Nat → Nat → Int} (h : Clean m C) (k : Nat) (v : Int) (hk : k < m.np) : Clean (leaveM m k) C ∧ (leaveM m k).n = m.n ∧ (leaveM m k).b = m.b ∧ (leaveM m k).np = m.np ∧ spN m.b m.np m.P v ≤ spN m.b m.np (leaveM m k).P v + 1 := by
  unfold leaveM
  by_cases c : m.P.th k = true
  · rw [if_pos c]
    have hm := ms_right h.right
    obtain ⟨_, a2, _⟩ := spare_lost (v := v) hm hk
    rw [← spare_gone hm hk] at a2
    exact ⟨⟨(hm.putB k false).e, h.num, h.kept⟩, rfl, rfl, rfl, a2⟩
  · rw [if_neg c]
    exact ⟨h, rfl, rfl, rfl, by omega⟩

theorem leaves_clean (l : List Nat) : ∀ {m : Ms} {C : Nat → Nat → Int}, Clean m C → ∀ v : Int, (∀ k, k ∈ l → k < m.np) → Clean (leavesM m l) C ∧ (leavesM m l).n = m.n ∧ (leavesM m l).b = m.b ∧ (leavesM m l).np = m.np ∧ spN m.b m.np m.P v ≤ spN m.b m.np (leavesM m l).P v + (l.length : Int) := by
  induction l with
  | nil => intro m C h v _; exact ⟨h, rfl, rfl, rfl, by simp [leavesM]⟩
  | cons k l ih =>
    intro m C h v hk
    obtain ⟨a1, a2, a3, a4, a5⟩ := leave_clean h k v (hk k List.mem_cons_self)
    obtain ⟨c1, c2, c3, c4, c5⟩ := ih a1 v fun y hy => by rw [a4]; exact hk y (List.mem_cons_of_mem _ hy)
    have e : leavesM m (k :: l) = leavesM (leaveM m k) l := rfl
    rw [e]
    rw [a3, a4] at c5
    refine ⟨c1, c2.trans a2, c3.trans a3, c4.trans a4, ?_⟩
    rw [List.length_cons]
    omega

end Go.Proofs.YtajmnlhfnhbleaaGreat

namespace Go.Proofs.YtajmnlhfnhbleaaGreat

open Go.RowKit CurveMath
set_option linter.unusedVariables false

def LiSl (w : World) (B : Nat) (v : Value) (n : Nat) (VV : Nat → Value) (L : Nat → Nat) (X : Nat → Nat → Int) : Prop :=
  ∃ (ad : Option Addr) (cap : Nat), v = .slice ad n cap ∧ (n ≤ cap ∧ n * 24 ≤ 140737488351232) ∧ (n = 0 ∨ ∃ bl off, ad = some ⟨bl, off, none⟩ ∧ bl < B ∧ ∀ j, j < n → w.cell? ⟨bl, off + j, none⟩ = some (VV j) ∧ IntSl w B (VV j) (L j) (X j))

def slL (l : List (Nat × (Nat → Int))) (j : Nat) : Nat := (l.getD j (0, fun _ => 0)).1
def slX (l : List (Nat × (Nat → Int))) (j : Nat) : Nat → Int := (l.getD j (0, fun _ => 0)).2

section

variable {w w' : World} {B B' : Nat} {v : Value} {n : Nat} {VV : Nat → Value} {L : Nat → Nat} {X : Nat → Nat → Int}

theorem LiSl.up (h : LiSl w w.heap.size v n VV L X) (hb : Below w.heap.size w w') : LiSl w' w'.heap.size v n VV L X := by
  obtain ⟨ad, cap, h1, h0, h2⟩ := h
  refine ⟨ad, cap, h1, h0, ?_⟩
  rcases h2 with h2 | ⟨bl, off, h3, h4, h5⟩
  · exact Or.inl h2
  · exact Or.inr ⟨bl, off, h3, Nat.lt_of_lt_of_le h4 hb.size, fun j hj => ⟨by rw [hb.cell h4]; exact (h5 j hj).1, (h5 j hj).2.up hb⟩⟩

theorem LiSl.at (h : LiSl w B v n VV L X) {j : Nat} (hj : j < n) : ∃ bl off cap, v = .slice (some ⟨bl, off, none⟩) n cap ∧ bl < B ∧ w.cell? ⟨bl, off + j, none⟩ = some (VV j) ∧ IntSl w B (VV j) (L j) (X j) := by
  obtain ⟨ad, cap, h1, h0, h2⟩ := h
  rcases h2 with h2 | ⟨bl, off, rfl, h4, h5⟩
  · omega
  · exact ⟨bl, off, cap, h1, h4, (h5 j hj).1, (h5 j hj).2⟩

end

def SavedPost (w : World) (er : Int) (l : List (Nat × (Nat → Int))) (e : Ending) (w' : World) : Prop :=
  Below w.heap.size w w' ∧ ∃ (vo : Value) (n : Nat) (VV : Nat → Value), e = .returned (.tuple #[vo, .int .i64 er]) ∧ n = (if er = 0 then l.length else 0) ∧ LiSl w' w'.heap.size vo n VV (slL l) (slX l)

def savE (lr : Nat) (Z : Nat → Int) (len : Nat) : Int := if newE lr Z = 0 then (if len ≤ 100 then 0 else 1) else newE lr Z
def spV (n : Nat) (b : Bk) (np : Nat) (P : Ps) (k : Int) : Int := if verM n b np P k = 0 then spN b np P k else 0

structure TaleOwes : Prop where
  saved : ∀ (vr : Value) (lr : Nat) (Z : Nat → Int) (vs : Value) (len : Nat) (DV QV : Nat → Value) (H : Nat → Hp) (w : World), IntSl w w.heap.size vr lr Z → lr ≤ 1048576 → HpSl w w.heap.size vs len DV QV H →
    Calls Tryz.prog 25 #[vr, vs] w (SavedPost w (savE lr Z len) (savedL ⟨0, noB, lr, freshP Z⟩ (hapL H len)))
  spare : ∀ (vb : Value) (n : Nat) (PV : Nat → Value) (b : Bk) (vl : Value) (np : Nat) (KV : Nat → Value) (UV : Nat → Nat → Value) (P : Ps) (k : Int) (w : World), VeSl w w.heap.size vb n PV b → PsSl w w.heap.size vl np KV UV P →
    Calls Tryz.prog 26 #[meshV vb vl, .int .i64 k] w fun e w' => e = .returned (.tuple #[.int .i64 (spV n b np P k), .int .i64 (verM n b np P k)]) ∧ Below w.heap.size w w'

structure LsInv (w wr : World) (v : Value) (VV : List Value) (l : List (Nat × (Nat → Int))) : Prop where
  below : Below w.heap.size w wr
  own : wr.ownsRow w.heap.size 28 1 v l.length VV
  len : VV.length = l.length
  at_ : ∀ j, j < l.length → IntSl wr wr.heap.size (VV.getD j undef) (slL l j) (slX l j)
  off : ∀ s, v.ownBlock = some s → ∀ j, j < l.length → OfB s (slL l j) (VV.getD j undef)

section

variable {w wr w' : World} {v v' : Value} {VV : List Value} {l : List (Nat × (Nat → Int))}

theorem LsInv.nil (w : World) : LsInv w w (.slice none 0 0) [] [] := ⟨Below.refl _ _, World.ownsRow_nil _ _ _ _, rfl, fun j hj => absurd hj (Nat.not_lt_zero _), fun s hs j hj => absurd hj (Nat.not_lt_zero _)⟩

theorem LsInv.up (h : LsInv w wr v VV l) (hb : Below wr.heap.size wr w') : LsInv w w' v VV l :=
  ⟨h.below.trans (hb.mono h.below.size), owns_below h.own hb, h.len, fun j hj => (h.at_ j hj).up hb, h.off⟩

theorem LsInv.grow {x : Value} {d : Nat} {D : Nat → Int} (h : LsInv w wr v VV l) (hx : IntSl wr wr.heap.size x d D) (ho : ∀ s, v.ownBlock = some s → OfB s d x) (hg : wr.grownBy w' v.ownBlock) (hw : w'.ownsRow w.heap.size 28 1 v' (l.length + 1) (VV ++ [x])) (hat : v'.ownBlock = v.ownBlock ∨ v'.ownBlock = some wr.heap.size) :
    LsInv w w' v' (VV ++ [x]) (l ++ [(d, D)]) := by
  have hlt := h.own.lt
  have hsz := hg.size
  have e1 : ∀ j, j < l.length → slL (l ++ [(d, D)]) j = slL l j ∧ slX (l ++ [(d, D)]) j = slX l j ∧ (VV ++ [x]).getD j undef = VV.getD j undef := fun j hj => by
    have h9 := h.len
    refine ⟨?_, ?_, ?_⟩
    · unfold slL; rw [List.getD_eq_getElem?_getD, List.getD_eq_getElem?_getD, List.getElem?_append_left hj]
    · unfold slX; rw [List.getD_eq_getElem?_getD, List.getD_eq_getElem?_getD, List.getElem?_append_left hj]
    · rw [List.getD_eq_getElem?_getD, List.getD_eq_getElem?_getD, List.getElem?_append_left (by omega)]
  have e2 : slL (l ++ [(d, D)]) l.length = d ∧ slX (l ++ [(d, D)]) l.length = D ∧ (VV ++ [x]).getD l.length undef = x := by
    have h9 := h.len
    refine ⟨?_, ?_, ?_⟩
    · unfold slL; simp
    · unfold slX; simp
    · rw [← h9]; simp
  have hi : ∀ {y : Value} {m : Nat} {Y : Nat → Int}, IntSl wr wr.heap.size y m Y → (∀ s, v.ownBlock = some s → OfB s m y) → IntSl w' w'.heap.size y m Y := fun {y m Y} hy hoy => by
    cases hrow : v.ownBlock with
    | none => rw [hrow] at hg; exact hy.up (below_of_grown hg)
    | some s => rw [hrow] at hg; exact hy.grownO hg (hoy s hrow)
  refine ⟨h.below.grown hg h.below.size fun k hk => (hlt k hk).1, ?_, by rw [List.length_append, List.length_append, h.len]; rfl, fun j hj => ?_, fun s hs j hj => ?_⟩
  · rw [List.length_append]; exact hw
  · rw [List.length_append] at hj
    by_cases c : j < l.length
    · obtain ⟨a1, a2, a3⟩ := e1 j c
      rw [a1, a2, a3]
      exact hi (h.at_ j c) fun s hs => h.off s hs j c
    · obtain rfl : j = l.length := by simp at hj; omega
      obtain ⟨a1, a2, a3⟩ := e2
      rw [a1, a2, a3]
      exact hi hx ho
  · rw [List.length_append] at hj
    by_cases c : j < l.length
    · obtain ⟨a1, a2, a3⟩ := e1 j c
      rw [a1, a3]
      rcases hat with hat | hat
      · exact h.off s (by rw [← hat]; exact hs) j c
      · rw [hat] at hs
        injection hs with hs
        exact offB_isl (h.at_ j c) (by omega)
    · obtain rfl : j = l.length := by simp at hj; omega
      obtain ⟨a1, a2, a3⟩ := e2
      rw [a1, a3]
      rcases hat with hat | hat
      · exact ho s (by rw [← hat]; exact hs)
      · rw [hat] at hs
        injection hs with hs
        exact offB_isl hx (by omega)

theorem LsInv.lisl (h : LsInv w wr v VV l) (hr : l.length * 24 ≤ 140737488351232) : LiSl wr wr.heap.size v l.length (fun j => VV.getD j undef) (slL l) (slX l) := by
  obtain ⟨_, h2⟩ := h.own
  rcases h2 with ⟨e1, e0⟩ | ⟨g, cap, cur, e1, hg, hh, hc1, hc2, hsz, hcur⟩
  · rw [e1, e0]
    exact ⟨none, 0, rfl, ⟨Nat.le_refl _, by omega⟩, Or.inl rfl⟩
  · refine ⟨_, cap, e1, ⟨hc1, hr⟩, Or.inr ⟨g, 0, rfl, (Array.getElem?_eq_some_iff.1 hh).1, fun j hj => ⟨?_, h.at_ j hj⟩⟩⟩
    have h9 : VV[j]? = some (VV.getD j undef) := by
      have := h.len
      rw [List.getD_eq_getElem?_getD, List.getElem?_eq_getElem (by omega)]; rfl
    have h4 : cur[j]? = some (VV.getD j undef) := by
      rw [← hcur, List.getElem?_take] at h9
      rw [if_pos (by omega)] at h9
      rw [hcur] at h9
      simpa using h9
    rw [Nat.zero_add]
    simp [World.cell?, hh, h4]

end

end Go.Proofs.YtajmnlhfnhbleaaGreat

namespace Go.Proofs.YtajmnlhfnhbleaaGreat

open Go.RowKit CurveMath
set_option linter.unusedVariables false

def dnX : Nat → Int := fun i => [(2 : Int), 2, 2].getD i 0
def dnM : Ms := ⟨0, noB, 3, freshP dnX⟩
def dn0 : Nat → Int := fun _ => 0
def dnA : Nat → Int := fun i => [(1 : Int), 2].getD i 0
def dnB : Nat → Int := fun i => [(3 : Int)].getD i 0
def dnC : Nat → Int := fun i => [(0 : Int)].getD i 0
def dnL : List Hp := [⟨1, 0, 0, 2, dnA, 0, dn0, 1, 2⟩, ⟨2, 0, 0, 0, dn0, 0, dn0, 0, 0⟩, ⟨2, 0, 0, 0, dn0, 0, dn0, 0, 0⟩, ⟨6, 0, 0, 0, dn0, 0, dn0, 0, 0⟩, ⟨3, 0, 0, 0, dn0, 0, dn0, 0, 0⟩, ⟨5, 2, 0, 0, dn0, 0, dn0, 0, 0⟩,
  ⟨1, 0, 0, 1, dnB, 1, dnC, 1, 1⟩, ⟨7, 0, 0, 0, dn0, 0, dn0, 0, 0⟩, ⟨7, 1, 0, 0, dn0, 0, dn0, 0, 0⟩, ⟨4, 1, 0, 0, dn0, 0, dn0, 0, 0⟩]

end Go.Proofs.YtajmnlhfnhbleaaGreat

namespace Go.Proofs.YtajmnlhfnhbleaaGreat

set_option linter.unusedVariables false

variable {P : Program} {D : World → Prop}

end Go.Proofs.YtajmnlhfnhbleaaGreat

namespace Go.Proofs.YtajmnlhfnhbleaaGreat

open Go.RowKit CurveMath
set_option linter.unusedVariables false

def wX : Nat → Int := fun i => [(2 : Int), 2, 2, 2, 2].getD i 0
def wD : Nat → Int := fun i => [(5 : Int), 7, 9].getD i 0
def w0 : Nat → Int := fun _ => 0
def wB : Bk := saveB 0 noB 2 4 3 0 w0
def wP (t0 : Bool) (x : Int) : Ps := ⟨fun k => if k = 0 then t0 else true, fun _ => 2, fun k => if k < 4 then 1 else 0, fun k => ⟨fun _ => 0, fun _ => (k : Int), fun _ => 2, fun _ r => if k = 1 ∧ r = 0 then x else ([[(5 : Int), 9], [7, 0], [9, 22], [11, 13]].getD k []).getD r 0⟩⟩

theorem w_new : newE 5 wX = 0 := by decide +kernel
theorem w_save : saveE 0 noB 5 (freshP wX) 2 4 3 wD 0 w0 = 0 := by decide +kernel
theorem w_for : forL (freshP wX) 0 5 4 = [0, 1, 2, 3] := by decide +kernel
theorem w_shv : ∀ k, k < 4 → ∀ r, r < 2 → shv 2 3 wD k r = ([[(5 : Int), 9], [7, 0], [9, 22], [11, 13]].getD k []).getD r 0 := by decide +kernel
theorem w_ok : peersE 1 wB 5 (wP false 7) = 0 ∧ peersE 1 wB 5 (wP false 8) = 0 := by decide +kernel
theorem w_there : thereL (wP false 7) 0 5 = [(1, 0), (2, 0), (3, 0)] ∧ thereL (wP false 8) 0 5 = [(1, 0), (2, 0), (3, 0)] := by decide +kernel
theorem w_e7 : rsE 1 wB 5 (wP false 7) 0 = 0 := by decide +kernel
theorem w_e8 : rsE 1 wB 5 (wP false 8) 0 = 0 := by decide +kernel
theorem w_d7 : eqB 3 3 (rsD wB 5 (wP false 7) 0) wD = true := by decide +kernel
theorem w_none : rsE 1 wB 5 (wP false 7) 1 = 4 := by decide +kernel
theorem w_mend : mendE 1 wB 5 (wP false 7) 0 = 0 := by decide +kernel
theorem w_m4 : (mendP wB 5 (wP false 7) 0).m 4 = 1 ∧ ((mendP wB 5 (wP false 7) 0).t 4).N 0 = 0 := by decide +kernel
theorem w_mok : peersE 1 wB 5 (mendP wB 5 (wP false 7) 0) = 0 := by decide +kernel
theorem w_b7 : (rsB 1 wB 5 (wP false 7) 0).length = 0 := by decide +kernel
theorem w_b8 : (rsB 1 wB 5 (wP false 8) 0).length = 1 := by decide +kernel

end Go.Proofs.YtajmnlhfnhbleaaGreat
