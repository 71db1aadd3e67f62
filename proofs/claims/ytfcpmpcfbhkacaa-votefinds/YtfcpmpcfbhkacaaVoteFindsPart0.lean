/- Several texts of one proof, in their order. -/
import Derived.Test.YtfcpmpcfbhkacaaVb20

/- What most shares are of: no content that some of them make has more of them; two contents have few shares in common. Plain: it speaks of no program. -/
namespace Go.Proofs.Ytfcpmpcfbhkacaa

open Go.RowKit CurveMath
set_option linter.unusedVariables false

theorem comb_rise (m : Nat) : ∀ (k i : Nat) (c : List Nat), c ∈ comb k (List.range' i m) → c.Pairwise (· < ·) ∧ (∀ x ∈ c, i ≤ x ∧ x < i + m) ∧ c.length = k := by
  induction m with
  | zero =>
    intro k i c h
    cases k with
    | zero => simp [comb] at h; subst h; exact ⟨List.Pairwise.nil, fun x hx => (by cases hx), rfl⟩
    | succ k => simp [comb] at h
  | succ m ih =>
    intro k i c h
    cases k with
    | zero => simp [comb] at h; subst h; exact ⟨List.Pairwise.nil, fun x hx => (by cases hx), rfl⟩
    | succ k =>
      rw [List.range'_succ, comb, List.mem_append] at h
      rcases h with h | h
      · obtain ⟨t, ht, rfl⟩ := List.mem_map.1 h
        obtain ⟨h1, h2, h3⟩ := ih k (i + 1) t ht
        refine ⟨List.pairwise_cons.2 ⟨fun x hx => by have := h2 x hx; omega, h1⟩, fun x hx => ?_, by simp [h3]⟩
        rcases List.mem_cons.1 hx with rfl | hx
        · omega
        · have := h2 x hx; omega
      · obtain ⟨h1, h2, h3⟩ := ih (k + 1) (i + 1) c h
        exact ⟨h1, fun x hx => by have := h2 x hx; omega, h3⟩

theorem comb_mem (m : Nat) : ∀ (k i : Nat) (c : List Nat), c.Pairwise (· < ·) → (∀ x ∈ c, i ≤ x ∧ x < i + m) → c.length = k → c ∈ comb k (List.range' i m) := by
  induction m with
  | zero =>
    intro k i c h1 h2 h3
    cases c with
    | nil => simp at h3; subst h3; simp [comb]
    | cons a c => have := h2 a (List.mem_cons_self); omega
  | succ m ih =>
    intro k i c h1 h2 h3
    cases c with
    | nil => simp at h3; subst h3; simp [comb]
    | cons a c =>
      simp at h3
      subst h3
      rw [List.range'_succ, comb, List.mem_append]
      obtain ⟨g1, g2⟩ := List.pairwise_cons.1 h1
      by_cases ha : a = i
      · subst ha
        refine Or.inl (List.mem_map.2 ⟨c, ih _ (a + 1) c g2 (fun x hx => ?_) rfl, rfl⟩)
        have e1 := g1 x hx
        have e2 := h2 x (List.mem_cons_of_mem _ hx)
        omega
      · refine Or.inr (ih _ (i + 1) (a :: c) h1 (fun x hx => ?_) (by simp))
        have e2 := h2 x hx
        have e3 := h2 a List.mem_cons_self
        rcases List.mem_cons.1 hx with rfl | hx'
        · omega
        · have e1 := g1 x hx'
          omega

section

variable {d m s R n : Nat} {N : Nat → Int} {L : Nat → Nat} {X : Nat → Nat → Int}

theorem comb_good {c : List Nat} (h : c ∈ comb d (List.range n)) : Rise n c ∧ c.length = d := by
  rw [List.range_eq_range'] at h
  obtain ⟨h1, h2, h3⟩ := comb_rise n d 0 c h
  exact ⟨⟨h1, fun x hx => by have := h2 x hx; omega⟩, h3⟩

theorem good_comb {c : List Nat} (h : Rise n c) (hl : c.length = d) : c ∈ comb d (List.range n) := by
  rw [List.range_eq_range']
  exact comb_mem n d 0 c h.1 (fun x hx => by have := h.2 x hx; omega) hl

theorem fold_some (l : List (List Nat)) : ∀ (st : Option (List Nat)) (c : List Nat), l.foldl (stepV d s R n N X) st = some c →
    (st = some c ∨ (c ∈ l ∧ mkB d s R N X c = true)) ∧ (∀ b, st = some b → (badL d s R n N X (conD d N X c)).length ≤ (badL d s R n N X (conD d N X b)).length) ∧
      ∀ c' ∈ l, mkB d s R N X c' = true → (badL d s R n N X (conD d N X c)).length ≤ (badL d s R n N X (conD d N X c')).length := by
  induction l with
  | nil => intro st c h; exact ⟨Or.inl h, fun b hb => by rw [List.foldl_nil] at h; rw [h] at hb; injection hb with hb; rw [hb]; exact Nat.le_refl _, fun c' hc => by cases hc⟩
  | cons a l ih =>
    intro st c h
    rw [List.foldl_cons] at h
    obtain ⟨h1, h2, h3⟩ := ih _ c h
    cases hm : mkB d s R N X a with
    | false =>
      have e : stepV d s R n N X st a = st := by unfold stepV; rw [if_neg (by rw [hm]; decide)]
      rw [e] at h1 h2
      refine ⟨?_, h2, fun c' hc hm' => ?_⟩
      · rcases h1 with h1 | ⟨h1, h4⟩
        · exact Or.inl h1
        · exact Or.inr ⟨List.mem_cons_of_mem _ h1, h4⟩
      · rcases List.mem_cons.1 hc with rfl | hc
        · rw [hm] at hm'; cases hm'
        · exact h3 c' hc hm'
    | true =>
      have e : ∃ b', stepV d s R n N X st a = some b' ∧ (b' = a ∨ st = some b') ∧ (badL d s R n N X (conD d N X b')).length ≤ (badL d s R n N X (conD d N X a)).length ∧ ∀ b, st = some b → (badL d s R n N X (conD d N X b')).length ≤ (badL d s R n N X (conD d N X b)).length := by
        unfold stepV
        rw [if_pos hm]
        cases st with
        | none => exact ⟨a, rfl, Or.inl rfl, Nat.le_refl _, fun b hb => by cases hb⟩
        | some b0 =>
          by_cases hlt : (badL d s R n N X (conD d N X a)).length < (badL d s R n N X (conD d N X b0)).length
          · exact ⟨a, by simp only [hlt, if_true], Or.inl rfl, Nat.le_refl _, fun b hb => by injection hb with hb; subst hb; omega⟩
          · exact ⟨b0, by simp only [hlt, if_false], Or.inr rfl, by omega, fun b hb => by injection hb with hb; subst hb; exact Nat.le_refl _⟩
      obtain ⟨b', e1, e2, e3, e4⟩ := e
      have h5 := h2 b' e1
      refine ⟨?_, fun b hb => Nat.le_trans h5 (e4 b hb), fun c' hc hm' => ?_⟩
      · rcases h1 with h1 | ⟨h1, h4⟩
        · rw [e1] at h1
          injection h1 with h1
          subst h1
          rcases e2 with rfl | e2
          · exact Or.inr ⟨List.mem_cons_self, hm⟩
          · exact Or.inl e2
        · exact Or.inr ⟨List.mem_cons_of_mem _ h1, h4⟩
      · rcases List.mem_cons.1 hc with rfl | hc
        · exact Nat.le_trans h5 e3
        · exact h3 c' hc hm'

theorem fold_stuck (l : List (List Nat)) : ∀ (st : Option (List Nat)), l.foldl (stepV d s R n N X) st = none → st = none ∧ ∀ c' ∈ l, mkB d s R N X c' = false := by
  induction l with
  | nil => intro st h; exact ⟨h, fun c' hc => by cases hc⟩
  | cons a l ih =>
    intro st h
    rw [List.foldl_cons] at h
    obtain ⟨h1, h2⟩ := ih _ h
    unfold stepV at h1
    cases hm : mkB d s R N X a with
    | false =>
      rw [if_neg (by rw [hm]; decide)] at h1
      refine ⟨h1, fun c' hc => ?_⟩
      rcases List.mem_cons.1 hc with rfl | hc
      · exact hm
      · exact h2 c' hc
    | true =>
      rw [if_pos hm] at h1
      cases st with
      | none => cases h1
      | some b0 =>
        simp only at h1
        split at h1 <;> cases h1

theorem elect_some {c : List Nat} (h : electV d s R n N X = some c) : c ∈ comb d (List.range n) ∧ mkB d s R N X c = true ∧ ∀ c' ∈ comb d (List.range n), mkB d s R N X c' = true → (badL d s R n N X (conD d N X c)).length ≤ (badL d s R n N X (conD d N X c')).length := by
  obtain ⟨h1, _, h3⟩ := fold_some _ _ _ h
  rcases h1 with h1 | h1
  · cases h1
  · exact ⟨h1.1, h1.2, h3⟩

theorem elect_is {c' : List Nat} (hc : c' ∈ comb d (List.range n)) (hm : mkB d s R N X c' = true) : ∃ c, electV d s R n N X = some c := by
  cases h : electV d s R n N X with
  | some c => exact ⟨c, rfl⟩
  | none =>
    have := (fold_stuck _ _ h).2 c' hc
    rw [hm] at this
    cases this

/-- places in whatever order: a rising choice makes the same -/
theorem choice_of (hS : Shares d m s R n N L X) {O : Nat → Nat} (ho : ∀ j, j < d → O j < n) (hi : ∀ i j, i < d → j < d → O i = O j → i = j) :
    ∃ c, Rise n c ∧ c.length = d ∧ ∀ i, i < R * d → conD d N X c i = joinD d (fun j => N (O j)) (fun j => X (O j)) i := by
  obtain ⟨c, hc⟩ : ∃ c, (List.range n).filter (fun x => decide (∃ j, j < d ∧ O j = x)) = c := ⟨_, rfl⟩
  have hmem : ∀ x, x ∈ c ↔ ∃ j, j < d ∧ O j = x := fun x => by
    rw [← hc, List.mem_filter, List.mem_range, decide_eq_true_eq]
    exact ⟨fun h => h.2, fun ⟨j, hj, e⟩ => ⟨by have := ho j hj; omega, j, hj, e⟩⟩
  have hpw : c.Pairwise (· < ·) := by rw [← hc]; exact List.Pairwise.filter _ List.pairwise_lt_range
  have hR : Rise n c := ⟨hpw, fun x hx => by obtain ⟨j, hj, e⟩ := (hmem x).1 hx; have := ho j hj; omega⟩
  have hnd : c.Nodup := hpw.imp (fun h => by omega)
  have hnd2 : ((List.range d).map O).Nodup := by
    rw [List.nodup_iff_pairwise_ne, List.pairwise_map]
    refine List.Pairwise.imp_of_mem ?_ List.pairwise_lt_range
    intro i j hi' hj' hlt e
    have := hi i j (List.mem_range.1 hi') (List.mem_range.1 hj') e
    omega
  have hperm : ((List.range d).map O).Perm c := (List.perm_ext_iff_of_nodup hnd2 hnd).2 fun x => by
    rw [hmem x, List.mem_map]
    exact ⟨fun ⟨j, hj, e⟩ => ⟨j, List.mem_range.1 hj, e⟩, fun ⟨j, hj, e⟩ => ⟨j, List.mem_range.2 hj, e⟩⟩
  have hlen : c.length = d := by rw [← hperm.length_eq]; simp
  refine ⟨c, hR, hlen, fun i hi' => ?_⟩
  have hle := hS.le
  have hd : 0 < d := Nat.pos_of_ne_zero fun e => by subst e; omega
  have hr : i / d < R := (Nat.div_lt_iff_lt_mul hd).2 hi'
  obtain ⟨b1, b2, b3⟩ := planOk_spec hS.plan
  have g0 : Good d d (fun j => N (O j)) (fun j => X (O j) (i / d)) := ⟨rfl, ⟨by omega, by omega⟩, fun j hj => by have := hS.who _ (ho j hj); show 0 ≤ N (O j) ∧ N (O j) ≤ 30; omega, fun j hj => hS.num _ (ho j hj) _ hr, fun a b ha hb e => hi a b ha hb (hS.inj _ _ (ho a ha) (ho b hb) e)⟩
  have g1 := (hS.take hR hlen).good (i / d) hr
  unfold conD joinD
  refine crv_alike g0 g1 (Nat.le_refl _) (fun j hj => ?_) _
  obtain ⟨q, hq, e⟩ := (hmem (c.getD j 0)).1 (getD_memV (by omega))
  show X (c.getD j 0) (i / d) = crv d (fun j => N (O j)) (fun j => X (O j) (i / d)) (N (c.getD j 0))
  rw [← e]
  exact (crv_own g0 q hq).symm

/-- where all shares are of a content, they are joined to it -/
theorem all_alike (hS : Shares d m s R n N L X) {D : Nat → Int} (hD : ∀ j, j < s → 0 ≤ D j ∧ D j ≤ 30) (hall : ∀ j, j < n → alB d s R N X D j = true) :
    joinE (d : Int) (m : Int) (s : Int) n N L X = 0 ∧ ∀ i, i < R * d → joinD d N X i = padD s D i := by
  have hle := hS.le
  obtain ⟨b1, b2, b3⟩ := planOk_spec hS.plan
  have ho : ∀ j, j < d → (N j).toNat < 8 := fun j hj => by have := hS.who j (by omega); omega
  have hN : ∀ j, j < n → (((N j).toNat : Nat) : Int) = N j := fun j hj => by have := hS.who j hj; omega
  have hin : ∀ i j, i < d → j < d → (N i).toNat = (N j).toNat → i = j := fun i j hi hj e => hS.inj i j (by omega) (by omega) (by rw [← hN i (by omega), ← hN j (by omega), e])
  have hcrv : ∀ r, r < R → ∀ t, crv d N (fun i => X i r) t = crv d (fun i => (i : Int)) (fun i => padD s D (r * d + i)) t := fun r hr t => by
    rw [← crv_pick (O := fun j => (N j).toNat) (by omega) hD ho hin r t]
    have g := hS.good r hr
    refine (crv_congr (g.3) g (fun j hj => hN j (by omega)) (fun j hj => ?_)).symm
    exact (of_decide_eq_true (hall j (by omega)) r hr).symm
  have hjd : ∀ i, i < R * d → joinD d N X i = padD s D i := fun i hi => by
    have hd : 0 < d := by omega
    have hr : i / d < R := (Nat.div_lt_iff_lt_mul hd).2 hi
    unfold joinD
    rw [hcrv _ hr]
    have h := crv_own (good_row ⟨by omega, by omega⟩ hD (i / d)) (i % d) (Nat.mod_lt i hd)
    have e : i / d * d + i % d = i := by rw [Nat.mul_comm]; exact Nat.div_add_mod i d
    rw [e] at h
    exact h
  have hm : madeB d s R N X = true := decide_eq_true fun i hi => by
    rw [hjd i hi]
    unfold padD
    by_cases h : i < s
    · exact Or.inl h
    · exact Or.inr (by rw [if_neg h])
  refine ⟨?_, hjd⟩
  rw [joinE_checks, if_pos hS.checks, Int.toNat_natCast, Int.toNat_natCast, hS.rows, torn_iff hm (fun j hj => decide_eq_true fun r hr => ?_)]
  · rfl
  · rw [hcrv r hr, ← hN j hj]
    exact (of_decide_eq_true (hall j hj) r hr).symm

end

/-- what a number is named for -/
theorem mem_bad {d s R n : Nat} {N : Nat → Int} {X : Nat → Nat → Int} {D : Nat → Int} (hi : ∀ i j, i < n → j < n → N i = N j → i = j) {j : Nat} (hj : j < n) : N j ∈ srt (badL d s R n N X D) ↔ alB d s R N X D j = false := by
  unfold srt
  rw [(List.mergeSort_perm _ _).mem_iff]
  unfold badL
  rw [List.mem_map]
  constructor
  · rintro ⟨i, hi', e⟩
    obtain ⟨h1, h2⟩ := List.mem_filter.1 hi'
    have := hi i j (List.mem_range.1 h1) hj e
    subst this
    simpa using h2
  · intro h
    exact ⟨j, List.mem_filter.2 ⟨List.mem_range.2 hj, by rw [h]; rfl⟩, rfl⟩

/-- two contents that have as many shares in common as are enough are one -/
theorem same_content {d s R : Nat} {D E : Nat → Int} {O : Nat → Nat} (hd : 1 ≤ d ∧ d ≤ 8) (hs : s ≤ R * d) (hD : ∀ j, j < s → 0 ≤ D j ∧ D j ≤ 30) (hE : ∀ j, j < s → 0 ≤ E j ∧ E j ≤ 30) (ho : ∀ j, j < d → O j < 8) (hi : ∀ i j, i < d → j < d → O i = O j → i = j)
    (h : ∀ j, j < d → ∀ r, r < R → shv d s D (O j) r = shv d s E (O j) r) (i : Nat) (his : i < s) : D i = E i := by
  have hr : i / d < R := (Nat.div_lt_iff_lt_mul (by omega)).2 (by omega)
  have e1 := joinD_pick (n := s) hd hD ho hi i
  have e2 := joinD_pick (n := s) hd hE ho hi i
  have e3 : joinD d (fun j => (O j : Int)) (fun j r => shv d s D (O j) r) i = joinD d (fun j => (O j : Int)) (fun j r => shv d s E (O j) r) i := by
    unfold joinD
    exact crv_congr (good_pick (n := s) (D := E) hd ho hi (i / d)).3 (good_pick (n := s) (D := E) hd ho hi (i / d)) (fun j _ => rfl) (fun j hj => h j hj _ hr)
  rw [e1, e2] at e3
  unfold padD at e3
  rw [if_pos his, if_pos his] at e3
  exact e3

def aCnt (d s R n : Nat) (N : Nat → Int) (X : Nat → Nat → Int) (D : Nat → Int) : Nat := ((List.range n).filter fun j => alB d s R N X D j).length

theorem aCnt_succ (d s R n : Nat) (N : Nat → Int) (X : Nat → Nat → Int) (D : Nat → Int) : aCnt d s R (n + 1) N X D = aCnt d s R n N X D + (if alB d s R N X D n = true then 1 else 0) := by
  unfold aCnt
  rw [List.range_succ, List.filter_append, List.length_append]
  cases h : alB d s R N X D n <;> simp [h]

theorem aCnt_bad (d s R n : Nat) (N : Nat → Int) (X : Nat → Nat → Int) (D : Nat → Int) : aCnt d s R n N X D + (badL d s R n N X D).length = n := by
  induction n with
  | zero => rfl
  | succ n ih =>
    rw [aCnt_succ, badL_succ, List.length_append]
    cases h : alB d s R N X D n <;> simp <;> omega

theorem filter_two (l : List Nat) (p q : Nat → Bool) : (l.filter p).length ≤ (l.filter fun j => p j && q j).length + (l.filter fun j => !q j).length := by
  induction l with
  | nil => simp
  | cons a l ih => cases hp : p a <;> cases hq : q a <;> simp [hp, hq] <;> omega

/-- few are bent: what was split is found, and who is bent -/
theorem finds {d m s R c b : Nat} {O : Nat → Nat} {D : Nat → Int} {X : Nat → Nat → Int} (hp : planOk (d : Int) (m : Int) (s : Int) = true) (hR : rowsN (d : Int) (s : Int) = R) (hD : ∀ j, j < s → 0 ≤ D j ∧ D j ≤ 30) (hdc : d + 2 * b ≤ c) (hcm : c ≤ m) (ho : ∀ j, j < c → O j < m) (hi : ∀ i j, i < c → j < c → O i = O j → i = j)
    (hX : ∀ j, j < c → ∀ r, r < R → 0 ≤ X j r ∧ X j r ≤ 30) (hun : ∀ j, b ≤ j → j < c → ∀ r, r < R → X j r = shv d s D (O j) r) :
    mostE (d : Int) (m : Int) (s : Int) c (fun j => (O j : Int)) (fun _ => R) X = 0 ∧ (∀ i, i < s → mostD (d : Int) (s : Int) c (fun j => (O j : Int)) X i = D i) ∧
      mostB (d : Int) (m : Int) (s : Int) c (fun j => (O j : Int)) (fun _ => R) X = srt (badL d s R b (fun j => (O j : Int)) X D) := by
  obtain ⟨b1, b2, b3⟩ := planOk_spec hp
  have hS : Shares d m s R c (fun j => (O j : Int)) (fun _ => R) X := ⟨hp, hR, ⟨by omega, by omega⟩, fun j hj => by have := ho j hj; show 0 ≤ (O j : Int) ∧ (O j : Int) < (m : Int); omega, fun j _ => rfl, hX, fun i j h1 h2 e => hi i j h1 h2 (by have e2 : (O i : Int) = (O j : Int) := e; omega)⟩
  have hsz := size_le hS
  have hal : ∀ j, b ≤ j → j < c → alB d s R (fun j => (O j : Int)) X D j = true := fun j h1 h2 => decide_eq_true fun r hr => by rw [hun j h1 h2 r hr]; rfl
  have hpre : ∀ k, b + k ≤ c → badL d s R (b + k) (fun j => (O j : Int)) X D = badL d s R b (fun j => (O j : Int)) X D := by
    intro k
    induction k with
    | zero => intro _; rfl
    | succ k ih =>
      intro hk
      rw [show b + (k + 1) = (b + k) + 1 by omega, badL_succ, ih (by omega), if_pos (hal (b + k) (by omega) (by omega)), List.append_nil]
  have hb0 : badL d s R c (fun j => (O j : Int)) X D = badL d s R b (fun j => (O j : Int)) X D := by
    have := hpre (c - b) (by omega)
    rw [show b + (c - b) = c by omega] at this
    exact this
  obtain ⟨cc, hcr, hcl, hcd⟩ := choice_of hS (O := fun j => b + j) (fun j hj => by omega) (fun i j _ _ e => by omega)
  have hcD : ∀ i, i < R * d → conD d (fun j => (O j : Int)) X cc i = padD s D i := fun i hi' => by
    rw [hcd i hi']
    rw [← joinD_pick (d := d) (n := s) (O := fun j => O (b + j)) ⟨by omega, by omega⟩ hD (fun j hj => by have := ho (b + j) (by omega); omega) (fun x y hx hy e => by have := hi _ _ (by omega) (by omega) e; omega) i]
    have hd : 0 < d := by omega
    have hr : i / d < R := (Nat.div_lt_iff_lt_mul hd).2 hi'
    unfold joinD
    have g := good_pick (n := s) (D := D) (O := fun j => O (b + j)) ⟨(by omega : 1 ≤ d), (by omega : d ≤ 8)⟩ (fun j hj => by have := ho (b + j) (by omega); omega) (fun x y hx hy e => by have := hi _ _ (by omega) (by omega) e; omega) (i / d)
    exact crv_congr g.3 g (fun j _ => rfl) (fun j hj => hun (b + j) (by omega) (by omega) _ hr)
  have hmk : mkB d s R (fun j => (O j : Int)) X cc = true := decide_eq_true fun i hi' => by
    by_cases h : i < s
    · exact Or.inl h
    · refine Or.inr ?_
      have := hcD i hi'
      unfold padD at this
      rw [if_neg h] at this
      exact this
  have hcmem : cc ∈ comb d (List.range c) := good_comb hcr hcl
  obtain ⟨e, hel⟩ := elect_is hcmem hmk
  obtain ⟨he1, he2, he3⟩ := elect_some hel
  have hmin := he3 cc hcmem hmk
  have hbc : badL d s R c (fun j => (O j : Int)) X (conD d (fun j => (O j : Int)) X cc) = badL d s R c (fun j => (O j : Int)) X D := badL_congr fun i hi' => by
    rw [hcD i (by omega)]
    unfold padD
    rw [if_pos hi']
  rw [hbc, hb0] at hmin
  obtain ⟨E, hE⟩ : ∃ E, conD d (fun j => (O j : Int)) X e = E := ⟨_, rfl⟩
  rw [hE] at hmin
  have hEn : ∀ j, j < s → 0 ≤ E j ∧ E j ≤ 30 := fun j _ => by rw [← hE]; unfold conD joinD; exact crv_num _ _ _ _
  have hsame : ∀ i, i < s → E i = D i := by
    by_cases hP : d ≤ ((List.range c).filter fun j => alB d s R (fun j => (O j : Int)) X E j && alB d s R (fun j => (O j : Int)) X D j).length
    · obtain ⟨P, hPe⟩ : ∃ P, ((List.range c).filter fun j => alB d s R (fun j => (O j : Int)) X E j && alB d s R (fun j => (O j : Int)) X D j) = P := ⟨_, rfl⟩
      rw [hPe] at hP
      have hPr : Rise c P := ⟨by rw [← hPe]; exact List.Pairwise.filter _ List.pairwise_lt_range, fun x hx => by rw [← hPe] at hx; exact List.mem_range.1 (List.mem_filter.1 hx).1⟩
      have hPm : ∀ j, j < d → alB d s R (fun j => (O j : Int)) X E (P.getD j 0) = true ∧ alB d s R (fun j => (O j : Int)) X D (P.getD j 0) = true := fun j hj => by
        have h1 := getD_memV (c := P) (j := j) (by omega)
        generalize P.getD j 0 = x at h1
        rw [← hPe] at h1
        have h2 := (List.mem_filter.1 h1).2
        exact Bool.and_eq_true_iff.1 h2
      refine same_content (O := fun j => O (P.getD j 0)) ⟨by omega, by omega⟩ hsz hEn hD (fun j hj => by have := ho _ (hPr.lt (show j < P.length by omega)); omega) (fun i j h1 h2 e' => hPr.inj (by omega) (by omega) (hi _ _ (hPr.lt (by omega)) (hPr.lt (by omega)) e')) (fun j hj r hr => ?_)
      obtain ⟨g1, g2⟩ := hPm j hj
      have k1 := of_decide_eq_true g1 r hr
      have k2 := of_decide_eq_true g2 r hr
      rw [k1] at k2
      exact k2
    · exfalso
      have h1 := filter_two (List.range c) (fun j => alB d s R (fun j => (O j : Int)) X E j) (fun j => alB d s R (fun j => (O j : Int)) X D j)
      have h2 := aCnt_bad d s R c (fun j => (O j : Int)) X E
      have h3 := badL_len d s R b (fun j => (O j : Int)) X D
      have h4 : ((List.range c).filter fun j => !alB d s R (fun j => (O j : Int)) X D j).length = (badL d s R b (fun j => (O j : Int)) X D).length := by
        rw [← hb0]; unfold badL; rw [List.length_map]
      unfold aCnt at h2
      omega
  have hC : mostC (d : Int) (s : Int) c (fun j => (O j : Int)) X = some e := by unfold mostC; rw [Int.toNat_natCast, Int.toNat_natCast, hR]; exact hel
  have hM : mostE (d : Int) (m : Int) (s : Int) c (fun j => (O j : Int)) (fun _ => R) X = 0 := by unfold mostE; rw [if_pos hS.checks, hC]; rfl
  have hMD : mostD (d : Int) (s : Int) c (fun j => (O j : Int)) X = E := by unfold mostD; rw [hC, Int.toNat_natCast, ← hE]; rfl
  refine ⟨hM, fun i hi' => by rw [hMD]; exact hsame i hi', ?_⟩
  unfold mostB
  rw [if_pos hM, hMD, Int.toNat_natCast, Int.toNat_natCast, hR, badL_congr (D := D) hsame, hb0]

end Go.Proofs.Ytfcpmpcfbhkacaa
