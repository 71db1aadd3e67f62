/- Several texts of one proof, in their order. -/
import Derived.Test.YtfcpmpcfbhkacaaVb15
import Derived.Test.YtfcpmpcfbhkacaaVb17

/- Shares that were picked of a content's: what they make. Plain: it speaks of no program. -/
namespace Go.Proofs.Ytfcpmpcfbhkacaa

open Go.RowKit CurveMath
set_option linter.unusedVariables false

/-- points of a curve, as many or more: the same curve -/
theorem crv_alike {n n' m : Nat} {X Y A B : Nat → Int} (h : Good n n' X Y) (hg : Good m m A B) (hm : n ≤ m) (hAB : ∀ j, j < m → B j = crv n X Y (A j)) (t : Int) : crv m A B t = crv n X Y t := by
  refine crv_uniq hg (fun u => newt (fun i => toF (X i)) (fun i => dd (fun i => toF (X i)) (fun i => toF (Y i)) i i) n u) ((newt_deg _ _ n h.injF).mono hm) ?_ t _ (crv_num n X Y t) (toF_crv n X Y t)
  intro j hj
  rw [hAB j hj, toF_crv]
  rfl

theorem scanS_mk {nd of sz : Int} {N : Nat → Int} {L : Nat → Nat} {X : Nat → Nat → Int} (m : Nat) : ∀ k, (∀ j, k ≤ j → j < k + m → oneE nd of sz (N j) (L j) (X j) = 0 ∧ hasB N j (N j) = false) → scanS nd of sz N L X m k = 0 := by
  induction m with
  | zero => intro k _; rfl
  | succ m ih =>
    intro k h
    obtain ⟨h1, h2⟩ := h k (by omega) (by omega)
    simp only [scanS]
    rw [if_pos h1, if_neg (by rw [h2]; decide)]
    exact ih (k + 1) (fun j a b => h j (by omega) (by omega))

theorem oneE_mk {nd of sz N : Int} {L : Nat} {X : Nat → Int} (hp : planOk nd of sz = true) (hN : 0 ≤ N ∧ N < of) (hL : (L : Int) = rowsN nd sz) (hX : ∀ j, j < L → 0 ≤ X j ∧ X j ≤ 30) : oneE nd of sz N L X = 0 := by
  unfold oneE
  have h4 : numsB L X = true := decide_eq_true fun j hj => (isNum_iff _).2 (hX j hj)
  rw [if_pos hp, if_pos hN, if_pos hL, if_pos h4]

/-- numbers that were picked, each once -/
theorem hasB_pick {c : Nat} {O : Nat → Nat} (h : ∀ i j, i < c → j < c → O i = O j → i = j) (k : Nat) (hk : k < c) : hasB (fun j => (O j : Int)) k (O k : Int) = false := by
  by_cases hb : hasB (fun j => (O j : Int)) k (O k : Int) = true
  · obtain ⟨i, hi, e⟩ := (hasB_iff _ k _).1 hb
    have e2 : (O i : Int) = (O k : Int) := e
    have := h i k (by omega) hk (by omega)
    omega
  · simpa using hb

section

variable {d m n c : Nat} {D : Nat → Int} {O : Nat → Nat}

theorem good_pick (hd : 1 ≤ d ∧ d ≤ 8) (ho : ∀ j, j < d → O j < 8) (hi : ∀ i j, i < d → j < d → O i = O j → i = j) (r : Nat) : Good d d (fun j => (O j : Int)) (fun j => shv d n D (O j) r) :=
  ⟨rfl, hd, fun j hj => by have := ho j hj; show 0 ≤ (O j : Int) ∧ (O j : Int) ≤ 30; omega, fun j hj => shv_num _ _ _ _ _, fun i j h1 h2 e => hi i j h1 h2 (by have e2 : (O i : Int) = (O j : Int) := e; omega)⟩

/-- the curve through picked shares is the content's -/
theorem crv_pick (hd : 1 ≤ d ∧ d ≤ 8) (hD : ∀ j, j < n → 0 ≤ D j ∧ D j ≤ 30) (ho : ∀ j, j < d → O j < 8) (hi : ∀ i j, i < d → j < d → O i = O j → i = j) (r : Nat) (t : Int) :
    crv d (fun j => (O j : Int)) (fun j => shv d n D (O j) r) t = crv d (fun i => (i : Int)) (fun i => padD n D (r * d + i)) t :=
  crv_alike (good_row hd hD r) (good_pick hd ho hi r) (Nat.le_refl _) (fun j hj => rfl) t

theorem joinD_pick (hd : 1 ≤ d ∧ d ≤ 8) (hD : ∀ j, j < n → 0 ≤ D j ∧ D j ≤ 30) (ho : ∀ j, j < d → O j < 8) (hi : ∀ i j, i < d → j < d → O i = O j → i = j) (i : Nat) :
    joinD d (fun j => (O j : Int)) (fun j r => shv d n D (O j) r) i = padD n D i := by
  unfold joinD
  rw [crv_pick hd hD ho hi]
  have h := crv_own (good_row hd hD (i / d)) (i % d) (Nat.mod_lt i (by omega))
  have e : i / d * d + i % d = i := by rw [Nat.mul_comm]; exact Nat.div_add_mod i d
  rw [e] at h
  exact h

theorem scan_pick (hp : planOk (d : Int) (m : Int) (n : Int) = true) (hpk : ∀ j, j < c → O j < m) (hi : ∀ i j, i < c → j < c → O i = O j → i = j) {R : Nat} (hR : rowsN (d : Int) (n : Int) = R) :
    scanS (d : Int) (m : Int) (n : Int) (fun j => (O j : Int)) (fun _ => R) (fun j r => shv d n D (O j) r) c 0 = 0 :=
  scanS_mk c 0 fun j _ hj => ⟨oneE_mk hp ⟨by omega, by have := hpk j (by omega); show (O j : Int) < (m : Int); omega⟩ (by rw [hR]) (fun i _ => shv_num _ _ _ _ _), hasB_pick hi j (by omega)⟩

/-- enough of them are joined -/
theorem joinE_pick (hp : planOk (d : Int) (m : Int) (n : Int) = true) (hD : ∀ j, j < n → 0 ≤ D j ∧ D j ≤ 30) (hdc : d ≤ c) (hc : c ≤ m) (hpk : ∀ j, j < c → O j < m) (hi : ∀ i j, i < c → j < c → O i = O j → i = j) {R : Nat} (hR : rowsN (d : Int) (n : Int) = R) :
    joinE (d : Int) (m : Int) (n : Int) c (fun j => (O j : Int)) (fun _ => R) (fun j r => shv d n D (O j) r) = 0 := by
  obtain ⟨h1, h2, h3⟩ := planOk_spec hp
  unfold joinE
  rw [if_pos hp, if_pos (by omega), if_pos (scan_pick hp hpk hi hR), if_pos (by omega), if_neg]
  · unfold tornB
    rw [Int.toNat_natCast, Int.toNat_natCast, hR]
    have e1 : decide (∀ r, r < R → ∀ j, j < c → crv d (fun j => (O j : Int)) (fun i => shv d n D (O i) r) (O j : Int) = shv d n D (O j) r) = true := decide_eq_true fun r _ j _ => by
      rw [crv_pick (by omega) hD (fun j hj => by have := hpk j (by omega); omega) (fun i j hi' hj' => hi i j (by omega) (by omega))]
      rfl
    have e2 : decide (∀ i, i < R * d → i < n ∨ joinD d (fun j => (O j : Int)) (fun j r => shv d n D (O j) r) i = 0) = true := decide_eq_true fun i _ => by
      rw [joinD_pick (by omega) hD (fun j hj => by have := hpk j (by omega); omega) (fun i j hi' hj' => hi i j (by omega) (by omega))]
      unfold padD
      by_cases h : i < n
      · exact Or.inl h
      · exact Or.inr (by rw [if_neg h])
    rw [e1, e2]
    decide

end

end Go.Proofs.Ytfcpmpcfbhkacaa

/- What chapter 3's reference joins: the content of a list of shares, errors too. -/
namespace Go.Proofs.Ytfcpmpcfbhkacaa

open Go.RowKit CurveMath
set_option linter.unusedVariables false

/-- what Joins leaves -/
def JoinPost (w : World) (nd of sz : Int) (n : Nat) (N : Nat → Int) (L : Nat → Nat) (X : Nat → Nat → Int) (e : Ending) (w' : World) : Prop :=
  Below w.heap.size w w' ∧ ∃ (r : Value) (m : Nat), e = .returned (.tuple #[r, .int .i64 (joinE nd of sz n N L X)]) ∧ (m : Int) = (if joinE nd of sz n N L X = 0 then sz else 0) ∧ IntSl w' w'.heap.size r m (joinD nd.toNat N X)

theorem join_err {w w' : World} {nd of sz : Int} {n : Nat} {N : Nat → Int} {L : Nat → Nat} {X : Nat → Nat → Int} {c : Int} (hb : Below w.heap.size w w') (he : joinE nd of sz n N L X = c) (hc : c ≠ 0) : JoinPost w nd of sz n N L X (.returned (.tuple #[.slice none 0 0, .int .i64 c])) w' := by
  refine ⟨hb, _, 0, by rw [he], ?_, none, 0, rfl, ⟨Nat.le_refl _, by omega⟩, Or.inl rfl⟩
  rw [he, if_neg hc]
  rfl

theorem joinE_checks {nd of sz : Int} {n : Nat} {N : Nat → Int} {L : Nat → Nat} {X : Nat → Nat → Int} : joinE nd of sz n N L X = if checksE nd of sz n N L X = 0 then (if tornB nd.toNat sz.toNat (rowsN nd sz) n N X = true then 9 else 0) else checksE nd of sz n N L X := by
  unfold joinE checksE
  by_cases h1 : planOk nd of sz = true
  · rw [if_pos h1, if_pos h1]
    by_cases h2 : n ≤ 8
    · rw [if_pos h2, if_pos h2]
      by_cases h3 : scanS nd of sz N L X n 0 = 0
      · rw [if_pos h3, if_pos h3]
        by_cases h4 : nd ≤ (n : Int)
        · rw [if_pos h4, if_pos h4, if_pos rfl]
        · rw [if_neg h4, if_neg h4, if_neg (by decide)]
      · rw [if_neg h3, if_neg h3, if_neg h3]
    · rw [if_neg h2, if_neg h2, if_neg (by decide)]
  · rw [if_neg h1, if_neg h1, if_neg (by decide)]

theorem scanS_all {nd of sz : Int} {N : Nat → Int} {L : Nat → Nat} {X : Nat → Nat → Int} (m : Nat) : ∀ k, scanS nd of sz N L X m k = 0 → ∀ j, k ≤ j → j < k + m → oneE nd of sz (N j) (L j) (X j) = 0 ∧ hasB N j (N j) = false := by
  induction m with
  | zero => intro k _ j h1 h2; omega
  | succ m ih =>
    intro k h j h1 h2
    simp only [scanS] at h
    by_cases hb : oneE nd of sz (N k) (L k) (X k) = 0
    · rw [if_pos hb] at h
      by_cases hd : hasB N k (N k) = true
      · rw [if_pos hd] at h; omega
      · rw [if_neg hd] at h
        by_cases hjk : j = k
        · subst hjk; exact ⟨hb, by simpa using hd⟩
        · exact ih (k + 1) h j (by omega) (by omega)
    · rw [if_neg hb] at h; exact absurd h hb

/-- shares that are in order -/
structure Shares (d m s R n : Nat) (N : Nat → Int) (L : Nat → Nat) (X : Nat → Nat → Int) : Prop where
  plan : planOk (d : Int) (m : Int) (s : Int) = true
  rows : rowsN (d : Int) (s : Int) = R
  le : d ≤ n ∧ n ≤ 8
  who : ∀ j, j < n → 0 ≤ N j ∧ N j < (m : Int)
  len : ∀ j, j < n → L j = R
  num : ∀ j, j < n → ∀ r, r < R → 0 ≤ X j r ∧ X j r ≤ 30
  inj : ∀ i j, i < n → j < n → N i = N j → i = j

theorem checks_ok {nd of sz : Int} {n : Nat} {N : Nat → Int} {L : Nat → Nat} {X : Nat → Nat → Int} (h : checksE nd of sz n N L X = 0) : ∃ d m s R : Nat, nd = d ∧ of = m ∧ sz = s ∧ Shares d m s R n N L X := by
  unfold checksE at h
  by_cases h1 : planOk nd of sz = true
  · rw [if_pos h1] at h
    by_cases h2 : n ≤ 8
    · rw [if_pos h2] at h
      by_cases h3 : scanS nd of sz N L X n 0 = 0
      · rw [if_pos h3] at h
        by_cases h4 : nd ≤ (n : Int)
        · obtain ⟨a1, a2, a3⟩ := planOk_spec h1
          have hall := scanS_all n 0 h3
          obtain ⟨d, rfl⟩ : ∃ d : Nat, nd = d := ⟨nd.toNat, by omega⟩
          obtain ⟨m, rfl⟩ : ∃ m : Nat, of = m := ⟨of.toNat, by omega⟩
          obtain ⟨s, rfl⟩ : ∃ s : Nat, sz = s := ⟨sz.toNat, by omega⟩
          have key : ∀ i j, i < j → j < n → N i ≠ N j := fun i j hij hj e => by
            have h5 := (hall j (by omega) (by omega)).2
            have h6 : hasB N j (N j) = true := (hasB_iff N j (N j)).2 ⟨i, hij, e⟩
            rw [h6] at h5
            cases h5
          refine ⟨d, m, s, rowsN (d : Int) (s : Int), rfl, rfl, rfl, h1, rfl, ⟨by omega, h2⟩, fun j hj => (oneE_who (hall j (by omega) (by omega)).1).2.1, fun j hj => ?_, fun j hj r hr => ?_, fun i j hi hj e => ?_⟩
          · have := (oneE_who (hall j (by omega) (by omega)).1).2.2.1; omega
          · have h5 := oneE_who (hall j (by omega) (by omega)).1
            exact h5.2.2.2 r (by have := h5.2.2.1; omega)
          · rcases Nat.lt_trichotomy i j with hlt | heq | hgt
            · exact absurd e (key i j hlt hj)
            · exact heq
            · exact absurd e.symm (key j i hgt hi)
        · rw [if_neg h4] at h; omega
      · rw [if_neg h3] at h; exact absurd h h3
    · rw [if_neg h2] at h; omega
  · rw [if_neg h1] at h; omega

section

variable {d m s R n : Nat} {N : Nat → Int} {L : Nat → Nat} {X : Nat → Nat → Int}

theorem Shares.good (h : Shares d m s R n N L X) (r : Nat) (hr : r < R) : Good d d N (fun j => X j r) := by
  obtain ⟨h1, h2, h3⟩ := planOk_spec h.plan
  have hle := h.le
  exact ⟨rfl, ⟨by omega, by omega⟩, fun j hj => by have := h.who j (by omega); omega, fun j hj => h.num j (by omega) r hr, fun i j hi hj => h.inj i j (by omega) (by omega)⟩

/-- the share of what was joined -/
theorem Shares.again (h : Shares d m s R n N L X) (hm : madeB d s R N X = true) (ν r : Nat) (hr : r < R) : shv d s (joinD d N X) ν r = crv d N (fun i => X i r) (ν : Int) := by
  obtain ⟨h1, h2, h3⟩ := planOk_spec h.plan
  have hm := of_decide_eq_true hm
  unfold shv
  have hrow : ∀ t, t < d → padD s (joinD d N X) (r * d + t) = crv d N (fun i => X i r) (t : Int) := fun t ht => by
    rw [← joinD_row ht]
    have hlt : r * d + t < R * d := by
      have : (r + 1) * d ≤ R * d := Nat.mul_le_mul_right d hr
      rw [Nat.add_mul, Nat.one_mul] at this
      omega
    unfold padD
    by_cases hs : r * d + t < s
    · rw [if_pos hs]
    · rw [if_neg hs]
      rcases hm _ hlt with h5 | h5
      · exact absurd h5 hs
      · exact h5.symm
  have hgr : Good d d (fun i => (i : Int)) (fun t => padD s (joinD d N X) (r * d + t)) := good_row ⟨by omega, by omega⟩ (fun j _ => by unfold joinD; exact crv_num _ _ _ _) r
  exact crv_alike (h.good r hr) hgr (Nat.le_refl _) hrow (ν : Int)

/-- is share j of what was joined? -/
theorem Shares.same (h : Shares d m s R n N L X) (hm : madeB d s R N X = true) (j ν : Nat) (hj : j < n) (hν : N j = (ν : Int)) : sameB (N j) (ν : Int) (L j) R (X j) (fun r => shv d s (joinD d N X) ν r) = decide (∀ r, r < R → crv d N (fun i => X i r) (N j) = X j r) := by
  unfold sameB eqB
  rw [decide_eq_true hν, Bool.true_and, decide_eq_decide, h.len j hj]
  constructor
  · intro h5 r hr
    have h6 : X j r = shv d s (joinD d N X) ν r := h5.2 r hr
    rw [h.again hm ν r hr, ← hν] at h6
    exact h6.symm
  · intro h5
    refine ⟨rfl, fun r hr => ?_⟩
    show X j r = shv d s (joinD d N X) ν r
    rw [h.again hm ν r hr, ← hν]
    exact (h5 r hr).symm

end

theorem torn_iff {d s R n : Nat} {N : Nat → Int} {X : Nat → Nat → Int} (hm : madeB d s R N X = true) (hall : ∀ j, j < n → decide (∀ r, r < R → crv d N (fun i => X i r) (N j) = X j r) = true) : tornB d s R n N X = false := by
  unfold tornB
  have e1 : decide (∀ r, r < R → ∀ j, j < n → crv d N (fun i => X i r) (N j) = X j r) = true := decide_eq_true fun r hr j hj => of_decide_eq_true (hall j hj) r hr
  have e2 : decide (∀ i, i < R * d → i < s ∨ joinD d N X i = 0) = true := hm
  rw [e1, e2]
  rfl

theorem torn_made {d s R n : Nat} {N : Nat → Int} {X : Nat → Nat → Int} (h : madeB d s R N X = false) : tornB d s R n N X = true := by
  unfold tornB
  rw [Bool.not_eq_true']
  exact Bool.and_eq_false_iff.2 (Or.inr h)

end Go.Proofs.Ytfcpmpcfbhkacaa
