/- What chapter 3's reference joins: the content of a list of shares, errors too. -/
import Derived.Test.YtnmionnbndfbkacShareMade
import Derived.Test.YtnmionnbndfbkacShareMath
namespace Go.Proofs.Ytnmionnbndfbkac
open Go.RowKit CurveMath
set_option linter.unusedVariables false

/-- what Joins leaves -/
def JoinPost (w : World) (nd of sz : Int) (n : Nat) (N : Nat → Int) (L : Nat → Nat) (X : Nat → Nat → Int) (e : Ending) (w' : World) : Prop :=
  Below w.heap.size w w' ∧ ∃ (r : Value) (m : Nat), e = .returned (.tuple #[r, .int .i64 (joinE nd of sz n N L X)]) ∧ (m : Int) = (if joinE nd of sz n N L X = 0 then sz else 0) ∧ IntSl w' w'.heap.size r m (joinD nd.toNat N X)

theorem join_err {w w' : World} {nd of sz : Int} {n : Nat} {N : Nat → Int} {L : Nat → Nat} {X : Nat → Nat → Int} {c : Int} (hb : Below w.heap.size w w') (he : joinE nd of sz n N L X = c) (hc : c ≠ 0) : JoinPost w nd of sz n N L X (.returned (.tuple #[.slice none 0 0, .int .i64 c])) w' := by
  refine ⟨hb, _, 0, by rw [he], ?_, none, 0, rfl, ⟨Nat.le_refl _, by omega⟩, Or.inl rfl⟩
  rw [he, if_neg hc]
  rfl

theorem joinE_checks {nd of sz : Int} {n : Nat} {N : Nat → Int} {L : Nat → Nat} {X : Nat → Nat → Int} : joinE nd of sz n N L X = if checksE nd of sz n N L X = 0 then (if tornB nd.toNat sz.toNat (rowsN nd sz) n N X = true then 9 else 0) else checksE nd of sz n N L X := by
  unfold joinE checksE
  by_cases h1 : planOk nd of sz = true
  · rw [if_pos h1, if_pos h1]
    by_cases h2 : n ≤ 8
    · rw [if_pos h2, if_pos h2]
      by_cases h3 : scanS nd of sz N L X n 0 = 0
      · rw [if_pos h3, if_pos h3]
        by_cases h4 : nd ≤ (n : Int)
        · rw [if_pos h4, if_pos h4, if_pos rfl]
        · rw [if_neg h4, if_neg h4, if_neg (by decide)]
      · rw [if_neg h3, if_neg h3, if_neg h3]
    · rw [if_neg h2, if_neg h2, if_neg (by decide)]
  · rw [if_neg h1, if_neg h1, if_neg (by decide)]

theorem scanS_all {nd of sz : Int} {N : Nat → Int} {L : Nat → Nat} {X : Nat → Nat → Int} (m : Nat) : ∀ k, scanS nd of sz N L X m k = 0 → ∀ j, k ≤ j → j < k + m → oneE nd of sz (N j) (L j) (X j) = 0 ∧ hasB N j (N j) = false := by
  induction m with
  | zero => intro k _ j h1 h2; omega
  | succ m ih =>
    intro k h j h1 h2
    simp only [scanS] at h
    by_cases hb : oneE nd of sz (N k) (L k) (X k) = 0
    · rw [if_pos hb] at h
      by_cases hd : hasB N k (N k) = true
      · rw [if_pos hd] at h; omega
      · rw [if_neg hd] at h
        by_cases hjk : j = k
        · subst hjk; exact ⟨hb, by simpa using hd⟩
        · exact ih (k + 1) h j (by omega) (by omega)
    · rw [if_neg hb] at h; exact absurd h hb

/-- shares that are in order -/
structure Shares (d m s R n : Nat) (N : Nat → Int) (L : Nat → Nat) (X : Nat → Nat → Int) : Prop where
  plan : planOk (d : Int) (m : Int) (s : Int) = true
  rows : rowsN (d : Int) (s : Int) = R
  le : d ≤ n ∧ n ≤ 8
  who : ∀ j, j < n → 0 ≤ N j ∧ N j < (m : Int)
  len : ∀ j, j < n → L j = R
  num : ∀ j, j < n → ∀ r, r < R → 0 ≤ X j r ∧ X j r ≤ 30
  inj : ∀ i j, i < n → j < n → N i = N j → i = j

theorem checks_ok {nd of sz : Int} {n : Nat} {N : Nat → Int} {L : Nat → Nat} {X : Nat → Nat → Int} (h : checksE nd of sz n N L X = 0) : ∃ d m s R : Nat, nd = d ∧ of = m ∧ sz = s ∧ Shares d m s R n N L X := by
  unfold checksE at h
  by_cases h1 : planOk nd of sz = true
  · rw [if_pos h1] at h
    by_cases h2 : n ≤ 8
    · rw [if_pos h2] at h
      by_cases h3 : scanS nd of sz N L X n 0 = 0
      · rw [if_pos h3] at h
        by_cases h4 : nd ≤ (n : Int)
        · obtain ⟨a1, a2, a3⟩ := planOk_spec h1
          have hall := scanS_all n 0 h3
          obtain ⟨d, rfl⟩ : ∃ d : Nat, nd = d := ⟨nd.toNat, by omega⟩
          obtain ⟨m, rfl⟩ : ∃ m : Nat, of = m := ⟨of.toNat, by omega⟩
          obtain ⟨s, rfl⟩ : ∃ s : Nat, sz = s := ⟨sz.toNat, by omega⟩
          have key : ∀ i j, i < j → j < n → N i ≠ N j := fun i j hij hj e => by
            have h5 := (hall j (by omega) (by omega)).2
            have h6 : hasB N j (N j) = true := (hasB_iff N j (N j)).2 ⟨i, hij, e⟩
            rw [h6] at h5
            cases h5
          refine ⟨d, m, s, rowsN (d : Int) (s : Int), rfl, rfl, rfl, h1, rfl, ⟨by omega, h2⟩, fun j hj => (oneE_who (hall j (by omega) (by omega)).1).2.1, fun j hj => ?_, fun j hj r hr => ?_, fun i j hi hj e => ?_⟩
          · have := (oneE_who (hall j (by omega) (by omega)).1).2.2.1; omega
          · have h5 := oneE_who (hall j (by omega) (by omega)).1
            exact h5.2.2.2 r (by have := h5.2.2.1; omega)
          · rcases Nat.lt_trichotomy i j with hlt | heq | hgt
            · exact absurd e (key i j hlt hj)
            · exact heq
            · exact absurd e.symm (key j i hgt hi)
        · rw [if_neg h4] at h; omega
      · rw [if_neg h3] at h; exact absurd h h3
    · rw [if_neg h2] at h; omega
  · rw [if_neg h1] at h; omega

section
variable {d m s R n : Nat} {N : Nat → Int} {L : Nat → Nat} {X : Nat → Nat → Int}

theorem Shares.good (h : Shares d m s R n N L X) (r : Nat) (hr : r < R) : Good d d N (fun j => X j r) := by
  obtain ⟨h1, h2, h3⟩ := planOk_spec h.plan
  have hle := h.le
  exact ⟨rfl, ⟨by omega, by omega⟩, fun j hj => by have := h.who j (by omega); omega, fun j hj => h.num j (by omega) r hr, fun i j hi hj => h.inj i j (by omega) (by omega)⟩

/-- the share of what was joined -/
theorem Shares.again (h : Shares d m s R n N L X) (hm : madeB d s R N X = true) (ν r : Nat) (hr : r < R) : shv d s (joinD d N X) ν r = crv d N (fun i => X i r) (ν : Int) := by
  obtain ⟨h1, h2, h3⟩ := planOk_spec h.plan
  have hm := of_decide_eq_true hm
  unfold shv
  have hrow : ∀ t, t < d → padD s (joinD d N X) (r * d + t) = crv d N (fun i => X i r) (t : Int) := fun t ht => by
    rw [← joinD_row ht]
    have hlt : r * d + t < R * d := by
      have : (r + 1) * d ≤ R * d := Nat.mul_le_mul_right d hr
      rw [Nat.add_mul, Nat.one_mul] at this
      omega
    unfold padD
    by_cases hs : r * d + t < s
    · rw [if_pos hs]
    · rw [if_neg hs]
      rcases hm _ hlt with h5 | h5
      · exact absurd h5 hs
      · exact h5.symm
  have hgr : Good d d (fun i => (i : Int)) (fun t => padD s (joinD d N X) (r * d + t)) := good_row ⟨by omega, by omega⟩ (fun j _ => by unfold joinD; exact crv_num _ _ _ _) r
  exact crv_alike (h.good r hr) hgr (Nat.le_refl _) hrow (ν : Int)

/-- is share j of what was joined? -/
theorem Shares.same (h : Shares d m s R n N L X) (hm : madeB d s R N X = true) (j ν : Nat) (hj : j < n) (hν : N j = (ν : Int)) : sameB (N j) (ν : Int) (L j) R (X j) (fun r => shv d s (joinD d N X) ν r) = decide (∀ r, r < R → crv d N (fun i => X i r) (N j) = X j r) := by
  unfold sameB eqB
  rw [decide_eq_true hν, Bool.true_and, decide_eq_decide, h.len j hj]
  constructor
  · intro h5 r hr
    have h6 : X j r = shv d s (joinD d N X) ν r := h5.2 r hr
    rw [h.again hm ν r hr, ← hν] at h6
    exact h6.symm
  · intro h5
    refine ⟨rfl, fun r hr => ?_⟩
    show X j r = shv d s (joinD d N X) ν r
    rw [h.again hm ν r hr, ← hν]
    exact (h5 r hr).symm
end

theorem torn_iff {d s R n : Nat} {N : Nat → Int} {X : Nat → Nat → Int} (hm : madeB d s R N X = true) (hall : ∀ j, j < n → decide (∀ r, r < R → crv d N (fun i => X i r) (N j) = X j r) = true) : tornB d s R n N X = false := by
  unfold tornB
  have e1 : decide (∀ r, r < R → ∀ j, j < n → crv d N (fun i => X i r) (N j) = X j r) = true := decide_eq_true fun r hr j hj => of_decide_eq_true (hall j hj) r hr
  have e2 : decide (∀ i, i < R * d → i < s ∨ joinD d N X i = 0) = true := hm
  rw [e1, e2]
  rfl

theorem torn_of {d s R n : Nat} {N : Nat → Int} {X : Nat → Nat → Int} (j : Nat) (hj : j < n) (h : decide (∀ r, r < R → crv d N (fun i => X i r) (N j) = X j r) = false) : tornB d s R n N X = true := by
  unfold tornB
  rw [Bool.not_eq_true']
  exact Bool.and_eq_false_iff.2 (Or.inl (decide_eq_false fun h1 => of_decide_eq_false h fun r hr => h1 r hr j hj))

theorem torn_made {d s R n : Nat} {N : Nat → Int} {X : Nat → Nat → Int} (h : madeB d s R N X = false) : tornB d s R n N X = true := by
  unfold tornB
  rw [Bool.not_eq_true']
  exact Bool.and_eq_false_iff.2 (Or.inr h)

end Go.Proofs.Ytnmionnbndfbkac
