/- Shares that were picked of a content's: what they make. Plain: it speaks of no program. -/
import Derived.Test.YtfcpmpcfbhkacaaPicked
namespace Go.Proofs.Ytfcpmpcfbhkacaa
open Go.RowKit CurveMath
set_option linter.unusedVariables false

/-- points of a curve, as many or more: the same curve -/
theorem crv_alike {n n' m : Nat} {X Y A B : Nat → Int} (h : Good n n' X Y) (hg : Good m m A B) (hm : n ≤ m) (hAB : ∀ j, j < m → B j = crv n X Y (A j)) (t : Int) : crv m A B t = crv n X Y t := by
  refine crv_uniq hg (fun u => newt (fun i => toF (X i)) (fun i => dd (fun i => toF (X i)) (fun i => toF (Y i)) i i) n u) ((newt_deg _ _ n h.injF).mono hm) ?_ t _ (crv_num n X Y t) (toF_crv n X Y t)
  intro j hj
  rw [hAB j hj, toF_crv]
  rfl

theorem scanS_mk {nd of sz : Int} {N : Nat → Int} {L : Nat → Nat} {X : Nat → Nat → Int} (m : Nat) : ∀ k, (∀ j, k ≤ j → j < k + m → oneE nd of sz (N j) (L j) (X j) = 0 ∧ hasB N j (N j) = false) → scanS nd of sz N L X m k = 0 := by
  induction m with
  | zero => intro k _; rfl
  | succ m ih =>
    intro k h
    obtain ⟨h1, h2⟩ := h k (by omega) (by omega)
    simp only [scanS]
    rw [if_pos h1, if_neg (by rw [h2]; decide)]
    exact ih (k + 1) (fun j a b => h j (by omega) (by omega))

theorem oneE_mk {nd of sz N : Int} {L : Nat} {X : Nat → Int} (hp : planOk nd of sz = true) (hN : 0 ≤ N ∧ N < of) (hL : (L : Int) = rowsN nd sz) (hX : ∀ j, j < L → 0 ≤ X j ∧ X j ≤ 30) : oneE nd of sz N L X = 0 := by
  unfold oneE
  have h4 : numsB L X = true := decide_eq_true fun j hj => (isNum_iff _).2 (hX j hj)
  rw [if_pos hp, if_pos hN, if_pos hL, if_pos h4]

/-- numbers that were picked, each once -/
theorem hasB_pick {c : Nat} {O : Nat → Nat} (h : ∀ i j, i < c → j < c → O i = O j → i = j) (k : Nat) (hk : k < c) : hasB (fun j => (O j : Int)) k (O k : Int) = false := by
  by_cases hb : hasB (fun j => (O j : Int)) k (O k : Int) = true
  · obtain ⟨i, hi, e⟩ := (hasB_iff _ k _).1 hb
    have e2 : (O i : Int) = (O k : Int) := e
    have := h i k (by omega) hk (by omega)
    omega
  · simpa using hb

section
variable {d m n c : Nat} {D : Nat → Int} {O : Nat → Nat}

theorem good_pick (hd : 1 ≤ d ∧ d ≤ 8) (ho : ∀ j, j < d → O j < 8) (hi : ∀ i j, i < d → j < d → O i = O j → i = j) (r : Nat) : Good d d (fun j => (O j : Int)) (fun j => shv d n D (O j) r) :=
  ⟨rfl, hd, fun j hj => by have := ho j hj; show 0 ≤ (O j : Int) ∧ (O j : Int) ≤ 30; omega, fun j hj => shv_num _ _ _ _ _, fun i j h1 h2 e => hi i j h1 h2 (by have e2 : (O i : Int) = (O j : Int) := e; omega)⟩

/-- the curve through picked shares is the content's -/
theorem crv_pick (hd : 1 ≤ d ∧ d ≤ 8) (hD : ∀ j, j < n → 0 ≤ D j ∧ D j ≤ 30) (ho : ∀ j, j < d → O j < 8) (hi : ∀ i j, i < d → j < d → O i = O j → i = j) (r : Nat) (t : Int) :
    crv d (fun j => (O j : Int)) (fun j => shv d n D (O j) r) t = crv d (fun i => (i : Int)) (fun i => padD n D (r * d + i)) t :=
  crv_alike (good_row hd hD r) (good_pick hd ho hi r) (Nat.le_refl _) (fun j hj => rfl) t

theorem joinD_pick (hd : 1 ≤ d ∧ d ≤ 8) (hD : ∀ j, j < n → 0 ≤ D j ∧ D j ≤ 30) (ho : ∀ j, j < d → O j < 8) (hi : ∀ i j, i < d → j < d → O i = O j → i = j) (i : Nat) :
    joinD d (fun j => (O j : Int)) (fun j r => shv d n D (O j) r) i = padD n D i := by
  unfold joinD
  rw [crv_pick hd hD ho hi]
  have h := crv_own (good_row hd hD (i / d)) (i % d) (Nat.mod_lt i (by omega))
  have e : i / d * d + i % d = i := by rw [Nat.mul_comm]; exact Nat.div_add_mod i d
  rw [e] at h
  exact h

theorem scan_pick (hp : planOk (d : Int) (m : Int) (n : Int) = true) (hpk : ∀ j, j < c → O j < m) (hi : ∀ i j, i < c → j < c → O i = O j → i = j) {R : Nat} (hR : rowsN (d : Int) (n : Int) = R) :
    scanS (d : Int) (m : Int) (n : Int) (fun j => (O j : Int)) (fun _ => R) (fun j r => shv d n D (O j) r) c 0 = 0 :=
  scanS_mk c 0 fun j _ hj => ⟨oneE_mk hp ⟨by omega, by have := hpk j (by omega); show (O j : Int) < (m : Int); omega⟩ (by rw [hR]) (fun i _ => shv_num _ _ _ _ _), hasB_pick hi j (by omega)⟩

/-- enough of them are joined -/
theorem joinE_pick (hp : planOk (d : Int) (m : Int) (n : Int) = true) (hD : ∀ j, j < n → 0 ≤ D j ∧ D j ≤ 30) (hdc : d ≤ c) (hc : c ≤ m) (hpk : ∀ j, j < c → O j < m) (hi : ∀ i j, i < c → j < c → O i = O j → i = j) {R : Nat} (hR : rowsN (d : Int) (n : Int) = R) :
    joinE (d : Int) (m : Int) (n : Int) c (fun j => (O j : Int)) (fun _ => R) (fun j r => shv d n D (O j) r) = 0 := by
  obtain ⟨h1, h2, h3⟩ := planOk_spec hp
  unfold joinE
  rw [if_pos hp, if_pos (by omega), if_pos (scan_pick hp hpk hi hR), if_pos (by omega), if_neg]
  · unfold tornB
    rw [Int.toNat_natCast, Int.toNat_natCast, hR]
    have e1 : decide (∀ r, r < R → ∀ j, j < c → crv d (fun j => (O j : Int)) (fun i => shv d n D (O i) r) (O j : Int) = shv d n D (O j) r) = true := decide_eq_true fun r _ j _ => by
      rw [crv_pick (by omega) hD (fun j hj => by have := hpk j (by omega); omega) (fun i j hi' hj' => hi i j (by omega) (by omega))]
      rfl
    have e2 : decide (∀ i, i < R * d → i < n ∨ joinD d (fun j => (O j : Int)) (fun j r => shv d n D (O j) r) i = 0) = true := decide_eq_true fun i _ => by
      rw [joinD_pick (by omega) hD (fun j hj => by have := hpk j (by omega); omega) (fun i j hi' hj' => hi i j (by omega) (by omega))]
      unfold padD
      by_cases h : i < n
      · exact Or.inl h
      · exact Or.inr (by rw [if_neg h])
    rw [e1, e2]
    decide

/-- too few are never -/
theorem joinE_few (hp : planOk (d : Int) (m : Int) (n : Int) = true) (hdc : c < d) (hpk : ∀ j, j < c → O j < m) (hi : ∀ i j, i < c → j < c → O i = O j → i = j) {R : Nat} (hR : rowsN (d : Int) (n : Int) = R) :
    joinE (d : Int) (m : Int) (n : Int) c (fun j => (O j : Int)) (fun _ => R) (fun j r => shv d n D (O j) r) = 7 := by
  obtain ⟨h1, h2, h3⟩ := planOk_spec hp
  unfold joinE
  rw [if_pos hp, if_pos (by omega), if_pos (scan_pick hp hpk hi hR), if_neg (by omega)]
end

end Go.Proofs.Ytfcpmpcfbhkacaa
