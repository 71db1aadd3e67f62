/- One share of those picked is bent in one number: what is joined then. Plain: it speaks of no program. -/
import Derived.Test.YtfcpmpcfbhkacaaShareMath
namespace Go.Proofs.Ytfcpmpcfbhkacaa
open Go.RowKit CurveMath
set_option linter.unusedVariables false

/-- one number of one share is another one -/
def bentX (X : Nat → Nat → Int) (k i : Nat) (x : Int) (j r : Nat) : Int := if j = k ∧ r = i then x else X j r

section
variable {d m n c : Nat} {D : Nat → Int} {O : Nat → Nat} {R k i : Nat} {x : Int}

theorem bent_num (hx : 0 ≤ x ∧ x ≤ 30) (j r : Nat) : 0 ≤ bentX (fun j r => shv d n D (O j) r) k i x j r ∧ bentX (fun j r => shv d n D (O j) r) k i x j r ≤ 30 := by
  unfold bentX
  split
  · exact hx
  · exact shv_num _ _ _ _ _

theorem scan_bent (hp : planOk (d : Int) (m : Int) (n : Int) = true) (hpk : ∀ j, j < c → O j < m) (hi : ∀ i j, i < c → j < c → O i = O j → i = j) (hR : rowsN (d : Int) (n : Int) = R) (hx : 0 ≤ x ∧ x ≤ 30) :
    scanS (d : Int) (m : Int) (n : Int) (fun j => (O j : Int)) (fun _ => R) (bentX (fun j r => shv d n D (O j) r) k i x) c 0 = 0 :=
  scanS_mk c 0 fun j _ hj => ⟨oneE_mk hp ⟨by omega, by have := hpk j (by omega); show (O j : Int) < (m : Int); omega⟩ (by rw [hR]) (fun r _ => bent_num hx j r), hasB_pick hi j (by omega)⟩

theorem joinE_of (hp : planOk (d : Int) (m : Int) (n : Int) = true) (hdc : d ≤ c) (hc : c ≤ m) (hpk : ∀ j, j < c → O j < m) (hi : ∀ i j, i < c → j < c → O i = O j → i = j) (hR : rowsN (d : Int) (n : Int) = R) (hx : 0 ≤ x ∧ x ≤ 30) :
    joinE (d : Int) (m : Int) (n : Int) c (fun j => (O j : Int)) (fun _ => R) (bentX (fun j r => shv d n D (O j) r) k i x) = if tornB d n R c (fun j => (O j : Int)) (bentX (fun j r => shv d n D (O j) r) k i x) = true then 9 else 0 := by
  obtain ⟨h1, h2, h3⟩ := planOk_spec hp
  unfold joinE
  rw [if_pos hp, if_pos (by omega), if_pos (scan_bent hp hpk hi hR hx), if_pos (by omega), Int.toNat_natCast, Int.toNat_natCast, hR]

theorem good_bent (hd : 1 ≤ d ∧ d ≤ 8) (ho : ∀ j, j < d → O j < 8) (hi : ∀ i j, i < d → j < d → O i = O j → i = j) (hx : 0 ≤ x ∧ x ≤ 30) (r : Nat) : Good d d (fun j => (O j : Int)) (fun j => bentX (fun j r => shv d n D (O j) r) k i x j r) :=
  ⟨rfl, hd, (good_pick (n := n) (D := D) hd ho hi r).xs, fun j hj => bent_num hx j r, (good_pick (n := n) (D := D) hd ho hi r).inj⟩

/-- one too many: it is told -/
theorem torn_more (hd : 1 ≤ d ∧ d ≤ 7) (hD : ∀ j, j < n → 0 ≤ D j ∧ D j ≤ 30) (ho : ∀ j, j < d + 1 → O j < 8) (hi : ∀ i j, i < d + 1 → j < d + 1 → O i = O j → i = j) (hk : k < d + 1) (hir : i < R) (hx : 0 ≤ x ∧ x ≤ 30) (hne : x ≠ shv d n D (O k) i) :
    tornB d n R (d + 1) (fun j => (O j : Int)) (bentX (fun j r => shv d n D (O j) r) k i x) = true := by
  unfold tornB
  rw [Bool.not_eq_true']
  refine Bool.and_eq_false_iff.2 (Or.inl (decide_eq_false fun h => ?_))
  have h1 := h i hir
  have hinj : ∀ a b, a < d → b < d → without k id a = without k id b → a = b := fun a b ha hb e => by
    unfold without at e
    simp only [id] at e
    split at e <;> split at e <;> omega
  have hlt : ∀ a, a < d → without k id a < d + 1 ∧ without k id a ≠ k := fun a ha => by
    unfold without
    simp only [id]
    split <;> omega
  have g1 := good_bent (n := n) (D := D) (k := k) (i := i) (x := x) (O := O) (d := d) ⟨hd.1, by omega⟩ (fun j hj => ho j (by omega)) (fun a b ha hb => hi a b (by omega) (by omega)) hx i
  have hob : ∀ j, j < d → O (without k id j) < 8 := fun j hj => ho _ (hlt j hj).1
  have hib : ∀ a b, a < d → b < d → O (without k id a) = O (without k id b) → a = b := fun a b ha hb e => hinj a b ha hb (hi _ _ (hlt a ha).1 (hlt b hb).1 e)
  have g2 := good_pick (n := n) (D := D) (O := fun j => O (without k id j)) ⟨hd.1, by omega⟩ hob hib i
  have e1 := crv_pick (n := n) (D := D) (O := fun j => O (without k id j)) ⟨hd.1, by omega⟩ hD hob hib i (O k : Int)
  have e2 := crv_alike g1 g2 (Nat.le_refl _) (fun j hj => by
    have h2 := h1 (without k id j) (hlt j hj).1
    show shv d n D (O (without k id j)) i = _
    rw [h2]
    unfold bentX
    rw [if_neg (fun hh => (hlt j hj).2 hh.1)]) (O k : Int)
  have h3 := h1 k hk
  rw [e1] at e2
  have e3 : crv d (fun j => (O j : Int)) (fun j => bentX (fun j r => shv d n D (O j) r) k i x j i) (O k : Int) = x := by
    rw [h3]
    unfold bentX
    rw [if_pos ⟨rfl, rfl⟩]
  rw [e3] at e2
  exact hne e2.symm

/-- just enough: it is told, or something else is made -/
theorem torn_just (hd : 1 ≤ d ∧ d ≤ 8) (hD : ∀ j, j < n → 0 ≤ D j ∧ D j ≤ 30) (ho : ∀ j, j < d → O j < 8) (hi : ∀ i j, i < d → j < d → O i = O j → i = j) (hk : k < d) (hir : i < R) (hx : 0 ≤ x ∧ x ≤ 30) (hne : x ≠ shv d n D (O k) i)
    (ht : tornB d n R d (fun j => (O j : Int)) (bentX (fun j r => shv d n D (O j) r) k i x) = false) : eqB n n (joinD d (fun j => (O j : Int)) (bentX (fun j r => shv d n D (O j) r) k i x)) D = false := by
  refine decide_eq_false fun heq => ?_
  unfold tornB at ht
  rw [Bool.not_eq_false'] at ht
  obtain ⟨_, h2⟩ := Bool.and_eq_true_iff.1 ht
  have h2 := of_decide_eq_true h2
  have g1 := good_bent (n := n) (D := D) (k := k) (i := i) (x := x) hd ho hi hx i
  have key : ∀ t, t < d → padD n D (i * d + t) = crv d (fun j => (O j : Int)) (fun j => bentX (fun j r => shv d n D (O j) r) k i x j i) (t : Int) := fun t ht => by
    have e1 : (i * d + t) / d = i := by rw [Nat.mul_comm, Nat.mul_add_div (by omega), Nat.div_eq_of_lt ht, Nat.add_zero]
    have e2 : (i * d + t) % d = t := by rw [Nat.mul_comm, Nat.mul_add_mod, Nat.mod_eq_of_lt ht]
    have e3 : joinD d (fun j => (O j : Int)) (bentX (fun j r => shv d n D (O j) r) k i x) (i * d + t) = crv d (fun j => (O j : Int)) (fun j => bentX (fun j r => shv d n D (O j) r) k i x j i) (t : Int) := by
      unfold joinD
      rw [e1, e2]
    rw [← e3]
    unfold padD
    by_cases hn : i * d + t < n
    · rw [if_pos hn]
      exact (heq.2 _ hn).symm
    · rw [if_neg hn]
      have hlt : i * d + t < R * d := by
        have : (i + 1) * d ≤ R * d := Nat.mul_le_mul_right d hir
        rw [Nat.add_mul, Nat.one_mul] at this
        omega
      rcases h2 _ hlt with h | h
      · exact absurd h hn
      · exact h.symm
  have e := crv_alike g1 (good_row hd hD i) (Nat.le_refl _) key (O k : Int)
  have e3 := crv_own g1 k hk
  have e4 : bentX (fun j r => shv d n D (O j) r) k i x k i = x := by unfold bentX; rw [if_pos ⟨rfl, rfl⟩]
  have e5 : shv d n D (O k) i = x := by
    have e6 : shv d n D (O k) i = crv d (fun i => (i : Int)) (fun t => padD n D (i * d + t)) (O k : Int) := rfl
    rw [e6, e, e3, e4]
  exact hne e5.symm
end

end Go.Proofs.Ytfcpmpcfbhkacaa
