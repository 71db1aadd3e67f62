/- Several texts of one proof, in their order. -/
import Derived.Test.YtdhefajaekackaaBkSum14
import Derived.Test.YtdhefajaekackaaBkSum9

/- What one more version changes, in plain words. Plain: it speaks of no program. -/
namespace Go.Proofs.Ytdhefajaekackaa

set_option linter.unusedVariables false

section

variable {n lp : Nat} {b : Bk} {X : Nat → Int} {nd of sz : Int}

theorem snoc_old {k : Nat} (hk : k < n) : (snocB n b lp X nd of sz).PL k = b.PL k ∧ (snocB n b lp X nd of sz).PX k = b.PX k := by
  have h : k ≠ n := by omega
  simp [snocB, h]

theorem snoc_new : (snocB n b lp X nd of sz).PL n = lp ∧ (snocB n b lp X nd of sz).PX n = X := by simp [snocB]

theorem rea_old (hE : Elder n b) {k o : Nat} (hk : k < n) : Rea (snocB n b lp X nd of sz) k o ↔ Rea b k o := by
  constructor
  · intro h
    induction h with
    | refl => exact Rea.refl _
    | @step k i old hi h ih =>
      rw [(snoc_old hk).1] at hi
      rw [(snoc_old hk).2] at h ih
      obtain ⟨e1, e2⟩ := hE k hk i hi
      exact Rea.step hi (ih (by omega))
  · intro h
    induction h with
    | refl => exact Rea.refl _
    | @step k i old hi h ih =>
      obtain ⟨e1, e2⟩ := hE k hk i hi
      have h2 := ih (by omega)
      refine Rea.step (i := i) (by rw [(snoc_old hk).1]; exact hi) ?_
      rw [(snoc_old hk).2]
      exact h2

/-- what the new version's parents are -/
theorem new_par (hE : Elder (n + 1) (snocB n b lp X nd of sz)) {i : Nat} (hi : i < lp) : 0 ≤ X i ∧ X i < (n : Int) := by
  have h := hE n (Nat.lt_succ_self _) i (by rw [snoc_new.1]; exact hi)
  rw [snoc_new.2] at h
  exact h

theorem rea_new (hE : Elder n b) (hE' : Elder (n + 1) (snocB n b lp X nd of sz)) {o : Nat} : Rea (snocB n b lp X nd of sz) n o ↔ o = n ∨ ∃ i, i < lp ∧ Rea b (X i).toNat o := by
  constructor
  · intro h
    cases h with
    | refl => exact Or.inl rfl
    | @step _ i _ hi h =>
      rw [snoc_new.1] at hi
      rw [snoc_new.2] at h
      have := new_par hE' hi
      exact Or.inr ⟨i, hi, (rea_old hE (by omega)).1 h⟩
  · rintro (rfl | ⟨i, hi, h⟩)
    · exact Rea.refl _
    · have := new_par hE' hi
      refine Rea.step (i := i) (by rw [snoc_new.1]; exact hi) ?_
      rw [snoc_new.2]
      exact (rea_old hE (by omega)).2 h

theorem bhL_rea (hE : Elder n b) {k : Nat} (hk : k < n) {p : Nat → Bool} (hp : ∀ x, x ≤ k → (p x = true ↔ Rea b k x)) : bhL b k = pickL p (k + 1) := by
  unfold bhL
  rw [behL_pick]
  refine pickL_congr fun x hx => ?_
  rw [Bool.eq_iff_iff, frm_iff hE (k + 1) k x (Nat.lt_succ_self _) hk]
  exact (hp x (by omega)).symm

theorem mem_bhL (hE : Elder n b) {k : Nat} (hk : k < n) {x : Int} : x ∈ bhL b k ↔ ∃ y : Nat, x = y ∧ Rea b k y := by
  unfold bhL
  rw [behL_pick, mem_pickL]
  constructor
  · rintro ⟨y, _, h2, e⟩
    exact ⟨y, e, (frm_iff hE (k + 1) k y (Nat.lt_succ_self _) hk).1 h2⟩
  · rintro ⟨y, e, h⟩
    exact ⟨y, by have := h.le hE hk; omega, (frm_iff hE (k + 1) k y (Nat.lt_succ_self _) hk).2 h, e⟩

theorem bhL_old (hE : Elder n b) (hE' : Elder (n + 1) (snocB n b lp X nd of sz)) {k : Nat} (hk : k < n) : bhL (snocB n b lp X nd of sz) k = bhL b k := by
  have h := bhL_rea hE' (k := k) (by omega) (p := fun x => frm b (k + 1) k x) (fun x hx => by rw [frm_iff hE (k + 1) k x (Nat.lt_succ_self _) hk]; exact (rea_old hE hk).symm)
  rw [h]
  rfl

/-- the new version is a head -/
theorem head_new (hE' : Elder (n + 1) (snocB n b lp X nd of sz)) : (n : Int) ∈ headsL (snocB n b lp X nd of sz) (n + 1) (n + 1) := by
  rw [headsL_pick, mem_pickL]
  refine ⟨n, Nat.lt_succ_self _, ?_, rfl⟩
  cases h : anyB (parB (snocB n b lp X nd of sz) n) (n + 1) 0 with
  | false => rfl
  | true =>
    obtain ⟨j, hj, i, hi, e⟩ := (anyPar_iff _ _ _).1 h
    have := hE' j hj i hi
    omega

/-- its parents are no more -/
theorem head_not (hE' : Elder (n + 1) (snocB n b lp X nd of sz)) {i : Nat} (hi : i < lp) : X i ∉ headsL (snocB n b lp X nd of sz) (n + 1) (n + 1) := by
  rw [headsL_pick, mem_pickL]
  rintro ⟨k, _, h2, e⟩
  rw [(anyPar_iff _ _ _).2 ⟨n, Nat.lt_succ_self _, i, by rw [snoc_new.1]; exact hi, by rw [snoc_new.2]; exact e⟩] at h2
  cases h2

end

theorem getD_mem {l : List Int} {x : Int} : hasB (fun j => l.getD j 0) l.length x = true ↔ x ∈ l := by
  rw [hasB_iff, List.mem_iff_getElem?]
  constructor
  · rintro ⟨j, hj, e⟩
    exact ⟨j, by rw [← e]; simp [List.getD_eq_getElem?_getD, hj]⟩
  · rintro ⟨j, e⟩
    have hj := (List.getElem?_eq_some_iff.1 e).1
    refine ⟨j, hj, ?_⟩
    show l.getD j 0 = x
    simp [List.getD_eq_getElem?_getD, e]

theorem pickL_rise (p : Nat → Bool) (j : Nat) : List.Pairwise (· < ·) (pickL p j) := by
  unfold pickL
  rw [List.pairwise_map]
  refine List.Pairwise.imp (fun h => ?_) (List.Pairwise.filter p List.pairwise_lt_range)
  omega

theorem rise_at {l : List Int} (h : List.Pairwise (· < ·) l) {i : Nat} (hi : i + 1 < l.length) : l.getD i 0 < l.getD (i + 1) 0 := by
  have := List.pairwise_iff_getElem.1 h i (i + 1) (by omega) hi (by omega)
  simpa [List.getD_eq_getElem?_getD, hi, show i < l.length by omega] using this

theorem pickL_count (p : Nat → Bool) (j : Nat) : (pickL p j).length = ((List.range j).filter p).length := by unfold pickL; simp

/-- one more of a set -/
theorem count_add (p : Nat → Bool) (x : Nat) (m : Nat) (hx : x < m) : ((List.range m).filter fun y => p y || decide (y = x)).length = if p x = true then ((List.range m).filter p).length else ((List.range m).filter p).length + 1 := by
  have key : ∀ m, ((List.range m).filter fun y => p y || decide (y = x)).length = ((List.range m).filter p).length + (if x < m ∧ p x = false then 1 else 0) := by
    intro m
    induction m with
    | zero => simp
    | succ m ih =>
      rw [List.range_succ, List.filter_append, List.filter_append, List.length_append, List.length_append, ih]
      by_cases e : m = x
      · subst e
        cases hp : p m with
        | true => simp [hp]
        | false => simp [hp]
      · cases hp : p m with
        | true =>
          cases hq : p x with
          | true => simp [hp]
          | false =>
            by_cases hl : x < m
            · simp [hp, hl, show x < m + 1 by omega]
            · simp [hp, hl, show ¬ x < m + 1 by omega]
        | false =>
          cases hq : p x with
          | true => simp [hp, e]
          | false =>
            by_cases hl : x < m
            · simp [hp, e, hl, show x < m + 1 by omega]
            · simp [hp, e, hl, show ¬ x < m + 1 by omega]
  rw [key m]
  cases hp : p x with
  | true => simp
  | false => simp [hx]

end Go.Proofs.Ytdhefajaekackaa
