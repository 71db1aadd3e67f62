/- What chapter 3's reference says of a list of shares: the first error, or that they are too few. -/
import Derived.Test.YtcdaknionmffgacShareSplits
namespace Go.Proofs.Ytcdaknionmffgac
open Go.RowKit CurveMath
set_option linter.unusedVariables false

section
variable {nd of sz : Int} {N : Nat → Int} {L : Nat → Nat} {X : Nat → Nat → Int} {n k : Nat} {e : Int}

theorem scanS_bad (hk : k < n) (h : scanS nd of sz N L X (n - k) k = e) (hb : oneE nd of sz (N k) (L k) (X k) ≠ 0) : e = oneE nd of sz (N k) (L k) (X k) := by
  rw [show n - k = (n - k - 1) + 1 by omega] at h
  simp only [scanS] at h
  rw [if_neg hb] at h
  exact h.symm

theorem scanS_dup (hk : k < n) (h : scanS nd of sz N L X (n - k) k = e) (hb : oneE nd of sz (N k) (L k) (X k) = 0) (hd : hasB N k (N k) = true) : e = 5 := by
  rw [show n - k = (n - k - 1) + 1 by omega] at h
  simp only [scanS] at h
  rw [if_pos hb, if_pos hd] at h
  exact h.symm

theorem scanS_next (hk : k < n) (h : scanS nd of sz N L X (n - k) k = e) (hb : oneE nd of sz (N k) (L k) (X k) = 0) (hd : hasB N k (N k) = false) : scanS nd of sz N L X (n - (k + 1)) (k + 1) = e := by
  rw [show n - k = (n - (k + 1)) + 1 by omega] at h
  simp only [scanS] at h
  rw [if_pos hb, if_neg (by rw [hd]; decide)] at h
  exact h

theorem oneE_who (h : oneE nd of sz (N k) (L k) (X k) = 0) : planOk nd of sz = true ∧ (0 ≤ N k ∧ N k < of) ∧ (L k : Int) = rowsN nd sz ∧ ∀ j, j < L k → 0 ≤ X k j ∧ X k j ≤ 30 := by
  unfold oneE at h
  by_cases h1 : planOk nd of sz = true
  · rw [if_pos h1] at h
    by_cases h2 : 0 ≤ N k ∧ N k < of
    · rw [if_pos h2] at h
      by_cases h3 : (L k : Int) = rowsN nd sz
      · rw [if_pos h3] at h
        by_cases h4 : numsB (L k) (X k) = true
        · exact ⟨h1, h2, h3, fun j hj => (isNum_iff _).1 ((of_decide_eq_true h4) j hj)⟩
        · rw [if_neg h4] at h; omega
      · rw [if_neg h3] at h; omega
    · rw [if_neg h2] at h; omega
  · rw [if_neg h1] at h; omega
end

/-- the first error of a list of shares, or that they are too few -/
def checksE (nd of sz : Int) (n : Nat) (N : Nat → Int) (L : Nat → Nat) (X : Nat → Nat → Int) : Int :=
  if planOk nd of sz = true then (if n ≤ 8 then (if scanS nd of sz N L X n 0 = 0 then (if nd ≤ (n : Int) then 0 else 7) else scanS nd of sz N L X n 0) else 1) else 2

theorem hasB_next (X : Nat → Int) (k : Nat) (v : Int) : hasB X (k + 1) v = (if X k = v then true else hasB X k v) := by
  by_cases h : X k = v
  · rw [if_pos h, hasB_iff]
    exact ⟨k, by omega, h⟩
  · rw [if_neg h]
    rw [Bool.eq_iff_iff, hasB_iff, hasB_iff]
    constructor
    · rintro ⟨j, hj, e⟩
      by_cases hjk : j = k
      · subst hjk; exact absurd e h
      · exact ⟨j, by omega, e⟩
    · rintro ⟨j, hj, e⟩; exact ⟨j, by omega, e⟩

/-- the plan, and which numbers were seen -/
structure SeenInv (w wr : World) (A : Nat) (nd of sz : Int) (N : Nat → Int) (j : Nat) : Prop where
  below : Below w.heap.size w wr
  ge : w.heap.size < A
  p0 : wr.cell? ⟨w.heap.size, 0, none⟩ = some (.int .i64 nd)
  p1 : wr.cell? ⟨w.heap.size, 1, none⟩ = some (.int .i64 of)
  p2 : wr.cell? ⟨w.heap.size, 2, none⟩ = some (.int .i64 sz)
  s : ∀ i, i < 8 → wr.cell? ⟨A, i, none⟩ = some (.bool (hasB N j (i : Int)))
  f : ∀ i, i < 8 → wr.frozen? ⟨A, i, none⟩ = false

theorem SeenInv.up {w wr w' : World} {A : Nat} {nd of sz : Int} {N : Nat → Int} {j : Nat} (h : SeenInv w wr A nd of sz N j) (hb : Below wr.heap.size wr w') : SeenInv w w' A nd of sz N j :=
  ⟨h.below.trans (hb.mono h.below.size), h.ge, by rw [hb.cell (cell_lt h.p0)]; exact h.p0, by rw [hb.cell (cell_lt h.p1)]; exact h.p1, by rw [hb.cell (cell_lt h.p2)]; exact h.p2,
    fun i hi => by rw [hb.cell (cell_lt (h.s i hi))]; exact h.s i hi, fun i hi => by rw [hb.frozen (cell_lt (h.s i hi))]; exact h.f i hi⟩

theorem SeenInv.next {w wr : World} {A : Nat} {nd of sz : Int} {N : Nat → Int} {j ν : Nat} (h : SeenInv w wr A nd of sz N j) (hν : ν < 8) (e : N j = (ν : Int)) : SeenInv w (wr.setCell ⟨A, ν, none⟩ (.bool true)) A nd of sz N (j + 1) := by
  have hge := h.ge
  have ho : ∀ (o : Nat) (v : Value), wr.cell? ⟨w.heap.size, o, none⟩ = some v → (wr.setCell ⟨A, ν, none⟩ (.bool true)).cell? ⟨w.heap.size, o, none⟩ = some v := fun o v hv => by
    rw [World.cell?_setCell_other _ _ _ _ (by intro e; injection e with e1; omega)]; exact hv
  refine ⟨h.below.setCell (p := ⟨A, ν, none⟩) (by show w.heap.size ≤ A; omega) _, h.ge, ho _ _ h.p0, ho _ _ h.p1, ho _ _ h.p2, fun i hi => ?_, fun i hi => by rw [World.frozen?_setCell]; exact h.f i hi⟩
  rw [hasB_next, e]
  by_cases hie : i = ν
  · subst hie
    rw [if_pos rfl]
    exact World.cell?_setCell_same _ _ _ (h.s i hi)
  · rw [if_neg (by omega), World.cell?_setCell_other _ _ _ _ (by intro e; injection e with _ e2; omega)]
    exact h.s i hi

end Go.Proofs.Ytcdaknionmffgac
