/- Where two versions come together, picked in two steps. Plain: it speaks of no program. -/
import Derived.Test.YtgaoodkgbajagadKinSpec
namespace Go.Proofs.Ytgaoodkgbajagad
open Go.RowKit
set_option linter.unusedVariables false

theorem take_next (l : List Int) {j : Nat} (h : j < l.length) : l.take (j + 1) = l.take j ++ [l.getD j 0] := by
  rw [List.take_add_one, List.getD_eq_getElem?_getD, List.getElem?_eq_getElem h]
  rfl

theorem filt_next (p : Int → Bool) (l : List Int) {j : Nat} (h : j < l.length) {x : Int} (hx : l.getD j 0 = x) : (l.take (j + 1)).filter p = (l.take j).filter p ++ (if p x = true then [x] else []) := by
  rw [take_next l h, List.filter_append, hx]
  cases hp : p x <;> simp [hp]

theorem filt_len (p : Int → Bool) (l : List Int) (j : Nat) : ((l.take j).filter p).length ≤ j := by
  refine Nat.le_trans (List.length_filter_le _ _) ?_
  rw [List.length_take]
  omega

theorem pickL_filter (p : Nat → Bool) (q : Int → Bool) (n : Nat) : (pickL p n).filter q = pickL (fun x => p x && q (x : Int)) n := by
  unfold pickL
  rw [List.filter_map, List.filter_filter]
  congr 1
  refine List.filter_congr fun x _ => ?_
  exact Bool.and_comm _ _

section
variable {n : Nat} {b : Bk}

theorem bhL_pick (hE : Elder n b) {k : Nat} (hk : k < n) : bhL b k = pickL (fR b k) n := by
  rw [bhL_rea hE hk (p := fR b k) (fun x _ => fR_iff hE hk)]
  refine (pickL_more (j := k + 1) (m := n) (by omega) (fun x h1 h2 => ?_)).symm
  cases h : fR b k x with
  | false => rfl
  | true => have := ((fR_iff hE hk).1 h).le hE hk; omega

/-- is it among these? -/
def amB (l : List Int) (x : Int) : Bool := hasB (fun t => l.getD t 0) l.length x

theorem amB_iff {l : List Int} {x : Int} : amB l x = true ↔ x ∈ l := getD_mem

/-- those that are behind both -/
def bothL (b : Bk) (n i j : Nat) : List Int := pickL (inB b i j) n

theorem both_pick (hE : Elder n b) {i j : Nat} (hi : i < n) (hj : j < n) : (bhL b i).filter (amB (bhL b j)) = bothL b n i j := by
  rw [bhL_pick hE hi, pickL_filter]
  refine pickL_congr fun x hx => ?_
  unfold inB
  congr 1
  rw [Bool.eq_iff_iff, amB_iff, mem_bhL hE hj, fR_iff hE hj]
  constructor
  · rintro ⟨y, e, h⟩
    obtain rfl : x = y := by omega
    exact h
  · intro h; exact ⟨x, rfl, h⟩

/-- does another one of these come from it? -/
def pasB (b : Bk) (l : List Int) (x : Int) : Bool := anyB (fun t => decide (l.getD t 0 ≠ x) && fR b (l.getD t 0).toNat x.toNat) l.length 0

theorem pasB_iff {l : List Int} {x : Int} : pasB b l x = true ↔ ∃ y, y ∈ l ∧ y ≠ x ∧ fR b y.toNat x.toNat = true := by
  unfold pasB
  rw [anyB_iff]
  constructor
  · rintro ⟨t, _, h2, h3⟩
    rw [Bool.and_eq_true, decide_eq_true_iff] at h3
    exact ⟨_, getD_mem.1 ((hasB_iff _ _ _).2 ⟨t, by omega, rfl⟩), h3.1, h3.2⟩
  · rintro ⟨y, hy, h1, h2⟩
    obtain ⟨t, ht, e⟩ := (hasB_iff _ _ _).1 (getD_mem.2 hy)
    refine ⟨t, Nat.zero_le _, by omega, ?_⟩
    have e2 : l.getD t 0 = y := e
    rw [e2, Bool.and_eq_true, decide_eq_true_iff]
    exact ⟨h1, h2⟩

theorem mem_bothL (hE : Elder n b) {i j : Nat} (hi : i < n) (hj : j < n) {x : Int} : x ∈ bothL b n i j ↔ ∃ k : Nat, x = k ∧ k < n ∧ Rea b i k ∧ Rea b j k := by
  unfold bothL
  rw [mem_pickL]
  constructor
  · rintro ⟨k, h1, h2, e⟩; exact ⟨k, e, h1, (inB_iff hE hi hj).1 h2⟩
  · rintro ⟨k, e, h1, h2⟩; exact ⟨k, h1, (inB_iff hE hi hj).2 h2, e⟩

theorem com_pick (hE : Elder n b) {i j : Nat} (hi : i < n) (hj : j < n) : (bothL b n i j).filter (fun x => !pasB b (bothL b n i j) x) = comL b n i j := by
  have hp : ∀ x : Nat, x < n → (pasB b (bothL b n i j) (x : Int) = true ↔ ∃ o, o ≠ x ∧ Rea b i o ∧ Rea b j o ∧ Rea b o x) := fun x hx => by
    rw [pasB_iff]
    constructor
    · rintro ⟨y, hy, h1, h2⟩
      obtain ⟨o, rfl, ho, h3, h4⟩ := (mem_bothL hE hi hj).1 hy
      rw [Int.toNat_natCast, Int.toNat_natCast] at h2
      exact ⟨o, by omega, h3, h4, (fR_iff hE ho).1 h2⟩
    · rintro ⟨o, h1, h2, h3, h4⟩
      have ho : o < n := by have := h2.le hE hi; omega
      exact ⟨(o : Int), (mem_bothL hE hi hj).2 ⟨o, rfl, ho, h2, h3⟩, by omega, by rw [Int.toNat_natCast, Int.toNat_natCast]; exact (fR_iff hE ho).2 h4⟩
  unfold comL
  conv => lhs; unfold bothL
  rw [pickL_filter]
  refine pickL_congr fun x hx => ?_
  rw [Bool.eq_iff_iff, Bool.and_eq_true, Bool.not_eq_true', Bool.eq_false_iff, inB_iff hE hi hj, topB_iff hE hi hj]
  have h := hp x hx
  unfold bothL at h
  rw [Ne, h]
  constructor
  · rintro ⟨h1, h2⟩
    exact ⟨h1, fun o ho a c d => h2 ⟨o, ho, a, c, d⟩⟩
  · rintro ⟨h1, h2⟩
    exact ⟨h1, fun ⟨o, ho, a, c, d⟩ => h2 o ho a c d⟩

/-- one of both is where they come together just where the other one comes from it -/
theorem amB_left (hE : Elder n b) {i j : Nat} (hi : i < n) (hj : j < n) : amB (comL b n i j) (i : Int) = fR b j i := by
  rw [Bool.eq_iff_iff, amB_iff, mem_comL hE hi hj, fR_iff hE hj]
  constructor
  · rintro ⟨k, e, h, _⟩
    obtain rfl : i = k := by omega
    exact h.2
  · intro h
    refine ⟨i, rfl, ⟨Rea.refl _, h⟩, fun o ho h1 _ h3 => ho ?_⟩
    have := h1.le hE hi
    exact Rea.anti hE (by omega) h3 h1

theorem amB_right (hE : Elder n b) {i j : Nat} (hi : i < n) (hj : j < n) : amB (comL b n i j) (j : Int) = fR b i j := by
  rw [← comL_comm hE hi hj]
  exact amB_left hE hj hi

theorem bothL_lt {i j : Nat} {x : Int} (h : x ∈ bothL b n i j) : ∃ k : Nat, x = k ∧ k < n := by
  unfold bothL at h
  obtain ⟨k, h1, _, e⟩ := mem_pickL.1 h
  exact ⟨k, e, h1⟩
end

end Go.Proofs.Ytgaoodkgbajagad
