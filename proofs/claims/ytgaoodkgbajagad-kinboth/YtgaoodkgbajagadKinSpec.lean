/- Chapter 6 in plain words: where two versions come together; what package kin owes. -/
import Derived.Test.YtgaoodkgbajagadBookFam
import Derived.Test.YtgaoodkgbajagadBookGrowMath
namespace Go.Proofs.Ytgaoodkgbajagad
open Go.RowKit
set_option linter.unusedVariables false

/-- what keeps it from being told -/
def kinE (n : Nat) (b : Bk) (i j : Int) : Int := if behE n b i = 0 then behE n b j else behE n b i
/-- does version k come from old? -/
def fR (b : Bk) (k old : Nat) : Bool := frm b (k + 1) k old
/-- is k behind both? -/
def inB (b : Bk) (i j k : Nat) : Bool := fR b i k && fR b j k
/-- is k behind both, and behind no other one of them? -/
def topB (b : Bk) (n i j k : Nat) : Bool := inB b i j k && !anyB (fun o => inB b i j o && fR b o k) (n - (k + 1)) (k + 1)
/-- where both come together -/
def comL (b : Bk) (n i j : Nat) : List Int := pickL (topB b n i j) n
/-- does neither come from the other? -/
def apB (b : Bk) (i j : Nat) : Bool := !fR b i j && !fR b j i

/-- what package kin owes -/
structure KinOwes : Prop where
  common : ∀ (v : Value) (n : Nat) (PV : Nat → Value) (b : Bk) (i j : Int) (w : World), VeSl w w.heap.size v n PV b →
    Calls Try.prog 17 #[bookV v, .int .i64 i, .int .i64 j] w (LiPost w (if kinE n b i j = 0 then comL b n i.toNat j.toNat else []) (kinE n b i j))
  apart : ∀ (v : Value) (n : Nat) (PV : Nat → Value) (b : Bk) (i j : Int) (w : World), VeSl w w.heap.size v n PV b →
    Calls Try.prog 18 #[bookV v, .int .i64 i, .int .i64 j] w fun e w' => e = .returned (.tuple #[.bool (if kinE n b i j = 0 then apB b i.toNat j.toNat else false), .int .i64 (kinE n b i j)]) ∧ Below w.heap.size w w'

theorem anyB_snoc (p : Nat → Bool) (f i : Nat) : anyB p (f + 1) i = (anyB p f i || p (i + f)) := by
  rw [Bool.eq_iff_iff, Bool.or_eq_true, anyB_iff, anyB_iff]
  constructor
  · rintro ⟨j, h1, h2, h3⟩
    by_cases e : j = i + f
    · subst e; exact Or.inr h3
    · exact Or.inl ⟨j, h1, by omega, h3⟩
  · rintro (⟨j, h1, h2, h3⟩ | h)
    · exact ⟨j, h1, by omega, h3⟩
    · exact ⟨i + f, by omega, by omega, h⟩

theorem fR_iff {n : Nat} {b : Bk} (hE : Elder n b) {k old : Nat} (hk : k < n) : fR b k old = true ↔ Rea b k old := frm_iff hE (k + 1) k old (Nat.lt_succ_self _) hk

theorem inB_iff {n : Nat} {b : Bk} (hE : Elder n b) {i j k : Nat} (hi : i < n) (hj : j < n) : inB b i j k = true ↔ Rea b i k ∧ Rea b j k := by
  unfold inB
  rw [Bool.and_eq_true, fR_iff hE hi, fR_iff hE hj]

theorem topB_iff {n : Nat} {b : Bk} (hE : Elder n b) {i j k : Nat} (hi : i < n) (hj : j < n) : topB b n i j k = true ↔ (Rea b i k ∧ Rea b j k) ∧ ∀ o, o ≠ k → Rea b i o → Rea b j o → ¬ Rea b o k := by
  unfold topB
  rw [Bool.and_eq_true, inB_iff hE hi hj, Bool.not_eq_true', Bool.eq_false_iff]
  constructor
  · rintro ⟨h1, h2⟩
    refine ⟨h1, fun o ho hio hjo hok => h2 ((anyB_iff _ _ _).2 ⟨o, ?_, ?_, ?_⟩)⟩
    · have h3 := hio.le hE hi
      have h4 := hok.le hE (by omega)
      omega
    · have h3 := hio.le hE hi
      have h4 := hok.le hE (by omega)
      omega
    · rw [Bool.and_eq_true, inB_iff hE hi hj, fR_iff hE (by have := hio.le hE hi; omega)]
      exact ⟨⟨hio, hjo⟩, hok⟩
  · rintro ⟨h1, h2⟩
    refine ⟨h1, fun h => ?_⟩
    obtain ⟨o, h3, h4, h5⟩ := (anyB_iff _ _ _).1 h
    rw [Bool.and_eq_true, inB_iff hE hi hj, fR_iff hE (by omega)] at h5
    exact h2 o (by omega) h5.1.1 h5.1.2 h5.2

theorem mem_comL {n : Nat} {b : Bk} (hE : Elder n b) {i j : Nat} (hi : i < n) (hj : j < n) {x : Int} : x ∈ comL b n i j ↔ ∃ k : Nat, x = k ∧ (Rea b i k ∧ Rea b j k) ∧ ∀ o, o ≠ k → Rea b i o → Rea b j o → ¬ Rea b o k := by
  unfold comL
  rw [mem_pickL]
  constructor
  · rintro ⟨k, h1, h2, e⟩; exact ⟨k, e, (topB_iff hE hi hj).1 h2⟩
  · rintro ⟨k, e, h⟩; exact ⟨k, by have := h.1.1.le hE hi; omega, (topB_iff hE hi hj).2 h, e⟩

theorem comL_comm {n : Nat} {b : Bk} (hE : Elder n b) {i j : Nat} (hi : i < n) (hj : j < n) : comL b n j i = comL b n i j := by
  unfold comL
  refine pickL_congr fun x hx => ?_
  rw [Bool.eq_iff_iff, topB_iff hE hj hi, topB_iff hE hi hj]
  constructor
  · rintro ⟨h1, h2⟩; exact ⟨⟨h1.2, h1.1⟩, fun o ho a c => h2 o ho c a⟩
  · rintro ⟨h1, h2⟩; exact ⟨⟨h1.2, h1.1⟩, fun o ho a c => h2 o ho c a⟩

theorem Rea.anti {n : Nat} {b : Bk} (hE : Elder n b) {i j : Nat} (hi : i < n) (h1 : Rea b i j) (h2 : Rea b j i) : i = j := by
  have a1 := h1.le hE hi
  have a2 := h2.le hE (by omega)
  omega

/-- of one that comes from the other it is that other one -/
theorem comL_from {n : Nat} {b : Bk} (hE : Elder n b) {i j : Nat} (hi : i < n) (hj : j < n) (h : Rea b i j) : comL b n i j = [(j : Int)] := by
  have e : comL b n i j = pickL (fun k => decide (k = j)) n := by
    unfold comL
    refine pickL_congr fun x hx => ?_
    rw [Bool.eq_iff_iff, topB_iff hE hi hj, decide_eq_true_iff]
    constructor
    · rintro ⟨h1, h2⟩
      by_cases e : x = j
      · exact e
      · exact absurd h1.2 (h2 j (fun h => e h.symm) h (Rea.refl _))
    · rintro rfl
      exact ⟨⟨h, Rea.refl _⟩, fun o ho _ hjo hoj => ho (Rea.anti hE hj hjo hoj).symm⟩
  rw [e, pickL_more (j := j + 1) (m := n) (by omega) (fun x h1 h2 => decide_eq_false (by omega)), pickL_succ, decide_eq_true rfl, if_pos rfl, pickL_more (p := fun k => decide (k = j)) (j := 0) (m := j) (Nat.zero_le _) (fun x h1 h2 => decide_eq_false (by omega))]
  rfl

theorem kinE_ok {n : Nat} {b : Bk} {i j : Int} (h : kinE n b i j = 0) : bookE n b = 0 ∧ (0 ≤ i ∧ i < (n : Int)) ∧ (0 ≤ j ∧ j < (n : Int)) := by
  have key : ∀ {k}, behE n b k = 0 → bookE n b = 0 ∧ (0 ≤ k ∧ k < (n : Int)) := fun {k} h => by
    unfold behE at h
    by_cases h0 : bookE n b = 0
    · rw [if_pos h0] at h
      by_cases h1 : 0 ≤ k ∧ k < (n : Int)
      · exact ⟨h0, h1⟩
      · rw [if_neg h1] at h; omega
    · rw [if_neg h0] at h; exact absurd h h0
  unfold kinE at h
  by_cases h0 : behE n b i = 0
  · rw [if_pos h0] at h; exact ⟨(key h0).1, (key h0).2, (key h).2⟩
  · rw [if_neg h0] at h; exact absurd h h0

theorem kinE_mk {n : Nat} {b : Bk} {i j : Nat} (h : bookE n b = 0) (hi : i < n) (hj : j < n) : kinE n b i j = 0 := by
  unfold kinE behE
  rw [h, if_pos rfl, if_pos (by omega), if_pos rfl, if_pos (by omega)]

/-- the error, as the law puts it -/
theorem kinE_eq (n : Nat) (b : Bk) (i j : Int) : kinE n b i j = if bookE n b = 0 then (if (0 ≤ i ∧ i < (n : Int)) ∧ (0 ≤ j ∧ j < (n : Int)) then 0 else 4) else bookE n b := by
  unfold kinE behE
  by_cases h0 : bookE n b = 0
  · rw [h0, if_pos rfl, if_pos rfl, if_pos rfl]
    by_cases hi : 0 ≤ i ∧ i < (n : Int)
    · rw [if_pos hi, if_pos rfl]
      by_cases hj : 0 ≤ j ∧ j < (n : Int)
      · rw [if_pos hj, if_pos ⟨hi, hj⟩]
      · rw [if_neg hj, if_neg (fun h => hj h.2)]
    · rw [if_neg hi, if_neg (by decide), if_neg (fun h => hi h.1)]
  · rw [if_neg h0, if_neg h0, if_neg h0]

end Go.Proofs.Ytgaoodkgbajagad
