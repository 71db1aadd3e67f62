/- Several texts of one proof, in their order. -/
import Derived.Test.YtdhefajaekackaaKnSum15

/- Chapter 6 in plain words: where two versions come together; what package kin owes. -/
namespace Go.Proofs.Ytdhefajaekackaa

open Go.RowKit
set_option linter.unusedVariables false

/-- what keeps it from being told -/
def kinE (n : Nat) (b : Bk) (i j : Int) : Int := if behE n b i = 0 then behE n b j else behE n b i
/-- does version k come from old? -/
def fR (b : Bk) (k old : Nat) : Bool := frm b (k + 1) k old
/-- is k behind both? -/
def inB (b : Bk) (i j k : Nat) : Bool := fR b i k && fR b j k
/-- is k behind both, and behind no other one of them? -/
def topB (b : Bk) (n i j k : Nat) : Bool := inB b i j k && !anyB (fun o => inB b i j o && fR b o k) (n - (k + 1)) (k + 1)
/-- where both come together -/
def comL (b : Bk) (n i j : Nat) : List Int := pickL (topB b n i j) n
/-- does neither come from the other? -/
def apB (b : Bk) (i j : Nat) : Bool := !fR b i j && !fR b j i

/-- what package kin owes -/
structure KinOwes : Prop where
  common : ∀ (v : Value) (n : Nat) (PV : Nat → Value) (b : Bk) (i j : Int) (w : World), VeSl w w.heap.size v n PV b →
    Calls Try.prog 29 #[bookV v, .int .i64 i, .int .i64 j] w (LiPost w (if kinE n b i j = 0 then comL b n i.toNat j.toNat else []) (kinE n b i j))
  apart : ∀ (v : Value) (n : Nat) (PV : Nat → Value) (b : Bk) (i j : Int) (w : World), VeSl w w.heap.size v n PV b →
    Calls Try.prog 30 #[bookV v, .int .i64 i, .int .i64 j] w fun e w' => e = .returned (.tuple #[.bool (if kinE n b i j = 0 then apB b i.toNat j.toNat else false), .int .i64 (kinE n b i j)]) ∧ Below w.heap.size w w'

theorem anyB_snoc (p : Nat → Bool) (f i : Nat) : anyB p (f + 1) i = (anyB p f i || p (i + f)) := by
  rw [Bool.eq_iff_iff, Bool.or_eq_true, anyB_iff, anyB_iff]
  constructor
  · rintro ⟨j, h1, h2, h3⟩
    by_cases e : j = i + f
    · subst e; exact Or.inr h3
    · exact Or.inl ⟨j, h1, by omega, h3⟩
  · rintro (⟨j, h1, h2, h3⟩ | h)
    · exact ⟨j, h1, by omega, h3⟩
    · exact ⟨i + f, by omega, by omega, h⟩

theorem fR_iff {n : Nat} {b : Bk} (hE : Elder n b) {k old : Nat} (hk : k < n) : fR b k old = true ↔ Rea b k old := frm_iff hE (k + 1) k old (Nat.lt_succ_self _) hk

theorem inB_iff {n : Nat} {b : Bk} (hE : Elder n b) {i j k : Nat} (hi : i < n) (hj : j < n) : inB b i j k = true ↔ Rea b i k ∧ Rea b j k := by
  unfold inB
  rw [Bool.and_eq_true, fR_iff hE hi, fR_iff hE hj]

theorem topB_iff {n : Nat} {b : Bk} (hE : Elder n b) {i j k : Nat} (hi : i < n) (hj : j < n) : topB b n i j k = true ↔ (Rea b i k ∧ Rea b j k) ∧ ∀ o, o ≠ k → Rea b i o → Rea b j o → ¬ Rea b o k := by
  unfold topB
  rw [Bool.and_eq_true, inB_iff hE hi hj, Bool.not_eq_true', Bool.eq_false_iff]
  constructor
  · rintro ⟨h1, h2⟩
    refine ⟨h1, fun o ho hio hjo hok => h2 ((anyB_iff _ _ _).2 ⟨o, ?_, ?_, ?_⟩)⟩
    · have h3 := hio.le hE hi
      have h4 := hok.le hE (by omega)
      omega
    · have h3 := hio.le hE hi
      have h4 := hok.le hE (by omega)
      omega
    · rw [Bool.and_eq_true, inB_iff hE hi hj, fR_iff hE (by have := hio.le hE hi; omega)]
      exact ⟨⟨hio, hjo⟩, hok⟩
  · rintro ⟨h1, h2⟩
    refine ⟨h1, fun h => ?_⟩
    obtain ⟨o, h3, h4, h5⟩ := (anyB_iff _ _ _).1 h
    rw [Bool.and_eq_true, inB_iff hE hi hj, fR_iff hE (by omega)] at h5
    exact h2 o (by omega) h5.1.1 h5.1.2 h5.2

theorem mem_comL {n : Nat} {b : Bk} (hE : Elder n b) {i j : Nat} (hi : i < n) (hj : j < n) {x : Int} : x ∈ comL b n i j ↔ ∃ k : Nat, x = k ∧ (Rea b i k ∧ Rea b j k) ∧ ∀ o, o ≠ k → Rea b i o → Rea b j o → ¬ Rea b o k := by
  unfold comL
  rw [mem_pickL]
  constructor
  · rintro ⟨k, h1, h2, e⟩; exact ⟨k, e, (topB_iff hE hi hj).1 h2⟩
  · rintro ⟨k, e, h⟩; exact ⟨k, by have := h.1.1.le hE hi; omega, (topB_iff hE hi hj).2 h, e⟩

theorem comL_comm {n : Nat} {b : Bk} (hE : Elder n b) {i j : Nat} (hi : i < n) (hj : j < n) : comL b n j i = comL b n i j := by
  unfold comL
  refine pickL_congr fun x hx => ?_
  rw [Bool.eq_iff_iff, topB_iff hE hj hi, topB_iff hE hi hj]
  constructor
  · rintro ⟨h1, h2⟩; exact ⟨⟨h1.2, h1.1⟩, fun o ho a c => h2 o ho c a⟩
  · rintro ⟨h1, h2⟩; exact ⟨⟨h1.2, h1.1⟩, fun o ho a c => h2 o ho c a⟩

theorem Rea.anti {n : Nat} {b : Bk} (hE : Elder n b) {i j : Nat} (hi : i < n) (h1 : Rea b i j) (h2 : Rea b j i) : i = j := by
  have a1 := h1.le hE hi
  have a2 := h2.le hE (by omega)
  omega

/-- of one that comes from the other it is that other one -/
theorem comL_from {n : Nat} {b : Bk} (hE : Elder n b) {i j : Nat} (hi : i < n) (hj : j < n) (h : Rea b i j) : comL b n i j = [(j : Int)] := by
  have e : comL b n i j = pickL (fun k => decide (k = j)) n := by
    unfold comL
    refine pickL_congr fun x hx => ?_
    rw [Bool.eq_iff_iff, topB_iff hE hi hj, decide_eq_true_iff]
    constructor
    · rintro ⟨h1, h2⟩
      by_cases e : x = j
      · exact e
      · exact absurd h1.2 (h2 j (fun h => e h.symm) h (Rea.refl _))
    · rintro rfl
      exact ⟨⟨h, Rea.refl _⟩, fun o ho _ hjo hoj => ho (Rea.anti hE hj hjo hoj).symm⟩
  rw [e, pickL_more (j := j + 1) (m := n) (by omega) (fun x h1 h2 => decide_eq_false (by omega)), pickL_succ, decide_eq_true rfl, if_pos rfl, pickL_more (p := fun k => decide (k = j)) (j := 0) (m := j) (Nat.zero_le _) (fun x h1 h2 => decide_eq_false (by omega))]
  rfl

theorem kinE_ok {n : Nat} {b : Bk} {i j : Int} (h : kinE n b i j = 0) : bookE n b = 0 ∧ (0 ≤ i ∧ i < (n : Int)) ∧ (0 ≤ j ∧ j < (n : Int)) := by
  have key : ∀ {k}, behE n b k = 0 → bookE n b = 0 ∧ (0 ≤ k ∧ k < (n : Int)) := fun {k} h => by
    unfold behE at h
    by_cases h0 : bookE n b = 0
    · rw [if_pos h0] at h
      by_cases h1 : 0 ≤ k ∧ k < (n : Int)
      · exact ⟨h0, h1⟩
      · rw [if_neg h1] at h; omega
    · rw [if_neg h0] at h; exact absurd h h0
  unfold kinE at h
  by_cases h0 : behE n b i = 0
  · rw [if_pos h0] at h; exact ⟨(key h0).1, (key h0).2, (key h).2⟩
  · rw [if_neg h0] at h; exact absurd h h0

theorem kinE_mk {n : Nat} {b : Bk} {i j : Nat} (h : bookE n b = 0) (hi : i < n) (hj : j < n) : kinE n b i j = 0 := by
  unfold kinE behE
  rw [h, if_pos rfl, if_pos (by omega), if_pos rfl, if_pos (by omega)]

/-- the error, as the law puts it -/
theorem kinE_eq (n : Nat) (b : Bk) (i j : Int) : kinE n b i j = if bookE n b = 0 then (if (0 ≤ i ∧ i < (n : Int)) ∧ (0 ≤ j ∧ j < (n : Int)) then 0 else 4) else bookE n b := by
  unfold kinE behE
  by_cases h0 : bookE n b = 0
  · rw [h0, if_pos rfl, if_pos rfl, if_pos rfl]
    by_cases hi : 0 ≤ i ∧ i < (n : Int)
    · rw [if_pos hi, if_pos rfl]
      by_cases hj : 0 ≤ j ∧ j < (n : Int)
      · rw [if_pos hj, if_pos ⟨hi, hj⟩]
      · rw [if_neg hj, if_neg (fun h => hj h.2)]
    · rw [if_neg hi, if_neg (by decide), if_neg (fun h => hi h.1)]
  · rw [if_neg h0, if_neg h0, if_neg h0]

end Go.Proofs.Ytdhefajaekackaa

/- The closed fact that chapter 6's laws ask first, of a package that does what it owes. -/
namespace Go.Proofs.Ytdhefajaekackaa

open Go.RowKit
set_option linter.unusedVariables false

/-- a block stays -/
theorem keep {w w' : World} {g : Nat} {o : Obj} (h : w.heap[g]? = some o) (hb : Below w.heap.size w w') : w'.heap[g]? = some o := by
  rw [hb.block _ (Array.getElem?_eq_some_iff.1 h).1]; exact h

theorem drawn_below (w : World) (k : Nat) : Below w.heap.size w (w.drewN k) := ⟨rfl, rfl, rfl, Nat.le_refl _, fun _ _ => rfl⟩

theorem same_list (l : List Int) : eqB l.length l.length (fun j => l.getD j 0) (fun j => l.getD j 0) = true := decide_eq_true ⟨rfl, fun _ _ => rfl⟩

theorem kinF1 : kinE 5 famB 3 4 = 0 ∧ comL famB 5 3 4 = [2] ∧ apB famB 3 4 = true := by decide
theorem kinF2 : kinE 5 famB 1 2 = 0 ∧ comL famB 5 1 2 = [0] := by decide
theorem kinF3 : kinE 5 famB 3 1 = 0 ∧ apB famB 3 1 = false := by decide
theorem kinF4 : kinE 5 famB 3 5 = 4 := by decide

/-- Common, Apart, by what they owe at a right book and versions -/
theorem KinOwes.commonOk (hO : KinOwes) {v : Value} {n : Nat} {PV : Nat → Value} {b : Bk} {w : World} (h : VeSl w w.heap.size v n PV b) (i j : Nat) (l : List Int) (he : kinE n b i j = 0) (hl : comL b n i j = l) :
    Calls Try.prog 29 #[.agg #[v], .int .i64 (i : Int), .int .i64 (j : Int)] w (LiPost w l 0) := by
  have h1 := hO.common v n PV b i j w h
  rw [he, if_pos rfl, Int.toNat_natCast, Int.toNat_natCast, hl] at h1
  exact h1

theorem KinOwes.apartOk (hO : KinOwes) {v : Value} {n : Nat} {PV : Nat → Value} {b : Bk} {w : World} (h : VeSl w w.heap.size v n PV b) (i j : Nat) (a : Bool) (he : kinE n b i j = 0) (ha : apB b i j = a) :
    Calls Try.prog 30 #[.agg #[v], .int .i64 (i : Int), .int .i64 (j : Int)] w fun e w' => e = .returned (.tuple #[.bool a, .int .i64 0]) ∧ Below w.heap.size w w' := by
  have h1 := hO.apart v n PV b i j w h
  rw [he, if_pos rfl, Int.toNat_natCast, Int.toNat_natCast, ha] at h1
  exact h1

theorem KinOwes.apartBad (hO : KinOwes) {v : Value} {n : Nat} {PV : Nat → Value} {b : Bk} {w : World} (h : VeSl w w.heap.size v n PV b) (i j : Int) (c : Int) (he : kinE n b i j = c) (hc : c ≠ 0) :
    Calls Try.prog 30 #[.agg #[v], .int .i64 i, .int .i64 j] w fun e w' => e = .returned (.tuple #[.bool false, .int .i64 c]) ∧ Below w.heap.size w w' := by
  have h1 := hO.apart v n PV b i j w h
  rw [he, if_neg hc] at h1
  exact h1

set_option maxHeartbeats 4000000 in
set_option maxRecDepth 10000 in
theorem joined_any (hO : KinOwes) (w : World) : Calls Try.prog 31 #[] w fun e w' => e = .returned (.bool true) ∧ Below w.heap.size w w' := by
  have HO := hid hO
  clear hO
  go_enter Try.func31, Try.ntmps31
  go_wp2_with fail
  refine Calls.mono (family_any w) ?_
  rintro e w1 ⟨hb1, bl1, PV1, rfl, hv1⟩
  have HB1 := hid hb1
  have HC := hid (HO.out.commonOk hv1 3 4 _ kinF1.1 kinF1.2.1)
  clear hb1 hv1
  unfold bookV
  go_wp2_with fail
  refine Calls.mono HC.out ?_
  rintro e w2 ⟨hb2, vl, rfl, hl⟩
  have HB2 := hid (HB1.out.trans (hb2.mono HB1.out.size))
  have HL := hid hl
  obtain ⟨al, cl, rfl, _, _⟩ := hl
  clear hb2 HC HB1
  go_wp2_with fail
  refine Calls.mono (family_any w2) ?_
  rintro e w3 ⟨hb3, bl3, PV3, rfl, hv3⟩
  have HB3 := hid (HB2.out.trans (hb3.mono HB2.out.size))
  have HL3 := hid (HL.out.up hb3)
  have HC := hid (HO.out.commonOk hv3 1 2 _ kinF2.1 kinF2.2)
  clear hb3 hv3 HL HB2
  unfold bookV
  go_wp2_with fail
  refine Calls.mono HC.out ?_
  rintro e w4 ⟨hb4, vm, rfl, hm⟩
  have HB4 := hid (HB3.out.trans (hb4.mono HB3.out.size))
  have HL4 := hid (HL3.out.up hb4)
  have HM4 := hid hm
  obtain ⟨am, cm, rfl, _, _⟩ := hm
  clear hb4 HC HB3 HL3
  go_wp2_with fail
  refine Calls.mono (family_any w4) ?_
  rintro e w5 ⟨hb5, bl5, PV5, rfl, hv5⟩
  have HB5 := hid (HB4.out.trans (hb5.mono HB4.out.size))
  have HL5 := hid (HL4.out.up hb5)
  have HM5 := hid (HM4.out.up hb5)
  have HC := hid (HO.out.apartOk hv5 3 4 _ kinF1.1 kinF1.2.2)
  clear hb5 hv5 HB4 HL4 HM4
  unfold bookV
  go_wp2_with fail
  refine Calls.mono HC.out ?_
  rintro e w6 ⟨rfl, hb6⟩
  have HB6 := hid (HB5.out.trans (hb6.mono HB5.out.size))
  have HL6 := hid (HL5.out.up hb6)
  have HM6 := hid (HM5.out.up hb6)
  clear hb6 HC HB5 HL5 HM5
  go_wp2_with fail
  refine Calls.mono (family_any w6) ?_
  rintro e w7 ⟨hb7, bl7, PV7, rfl, hv7⟩
  have HB7 := hid (HB6.out.trans (hb7.mono HB6.out.size))
  have HL7 := hid (HL6.out.up hb7)
  have HM7 := hid (HM6.out.up hb7)
  have HC := hid (HO.out.apartOk hv7 3 1 _ kinF3.1 kinF3.2)
  clear hb7 hv7 HB6 HL6 HM6
  unfold bookV
  go_wp2_with fail
  refine Calls.mono HC.out ?_
  rintro e w8 ⟨rfl, hb8⟩
  have HB8 := hid (HB7.out.trans (hb8.mono HB7.out.size))
  have HL8 := hid (HL7.out.up hb8)
  have HM8 := hid (HM7.out.up hb8)
  clear hb8 HC HB7 HL7 HM7
  go_wp2_with fail
  refine Calls.mono (family_any w8) ?_
  rintro e w9 ⟨hb9, bl9, PV9, rfl, hv9⟩
  have HB9 := hid (HB8.out.trans (hb9.mono HB8.out.size))
  have HL9 := hid (HL8.out.up hb9)
  have HM9 := hid (HM8.out.up hb9)
  have HC := hid (HO.out.apartBad hv9 3 5 _ kinF4 (by decide))
  clear hb9 hv9 HB8 HL8 HM8
  unfold bookV
  go_wp2_with fail
  refine Calls.mono HC.out ?_
  rintro e wa ⟨rfl, hba⟩
  have HBa := hid (HB9.out.trans (hba.mono HB9.out.size))
  have HLa := hid (HL9.out.up hba)
  have HMa := hid (HM9.out.up hba)
  clear hba HC HB9 HL9 HM9
  go_wp2_with fail
  have hbF := below_alloc wa (.cells #[.int .i64 2] 3)
  refine Calls.mono (equal_isl (HLa.out.up hbF) (isl_lit1 (heap_alloc_new wa (.cells #[.int .i64 2] 3)))) ?_
  rintro e wb ⟨rfl, qb, hqb⟩
  have hbb : Below wa.heap.size wa wb := by rw [hqb]; exact hbF.trans ((drawn_below _ qb).mono hbF.size)
  rw [show eqB [(2 : Int)].length 1 (fun j => [(2 : Int)].getD j 0) (fun i => [(2 : Int)].getD i 0) = true from same_list [2]]
  have HBb := hid (HBa.out.trans (hbb.mono HBa.out.size))
  have HMb := hid (HMa.out.up hbb)
  clear hbF hbb hqb HBa HLa HMa
  go_wp2_with fail
  have hbG := below_alloc wb (.cells #[.int .i64 0] 3)
  refine Calls.mono (equal_isl (HMb.out.up hbG) (isl_lit1 (heap_alloc_new wb (.cells #[.int .i64 0] 3)))) ?_
  rintro e wc ⟨rfl, qc, hqc⟩
  have hbc : Below wb.heap.size wb wc := by rw [hqc]; exact hbG.trans ((drawn_below _ qc).mono hbG.size)
  rw [show eqB [(0 : Int)].length 1 (fun j => [(0 : Int)].getD j 0) (fun i => [(0 : Int)].getD i 0) = true from same_list [0]]
  have HBc := hid (HBb.out.trans (hbc.mono HBb.out.size))
  clear hbG hbc hqc HBb HMb
  go_wp2
  go_ret
  exact ⟨rfl, HBc.out⟩

end Go.Proofs.Ytdhefajaekackaa
