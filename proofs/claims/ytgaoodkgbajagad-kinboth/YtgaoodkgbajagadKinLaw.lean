/- The closed fact that chapter 6's laws ask first, of a package that does what it owes. -/
import Derived.Test.YtgaoodkgbajagadKinSpec
namespace Go.Proofs.Ytgaoodkgbajagad
open Go.RowKit
set_option linter.unusedVariables false

/-- a block stays -/
theorem keep {w w' : World} {g : Nat} {o : Obj} (h : w.heap[g]? = some o) (hb : Below w.heap.size w w') : w'.heap[g]? = some o := by
  rw [hb.block _ (Array.getElem?_eq_some_iff.1 h).1]; exact h

theorem drawn_below (w : World) (k : Nat) : Below w.heap.size w (w.drewN k) := ⟨rfl, rfl, rfl, Nat.le_refl _, fun _ _ => rfl⟩

theorem same_list (l : List Int) : eqB l.length l.length (fun j => l.getD j 0) (fun j => l.getD j 0) = true := decide_eq_true ⟨rfl, fun _ _ => rfl⟩

theorem kinF1 : kinE 5 famB 3 4 = 0 ∧ comL famB 5 3 4 = [2] ∧ apB famB 3 4 = true := by decide
theorem kinF2 : kinE 5 famB 1 2 = 0 ∧ comL famB 5 1 2 = [0] := by decide
theorem kinF3 : kinE 5 famB 3 1 = 0 ∧ apB famB 3 1 = false := by decide
theorem kinF4 : kinE 5 famB 3 5 = 4 := by decide

/-- Common, Apart, by what they owe at a right book and versions -/
theorem KinOwes.commonOk (hO : KinOwes) {v : Value} {n : Nat} {PV : Nat → Value} {b : Bk} {w : World} (h : VeSl w w.heap.size v n PV b) (i j : Nat) (l : List Int) (he : kinE n b i j = 0) (hl : comL b n i j = l) :
    Calls Try.prog 17 #[.agg #[v], .int .i64 (i : Int), .int .i64 (j : Int)] w (LiPost w l 0) := by
  have h1 := hO.common v n PV b i j w h
  rw [he, if_pos rfl, Int.toNat_natCast, Int.toNat_natCast, hl] at h1
  exact h1

theorem KinOwes.apartOk (hO : KinOwes) {v : Value} {n : Nat} {PV : Nat → Value} {b : Bk} {w : World} (h : VeSl w w.heap.size v n PV b) (i j : Nat) (a : Bool) (he : kinE n b i j = 0) (ha : apB b i j = a) :
    Calls Try.prog 18 #[.agg #[v], .int .i64 (i : Int), .int .i64 (j : Int)] w fun e w' => e = .returned (.tuple #[.bool a, .int .i64 0]) ∧ Below w.heap.size w w' := by
  have h1 := hO.apart v n PV b i j w h
  rw [he, if_pos rfl, Int.toNat_natCast, Int.toNat_natCast, ha] at h1
  exact h1

theorem KinOwes.apartBad (hO : KinOwes) {v : Value} {n : Nat} {PV : Nat → Value} {b : Bk} {w : World} (h : VeSl w w.heap.size v n PV b) (i j : Int) (c : Int) (he : kinE n b i j = c) (hc : c ≠ 0) :
    Calls Try.prog 18 #[.agg #[v], .int .i64 i, .int .i64 j] w fun e w' => e = .returned (.tuple #[.bool false, .int .i64 c]) ∧ Below w.heap.size w w' := by
  have h1 := hO.apart v n PV b i j w h
  rw [he, if_neg hc] at h1
  exact h1

set_option maxHeartbeats 4000000 in
set_option maxRecDepth 10000 in
theorem joined_any (hO : KinOwes) (w : World) : Calls Try.prog 20 #[] w fun e w' => e = .returned (.bool true) ∧ Below w.heap.size w w' := by
  have HO := hid hO
  clear hO
  go_enter Try.func20, Try.ntmps20
  go_wp2_with fail
  refine Calls.mono (family_any w) ?_
  rintro e w1 ⟨hb1, bl1, PV1, rfl, hv1⟩
  have HB1 := hid hb1
  have HC := hid (HO.out.commonOk hv1 3 4 _ kinF1.1 kinF1.2.1)
  clear hb1 hv1
  unfold bookV
  go_wp2_with fail
  refine Calls.mono HC.out ?_
  rintro e w2 ⟨hb2, vl, rfl, hl⟩
  have HB2 := hid (HB1.out.trans (hb2.mono HB1.out.size))
  have HL := hid hl
  obtain ⟨al, cl, rfl, _, _⟩ := hl
  clear hb2 HC HB1
  go_wp2_with fail
  refine Calls.mono (family_any w2) ?_
  rintro e w3 ⟨hb3, bl3, PV3, rfl, hv3⟩
  have HB3 := hid (HB2.out.trans (hb3.mono HB2.out.size))
  have HL3 := hid (HL.out.up hb3)
  have HC := hid (HO.out.commonOk hv3 1 2 _ kinF2.1 kinF2.2)
  clear hb3 hv3 HL HB2
  unfold bookV
  go_wp2_with fail
  refine Calls.mono HC.out ?_
  rintro e w4 ⟨hb4, vm, rfl, hm⟩
  have HB4 := hid (HB3.out.trans (hb4.mono HB3.out.size))
  have HL4 := hid (HL3.out.up hb4)
  have HM4 := hid hm
  obtain ⟨am, cm, rfl, _, _⟩ := hm
  clear hb4 HC HB3 HL3
  go_wp2_with fail
  refine Calls.mono (family_any w4) ?_
  rintro e w5 ⟨hb5, bl5, PV5, rfl, hv5⟩
  have HB5 := hid (HB4.out.trans (hb5.mono HB4.out.size))
  have HL5 := hid (HL4.out.up hb5)
  have HM5 := hid (HM4.out.up hb5)
  have HC := hid (HO.out.apartOk hv5 3 4 _ kinF1.1 kinF1.2.2)
  clear hb5 hv5 HB4 HL4 HM4
  unfold bookV
  go_wp2_with fail
  refine Calls.mono HC.out ?_
  rintro e w6 ⟨rfl, hb6⟩
  have HB6 := hid (HB5.out.trans (hb6.mono HB5.out.size))
  have HL6 := hid (HL5.out.up hb6)
  have HM6 := hid (HM5.out.up hb6)
  clear hb6 HC HB5 HL5 HM5
  go_wp2_with fail
  refine Calls.mono (family_any w6) ?_
  rintro e w7 ⟨hb7, bl7, PV7, rfl, hv7⟩
  have HB7 := hid (HB6.out.trans (hb7.mono HB6.out.size))
  have HL7 := hid (HL6.out.up hb7)
  have HM7 := hid (HM6.out.up hb7)
  have HC := hid (HO.out.apartOk hv7 3 1 _ kinF3.1 kinF3.2)
  clear hb7 hv7 HB6 HL6 HM6
  unfold bookV
  go_wp2_with fail
  refine Calls.mono HC.out ?_
  rintro e w8 ⟨rfl, hb8⟩
  have HB8 := hid (HB7.out.trans (hb8.mono HB7.out.size))
  have HL8 := hid (HL7.out.up hb8)
  have HM8 := hid (HM7.out.up hb8)
  clear hb8 HC HB7 HL7 HM7
  go_wp2_with fail
  refine Calls.mono (family_any w8) ?_
  rintro e w9 ⟨hb9, bl9, PV9, rfl, hv9⟩
  have HB9 := hid (HB8.out.trans (hb9.mono HB8.out.size))
  have HL9 := hid (HL8.out.up hb9)
  have HM9 := hid (HM8.out.up hb9)
  have HC := hid (HO.out.apartBad hv9 3 5 _ kinF4 (by decide))
  clear hb9 hv9 HB8 HL8 HM8
  unfold bookV
  go_wp2_with fail
  refine Calls.mono HC.out ?_
  rintro e wa ⟨rfl, hba⟩
  have HBa := hid (HB9.out.trans (hba.mono HB9.out.size))
  have HLa := hid (HL9.out.up hba)
  have HMa := hid (HM9.out.up hba)
  clear hba HC HB9 HL9 HM9
  go_wp2_with fail
  have hbF := below_alloc wa (.cells #[.int .i64 2] 3)
  refine Calls.mono (equal_isl (HLa.out.up hbF) (isl_lit1 (heap_alloc_new wa (.cells #[.int .i64 2] 3)))) ?_
  rintro e wb ⟨rfl, qb, hqb⟩
  have hbb : Below wa.heap.size wa wb := by rw [hqb]; exact hbF.trans ((drawn_below _ qb).mono hbF.size)
  rw [show eqB [(2 : Int)].length 1 (fun j => [(2 : Int)].getD j 0) (fun i => [(2 : Int)].getD i 0) = true from same_list [2]]
  have HBb := hid (HBa.out.trans (hbb.mono HBa.out.size))
  have HMb := hid (HMa.out.up hbb)
  clear hbF hbb hqb HBa HLa HMa
  go_wp2_with fail
  have hbG := below_alloc wb (.cells #[.int .i64 0] 3)
  refine Calls.mono (equal_isl (HMb.out.up hbG) (isl_lit1 (heap_alloc_new wb (.cells #[.int .i64 0] 3)))) ?_
  rintro e wc ⟨rfl, qc, hqc⟩
  have hbc : Below wb.heap.size wb wc := by rw [hqc]; exact hbG.trans ((drawn_below _ qc).mono hbG.size)
  rw [show eqB [(0 : Int)].length 1 (fun j => [(0 : Int)].getD j 0) (fun i => [(0 : Int)].getD i 0) = true from same_list [0]]
  have HBc := hid (HBb.out.trans (hbc.mono HBb.out.size))
  clear hbG hbc hqc HBb HMb
  go_wp2
  go_ret
  exact ⟨rfl, HBc.out⟩

end Go.Proofs.Ytgaoodkgbajagad
