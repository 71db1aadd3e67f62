/- The closed fact that chapter 5's laws ask first holds. -/
import Derived.Test.YtngiefhkjkpmjadBookFam
namespace Go.Proofs.Ytngiefhkjkpmjad
open Go.RowKit
set_option linter.unusedVariables false

def famC : Bk := snocB 5 famB 2 (fun i => [3, 4].getD i 0) 1 1 1

theorem famCE : bookE 6 famC = 0 := by decide
theorem famCS : bookB 6 6 famC famC = true := by decide
theorem eq34 : eqB 2 2 (fun j => [(3 : Int), 4].getD j 0) (fun i => [(3 : Int), 4].getD i 0) = true := by decide
theorem eq0123 : eqB 4 4 (fun j => [(0 : Int), 1, 2, 3].getD j 0) (fun i => [(0 : Int), 1, 2, 3].getD i 0) = true := by decide

theorem isl_lit4 {w : World} {g : Nat} {x y z u : Int} {T : TypeId} (h : w.heap[g]? = some (.cells #[.int .i64 x, .int .i64 y, .int .i64 z, .int .i64 u] T (0, 0))) : IntSl w w.heap.size (.slice (some ⟨g, 0, none⟩) 4 4) 4 (fun i => [x, y, z, u].getD i 0) :=
  intSl_lit (l := [x, y, z, u]) h rfl (Array.getElem?_eq_some_iff.1 h).1 (by simp)

theorem fam_plan {w : World} {bl : Nat} {PV : Nat → Value} (h : VeSl w w.heap.size (.slice (some ⟨bl, 0, none⟩) 5 5) 5 PV famB) : w.cell? ⟨bl, 1, none⟩ = some (.int .i64 1) ∧ w.cell? ⟨bl, 2, none⟩ = some (.int .i64 1) ∧ w.cell? ⟨bl, 3, none⟩ = some (.int .i64 1) := by
  obtain ⟨ad, cap, e, _, hx⟩ := h
  injection e with e1
  rcases hx with h0 | ⟨b2, off, e2, _, hx⟩
  · omega
  · rw [← e1] at e2
    injection e2 with e2
    injection e2 with e3 e4
    subst e3 e4
    obtain ⟨_, h1, h2, h3, _⟩ := hx 0 (by omega)
    exact ⟨h1, h2, h3⟩

theorem fieldBook (a : Option Addr) (n c : Nat) (w : World) : (Instr.field 24 (.agg #[.slice a n c]) 0).run Try.prog w = .ok (.slice a n c) w := by kernel_rfl

theorem drewN_below (w : World) (k : Nat) : Below w.heap.size w (w.drewN k) := ⟨rfl, rfl, rfl, Nat.le_refl _, fun _ _ => rfl⟩

set_option maxHeartbeats 4000000 in
set_option maxRecDepth 10000 in
theorem listed_any (w : World) : Calls Try.prog 5 #[] w fun e w' => e = .returned (.bool true) ∧ Below w.heap.size w w' := by
  have hfb := fieldBook
  go_enter Try.func5, Try.ntmps5
  go_wp2_with fail
  refine Calls.mono (family_any w) ?_
  rintro e w1 ⟨hb1, bl1, PV1, rfl, hv1⟩
  have HB1 := hid hb1
  have HC := hid (bkHeads _ 5 PV1 famB w1 hv1)
  rw [famE, if_pos rfl, famH] at HC
  clear hb1 hv1
  unfold bookV at HC ⊢
  go_wp2_with fail
  refine Calls.mono HC.out ?_
  rintro e w2 ⟨hb2, vl, rfl, hl⟩
  have HB2 := hid (HB1.out.trans (hb2.mono HB1.out.size))
  have HL := hid hl
  obtain ⟨al, cl, rfl, _, _⟩ := hl
  clear hb2 HC HB1
  go_wp2_with fail
  refine Calls.mono (family_any w2) ?_
  rintro e w3 ⟨hb3, bl3, PV3, rfl, hv3⟩
  have HB3 := hid (HB2.out.trans (hb3.mono HB2.out.size))
  have HL3 := hid (HL.out.up hb3)
  have HC := hid (bkBehind _ 5 PV3 famB 3 w3 hv3)
  rw [famBh.1, if_pos rfl, show ((3 : Int).toNat) = 3 from rfl, famBh.2] at HC
  clear hb3 hv3 HL HB2
  unfold bookV at HC ⊢
  go_wp2_with fail
  refine Calls.mono HC.out ?_
  rintro e w4 ⟨hb4, vm, rfl, hm⟩
  have HB4 := hid (HB3.out.trans (hb4.mono HB3.out.size))
  have HL4 := hid (HL3.out.up hb4)
  have HM4 := hid hm
  obtain ⟨am, cm, rfl, _, _⟩ := hm
  clear hb4 HC HB3 HL3
  go_wp2_with fail
  refine Calls.mono (family_any w4) ?_
  rintro e w5 ⟨hb5, bl5, PV5, rfl, hv5⟩
  have HB5 := hid (HB4.out.trans (hb5.mono HB4.out.size))
  have HL5 := hid (HL4.out.up hb5)
  have HM5 := hid (HM4.out.up hb5)
  have HV5 := hid hv5
  clear hb5 hv5 HB4 HL4 HM4
  unfold bookV
  go_wp2_with fail
  refine Calls.mono (family_any _) ?_
  rintro e w6 ⟨hb6, bl6, PV6, rfl, hv6⟩
  have hbA := below_alloc w5 (.cells #[.int .i64 5] 3)
  have hb56 : Below w5.heap.size w5 w6 := hbA.trans (hb6.mono hbA.size)
  have HB6 := hid (HB5.out.trans (hb56.mono HB5.out.size))
  have HL6 := hid (HL5.out.up hb56)
  have HM6 := hid (HM5.out.up hb56)
  have HI6 := hid ((isl_lit1 (heap_alloc_new w5 (.cells #[.int .i64 5] 3))).up hb6)
  have HC := hid (bkAdd _ 5 PV5 famB _ 1 _ 1 1 1 w6 (HV5.out.up hb56) HI6.out)
  obtain ⟨p1, p2, p3⟩ := fam_plan hv6
  clear hb6 hv6 hbA hb56 HB5 HL5 HM5 HV5
  unfold bookV verV at HC
  unfold bookV
  go_wp2_with fail
  refine Calls.mono HC.out ?_
  rintro e w7 ⟨hb7, r7, m7, PV7, rfl, hm7, hv7⟩
  rw [famA1]
  have HB7 := hid (HB6.out.trans (hb7.mono HB6.out.size))
  have HL7 := hid (HL6.out.up hb7)
  have HM7 := hid (HM6.out.up hb7)
  obtain ⟨a7, c7, rfl, _, _⟩ := hv7
  clear hb7 p1 p2 p3 HC HB6 HL6 HM6 hm7
  unfold bookV
  go_wp2_with fail
  refine Calls.mono (family_any _) ?_
  rintro e w8 ⟨hb8, bl8, PV8, rfl, hv8⟩
  have hbB := below_alloc w7 (.cells #[.slice a7 m7 c7] 24)
  have hb78 : Below w7.heap.size w7 w8 := hbB.trans (hb8.mono hbB.size)
  have HB8 := hid (HB7.out.trans (hb78.mono HB7.out.size))
  have HL8 := hid (HL7.out.up hb78)
  have HM8 := hid (HM7.out.up hb78)
  have HV8 := hid hv8
  clear hb8 hv8 hbB hb78 HB7 HL7 HM7
  unfold bookV
  go_wp2_with fail
  refine Calls.mono (family_any _) ?_
  rintro e w9 ⟨hb9, bl9, PV9, rfl, hv9⟩
  have hbC := below_alloc w8 (.cells #[.int .i64 3, .int .i64 4] 3)
  have hb89 : Below w8.heap.size w8 w9 := hbC.trans (hb9.mono hbC.size)
  have HB9 := hid (HB8.out.trans (hb89.mono HB8.out.size))
  have HL9 := hid (HL8.out.up hb89)
  have HM9 := hid (HM8.out.up hb89)
  have HI9 := hid ((isl_lit2 (heap_alloc_new w8 (.cells #[.int .i64 3, .int .i64 4] 3))).up hb9)
  have HC := hid (bkAdd _ 5 PV8 famB _ 2 _ 1 1 1 w9 (HV8.out.up hb89) HI9.out)
  obtain ⟨p1, p2, p3⟩ := fam_plan hv9
  clear hb9 hv9 hbC hb89 HB8 HL8 HM8 HV8
  unfold bookV verV at HC
  unfold bookV
  go_wp2_with fail
  refine Calls.mono HC.out ?_
  rintro e wa ⟨hba, ra, ma, PVa, rfl, hma, hva⟩
  rw [famA2, if_pos rfl] at hma
  subst hma
  rw [famA2]
  have hbE := below_alloc wa (.cells #[ra] 24)
  have hv10 : VeSl (wa.alloc (.cells #[ra] 24)) (wa.alloc (.cells #[ra] 24)).heap.size ra 6 PVa famC := hva.up hbE
  have HBa := hid (HB9.out.trans (hba.mono HB9.out.size))
  have HLa := hid (HL9.out.up hba)
  have HMa := hid (HM9.out.up hba)
  obtain ⟨aa, ca, rfl, _, _⟩ := hva
  obtain ⟨U, hU⟩ : ∃ U, wa.alloc (.cells #[.slice aa 6 ca] 24) = U := ⟨_, rfl⟩
  rw [hU] at hbE hv10
  have u0 : U.cell? ⟨wa.heap.size, 0, none⟩ = some (.slice aa 6 ca) := by rw [← hU]; exact cell_at (heap_alloc_new _ _) rfl
  have lu := cell_lt u0
  have HU0 := hid u0
  have HBU := hid (HBa.out.trans (hbE.mono HBa.out.size))
  have HLU := hid (HLa.out.up hbE)
  have HMU := hid (HMa.out.up hbE)
  have HVU := hid hv10
  clear hba hbE hv10 HBa HLa HMa HB9 HL9 HM9 HC p1 p2 p3
  unfold bookV
  go_wp2_with fail
  have hbF := below_alloc U (.cells #[.int .i64 3, .int .i64 4] 3)
  refine Calls.mono (equal_isl (HLU.out.up hbF) (isl_lit2 (heap_alloc_new U (.cells #[.int .i64 3, .int .i64 4] 3)))) ?_
  rintro e wb ⟨rfl, qb, hqb⟩
  have hbb : Below U.heap.size U wb := by rw [hqb]; exact hbF.trans ((drewN_below _ qb).mono hbF.size)
  rw [show eqB [(3 : Int), 4].length 2 (fun j => [(3 : Int), 4].getD j 0) (fun i => [(3 : Int), 4].getD i 0) = true from eq34]
  have HBb := hid (HBU.out.trans (hbb.mono HBU.out.size))
  have HMb := hid (HMU.out.up hbb)
  have HVb := hid (HVU.out.up hbb)
  have ub : wb.cell? ⟨wa.heap.size, 0, none⟩ = some (.slice aa 6 ca) := by rw [hbb.cell (cell_lt HU0.out)]; exact HU0.out
  have HUb := hid ub
  clear hbF hbb hqb HBU HLU HMU HVU HU0 u0 hU
  go_wp2_with fail
  have hbG := below_alloc wb (.cells #[.int .i64 0, .int .i64 1, .int .i64 2, .int .i64 3] 3)
  refine Calls.mono (equal_isl (HMb.out.up hbG) (isl_lit4 (heap_alloc_new wb (.cells #[.int .i64 0, .int .i64 1, .int .i64 2, .int .i64 3] 3)))) ?_
  rintro e wc ⟨rfl, qc, hqc⟩
  have hbc : Below wb.heap.size wb wc := by rw [hqc]; exact hbG.trans ((drewN_below _ qc).mono hbG.size)
  rw [show eqB [(0 : Int), 1, 2, 3].length 4 (fun j => [(0 : Int), 1, 2, 3].getD j 0) (fun i => [(0 : Int), 1, 2, 3].getD i 0) = true from eq0123]
  have HBc := hid (HBb.out.trans (hbc.mono HBb.out.size))
  have HVc := hid (HVb.out.up hbc)
  have uc : wc.cell? ⟨wa.heap.size, 0, none⟩ = some (.slice aa 6 ca) := by rw [hbc.cell (cell_lt HUb.out)]; exact HUb.out
  have HUc := hid uc
  have HC := hid (bkCheck _ 6 PVa famC wc HVc.out)
  rw [famCE] at HC
  clear hbG hbc hqc HBb HMb HVb HUb ub
  unfold bookV at HC
  go_wp2_with fail
  refine Calls.mono HC.out ?_
  rintro e wd ⟨rfl, hbd⟩
  have HBd := hid (HBc.out.trans (hbd.mono HBc.out.size))
  have HVd := hid (HVc.out.up hbd)
  have ud : wd.cell? ⟨wa.heap.size, 0, none⟩ = some (.slice aa 6 ca) := by rw [hbd.cell (cell_lt HUc.out)]; exact HUc.out
  have HS := hid (bkSame HVd.out HVd.out)
  rw [famCS] at HS
  clear hbd HC HBc HVc HUc uc
  unfold bookV at HS
  go_wp2_with fail
  refine Calls.mono HS.out ?_
  rintro e we ⟨rfl, hbe⟩
  have HBe := hid (HBd.out.trans (hbe.mono HBd.out.size))
  clear hbe HS HBd
  go_wp2
  go_ret
  exact ⟨rfl, HBe.out⟩

end Go.Proofs.Ytngiefhkjkpmjad
