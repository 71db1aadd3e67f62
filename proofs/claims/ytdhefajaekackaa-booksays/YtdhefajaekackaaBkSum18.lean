/- Several texts of one proof, in their order. -/
import Derived.Test.YtdhefajaekackaaBkSum16
import Derived.Test.YtdhefajaekackaaBkSum17

/- The closed fact that chapter 5's laws ask first: this family. -/
namespace Go.Proofs.Ytdhefajaekackaa

open Go.RowKit
set_option linter.unusedVariables false

/-- the family -/
def famB : Bk := ⟨fun j => [0, 1, 1, 2, 1].getD j 0, fun j i => ([[], [0], [0], [1, 2], [2]].getD j []).getD i 0, fun _ => 1, fun _ => 1, fun _ => 1⟩

theorem heap_if (w : World) (o : Obj) (i : Nat) : (w.alloc o).heap[i]? = if i = w.heap.size then some o else w.heap[i]? := by
  simp only [World.alloc, Array.getElem?_push]

/-- the lists of parents, as values -/
def famP (s j : Nat) : Value := [.slice none 0 0, .slice (some ⟨s + 1 + 1, 0, none⟩) 1 1, .slice (some ⟨s + 1 + 1 + 1, 0, none⟩) 1 1, .slice (some ⟨s + 1 + 1 + 1 + 1, 0, none⟩) 2 2, .slice (some ⟨s + 1 + 1 + 1 + 1 + 1, 0, none⟩) 1 1].getD j undef

/-- the family's memory -/
def famW (w : World) : World :=
  ((((((w.alloc (.cells #[.slice (some ⟨w.heap.size + 1 + 1 + 1 + 1 + 1 + 1, 0, none⟩) 5 5] 24)).alloc (.cells #[.int .i64 1, .int .i64 1, .int .i64 1] 27)).alloc (.cells #[.int .i64 0] 3)).alloc (.cells #[.int .i64 0] 3)).alloc (.cells #[.int .i64 1, .int .i64 2] 3)).alloc (.cells #[.int .i64 2] 3)).alloc
    (.cells #[.slice none 0 0, .int .i64 1, .int .i64 1, .int .i64 1, .slice (some ⟨w.heap.size + 1 + 1, 0, none⟩) 1 1, .int .i64 1, .int .i64 1, .int .i64 1, .slice (some ⟨w.heap.size + 1 + 1 + 1, 0, none⟩) 1 1, .int .i64 1, .int .i64 1, .int .i64 1, .slice (some ⟨w.heap.size + 1 + 1 + 1 + 1, 0, none⟩) 2 2, .int .i64 1, .int .i64 1, .int .i64 1, .slice (some ⟨w.heap.size + 1 + 1 + 1 + 1 + 1, 0, none⟩) 1 1, .int .i64 1, .int .i64 1, .int .i64 1] 29)

theorem famW_below (w : World) : Below w.heap.size w (famW w) := by
  unfold famW
  refine ((((((Below.refl w.heap.size w).alloc (Nat.le_refl _) _).alloc ?_ _).alloc ?_ _).alloc ?_ _).alloc ?_ _).alloc ?_ _ |>.alloc ?_ _ <;> simp <;> omega

theorem famW_at (w : World) : (famW w).heap[w.heap.size]? = some (.cells #[.slice (some ⟨w.heap.size + 1 + 1 + 1 + 1 + 1 + 1, 0, none⟩) 5 5] 24 (0, 0)) ∧
    (famW w).heap[w.heap.size + 1 + 1]? = some (.cells #[.int .i64 0] 3 (0, 0)) ∧ (famW w).heap[w.heap.size + 1 + 1 + 1]? = some (.cells #[.int .i64 0] 3 (0, 0)) ∧
    (famW w).heap[w.heap.size + 1 + 1 + 1 + 1]? = some (.cells #[.int .i64 1, .int .i64 2] 3 (0, 0)) ∧ (famW w).heap[w.heap.size + 1 + 1 + 1 + 1 + 1]? = some (.cells #[.int .i64 2] 3 (0, 0)) ∧
    (famW w).heap[w.heap.size + 1 + 1 + 1 + 1 + 1 + 1]? = some (.cells #[.slice none 0 0, .int .i64 1, .int .i64 1, .int .i64 1, .slice (some ⟨w.heap.size + 1 + 1, 0, none⟩) 1 1, .int .i64 1, .int .i64 1, .int .i64 1, .slice (some ⟨w.heap.size + 1 + 1 + 1, 0, none⟩) 1 1, .int .i64 1, .int .i64 1, .int .i64 1, .slice (some ⟨w.heap.size + 1 + 1 + 1 + 1, 0, none⟩) 2 2, .int .i64 1, .int .i64 1, .int .i64 1, .slice (some ⟨w.heap.size + 1 + 1 + 1 + 1 + 1, 0, none⟩) 1 1, .int .i64 1, .int .i64 1, .int .i64 1] 29 (0, 0)) := by
  unfold famW
  refine ⟨?_, ?_, ?_, ?_, ?_, ?_⟩
  · rw [heap_if, if_neg (by simp <;> omega), heap_if, if_neg (by simp <;> omega), heap_if, if_neg (by simp <;> omega), heap_if, if_neg (by simp <;> omega), heap_if, if_neg (by simp <;> omega), heap_if, if_neg (by simp <;> omega), heap_if, if_pos (by simp)]
  · rw [heap_if, if_neg (by simp <;> omega), heap_if, if_neg (by simp <;> omega), heap_if, if_neg (by simp <;> omega), heap_if, if_neg (by simp <;> omega), heap_if, if_pos (by simp)]
  · rw [heap_if, if_neg (by simp <;> omega), heap_if, if_neg (by simp <;> omega), heap_if, if_neg (by simp <;> omega), heap_if, if_pos (by simp)]
  · rw [heap_if, if_neg (by simp <;> omega), heap_if, if_neg (by simp <;> omega), heap_if, if_pos (by simp)]
  · rw [heap_if, if_neg (by simp <;> omega), heap_if, if_pos (by simp)]
  · rw [heap_if, if_pos (by simp)]

theorem isl_lit1 {w : World} {g : Nat} {x : Int} {T : TypeId} (h : w.heap[g]? = some (.cells #[.int .i64 x] T (0, 0))) : IntSl w w.heap.size (.slice (some ⟨g, 0, none⟩) 1 1) 1 (fun i => [x].getD i 0) :=
  intSl_lit (l := [x]) h rfl (Array.getElem?_eq_some_iff.1 h).1 (by simp)

theorem isl_lit2 {w : World} {g : Nat} {x y : Int} {T : TypeId} (h : w.heap[g]? = some (.cells #[.int .i64 x, .int .i64 y] T (0, 0))) : IntSl w w.heap.size (.slice (some ⟨g, 0, none⟩) 2 2) 2 (fun i => [x, y].getD i 0) :=
  intSl_lit (l := [x, y]) h rfl (Array.getElem?_eq_some_iff.1 h).1 (by simp)

theorem famW_ve (w : World) : VeSl (famW w) (famW w).heap.size (.slice (some ⟨w.heap.size + 1 + 1 + 1 + 1 + 1 + 1, 0, none⟩) 5 5) 5 (famP w.heap.size) famB := by
  obtain ⟨h0, h1, h2, h3, h4, h5⟩ := famW_at w
  refine ⟨_, _, rfl, ⟨Nat.le_refl _, by omega⟩, Or.inr ⟨_, 0, rfl, (Array.getElem?_eq_some_iff.1 h5).1, fun j hj => ?_⟩⟩
  match j, hj with
  | 0, _ => exact ⟨cell_at h5 rfl, cell_at h5 rfl, cell_at h5 rfl, cell_at h5 rfl, none, 0, rfl, ⟨Nat.le_refl _, by decide⟩, Or.inl rfl⟩
  | 1, _ => exact ⟨cell_at h5 rfl, cell_at h5 rfl, cell_at h5 rfl, cell_at h5 rfl, isl_lit1 h1⟩
  | 2, _ => exact ⟨cell_at h5 rfl, cell_at h5 rfl, cell_at h5 rfl, cell_at h5 rfl, isl_lit1 h2⟩
  | 3, _ => exact ⟨cell_at h5 rfl, cell_at h5 rfl, cell_at h5 rfl, cell_at h5 rfl, isl_lit2 h3⟩
  | 4, _ => exact ⟨cell_at h5 rfl, cell_at h5 rfl, cell_at h5 rfl, cell_at h5 rfl, isl_lit1 h4⟩

set_option maxHeartbeats 1000000 in
theorem family_any (w : World) : Calls Try.prog 60 #[] w fun e w' => Below w.heap.size w w' ∧ ∃ bl PV, e = .returned (bookV (.slice (some ⟨bl, 0, none⟩) 5 5)) ∧ VeSl w' w'.heap.size (.slice (some ⟨bl, 0, none⟩) 5 5) 5 PV famB := by
  go_enter Try.func60, Try.ntmps60
  go_wp2
  refine bodyPost_ret (results_cell_row rfl _ (famW w) w.heap.size 24 #[.slice (some ⟨w.heap.size + 1 + 1 + 1 + 1 + 1 + 1, 0, none⟩) 5 5] (0, 0) _ rfl (famW_at w).1 Try.underlying24 rfl (by kernel_rfl)) rfl ?_
  exact ⟨famW_below w, _, _, rfl, famW_ve w⟩

theorem famE : bookE 5 famB = 0 := by decide
theorem famH : headsL famB 5 5 = [3, 4] := by decide
theorem famBh : behE 5 famB 3 = 0 ∧ bhL famB 3 = [0, 1, 2, 3] := by decide
theorem famA1 : addE 5 famB (snocB 5 famB 1 (fun i => [5].getD i 0) 1 1 1) = 4 := by decide
theorem famA2 : addE 5 famB (snocB 5 famB 2 (fun i => [3, 4].getD i 0) 1 1 1) = 0 := by decide

end Go.Proofs.Ytdhefajaekackaa

/- The closed fact that chapter 5's laws ask first holds. -/
namespace Go.Proofs.Ytdhefajaekackaa

open Go.RowKit
set_option linter.unusedVariables false

def famC : Bk := snocB 5 famB 2 (fun i => [3, 4].getD i 0) 1 1 1

theorem famCE : bookE 6 famC = 0 := by decide
theorem famCS : bookB 6 6 famC famC = true := by decide
theorem eq34 : eqB 2 2 (fun j => [(3 : Int), 4].getD j 0) (fun i => [(3 : Int), 4].getD i 0) = true := by decide
theorem eq0123 : eqB 4 4 (fun j => [(0 : Int), 1, 2, 3].getD j 0) (fun i => [(0 : Int), 1, 2, 3].getD i 0) = true := by decide

theorem isl_lit4 {w : World} {g : Nat} {x y z u : Int} {T : TypeId} (h : w.heap[g]? = some (.cells #[.int .i64 x, .int .i64 y, .int .i64 z, .int .i64 u] T (0, 0))) : IntSl w w.heap.size (.slice (some ⟨g, 0, none⟩) 4 4) 4 (fun i => [x, y, z, u].getD i 0) :=
  intSl_lit (l := [x, y, z, u]) h rfl (Array.getElem?_eq_some_iff.1 h).1 (by simp)

theorem fam_plan {w : World} {bl : Nat} {PV : Nat → Value} (h : VeSl w w.heap.size (.slice (some ⟨bl, 0, none⟩) 5 5) 5 PV famB) : w.cell? ⟨bl, 1, none⟩ = some (.int .i64 1) ∧ w.cell? ⟨bl, 2, none⟩ = some (.int .i64 1) ∧ w.cell? ⟨bl, 3, none⟩ = some (.int .i64 1) := by
  obtain ⟨ad, cap, e, _, hx⟩ := h
  injection e with e1
  rcases hx with h0 | ⟨b2, off, e2, _, hx⟩
  · omega
  · rw [← e1] at e2
    injection e2 with e2
    injection e2 with e3 e4
    subst e3 e4
    obtain ⟨_, h1, h2, h3, _⟩ := hx 0 (by omega)
    exact ⟨h1, h2, h3⟩

theorem fieldBook (a : Option Addr) (n c : Nat) (w : World) : (Instr.field 24 (.agg #[.slice a n c]) 0).run Try.prog w = .ok (.slice a n c) w := by kernel_rfl

theorem drewN_below (w : World) (k : Nat) : Below w.heap.size w (w.drewN k) := ⟨rfl, rfl, rfl, Nat.le_refl _, fun _ _ => rfl⟩

set_option maxHeartbeats 4000000 in
set_option maxRecDepth 10000 in
theorem listed_any (w : World) : Calls Try.prog 17 #[] w fun e w' => e = .returned (.bool true) ∧ Below w.heap.size w w' := by
  have hfb := fieldBook
  go_enter Try.func17, Try.ntmps17
  go_wp2_with fail
  refine Calls.mono (family_any w) ?_
  rintro e w1 ⟨hb1, bl1, PV1, rfl, hv1⟩
  have HB1 := hid hb1
  have HC := hid (bkHeads _ 5 PV1 famB w1 hv1)
  rw [famE, if_pos rfl, famH] at HC
  clear hb1 hv1
  unfold bookV at HC ⊢
  go_wp2_with fail
  refine Calls.mono HC.out ?_
  rintro e w2 ⟨hb2, vl, rfl, hl⟩
  have HB2 := hid (HB1.out.trans (hb2.mono HB1.out.size))
  have HL := hid hl
  obtain ⟨al, cl, rfl, _, _⟩ := hl
  clear hb2 HC HB1
  go_wp2_with fail
  refine Calls.mono (family_any w2) ?_
  rintro e w3 ⟨hb3, bl3, PV3, rfl, hv3⟩
  have HB3 := hid (HB2.out.trans (hb3.mono HB2.out.size))
  have HL3 := hid (HL.out.up hb3)
  have HC := hid (bkBehind _ 5 PV3 famB 3 w3 hv3)
  rw [famBh.1, if_pos rfl, show ((3 : Int).toNat) = 3 from rfl, famBh.2] at HC
  clear hb3 hv3 HL HB2
  unfold bookV at HC ⊢
  go_wp2_with fail
  refine Calls.mono HC.out ?_
  rintro e w4 ⟨hb4, vm, rfl, hm⟩
  have HB4 := hid (HB3.out.trans (hb4.mono HB3.out.size))
  have HL4 := hid (HL3.out.up hb4)
  have HM4 := hid hm
  obtain ⟨am, cm, rfl, _, _⟩ := hm
  clear hb4 HC HB3 HL3
  go_wp2_with fail
  refine Calls.mono (family_any w4) ?_
  rintro e w5 ⟨hb5, bl5, PV5, rfl, hv5⟩
  have HB5 := hid (HB4.out.trans (hb5.mono HB4.out.size))
  have HL5 := hid (HL4.out.up hb5)
  have HM5 := hid (HM4.out.up hb5)
  have HV5 := hid hv5
  clear hb5 hv5 HB4 HL4 HM4
  unfold bookV
  go_wp2_with fail
  refine Calls.mono (family_any _) ?_
  rintro e w6 ⟨hb6, bl6, PV6, rfl, hv6⟩
  have hbA := below_alloc w5 (.cells #[.int .i64 5] 3)
  have hb56 : Below w5.heap.size w5 w6 := hbA.trans (hb6.mono hbA.size)
  have HB6 := hid (HB5.out.trans (hb56.mono HB5.out.size))
  have HL6 := hid (HL5.out.up hb56)
  have HM6 := hid (HM5.out.up hb56)
  have HI6 := hid ((isl_lit1 (heap_alloc_new w5 (.cells #[.int .i64 5] 3))).up hb6)
  have HC := hid (bkAdd _ 5 PV5 famB _ 1 _ 1 1 1 w6 (HV5.out.up hb56) HI6.out)
  obtain ⟨p1, p2, p3⟩ := fam_plan hv6
  clear hb6 hv6 hbA hb56 HB5 HL5 HM5 HV5
  unfold bookV verV at HC
  unfold bookV
  go_wp2_with fail
  refine Calls.mono HC.out ?_
  rintro e w7 ⟨hb7, r7, m7, PV7, rfl, hm7, hv7⟩
  rw [famA1]
  have HB7 := hid (HB6.out.trans (hb7.mono HB6.out.size))
  have HL7 := hid (HL6.out.up hb7)
  have HM7 := hid (HM6.out.up hb7)
  obtain ⟨a7, c7, rfl, _, _⟩ := hv7
  clear hb7 p1 p2 p3 HC HB6 HL6 HM6 hm7
  unfold bookV
  go_wp2_with fail
  refine Calls.mono (family_any _) ?_
  rintro e w8 ⟨hb8, bl8, PV8, rfl, hv8⟩
  have hbB := below_alloc w7 (.cells #[.slice a7 m7 c7] 24)
  have hb78 : Below w7.heap.size w7 w8 := hbB.trans (hb8.mono hbB.size)
  have HB8 := hid (HB7.out.trans (hb78.mono HB7.out.size))
  have HL8 := hid (HL7.out.up hb78)
  have HM8 := hid (HM7.out.up hb78)
  have HV8 := hid hv8
  clear hb8 hv8 hbB hb78 HB7 HL7 HM7
  unfold bookV
  go_wp2_with fail
  refine Calls.mono (family_any _) ?_
  rintro e w9 ⟨hb9, bl9, PV9, rfl, hv9⟩
  have hbC := below_alloc w8 (.cells #[.int .i64 3, .int .i64 4] 3)
  have hb89 : Below w8.heap.size w8 w9 := hbC.trans (hb9.mono hbC.size)
  have HB9 := hid (HB8.out.trans (hb89.mono HB8.out.size))
  have HL9 := hid (HL8.out.up hb89)
  have HM9 := hid (HM8.out.up hb89)
  have HI9 := hid ((isl_lit2 (heap_alloc_new w8 (.cells #[.int .i64 3, .int .i64 4] 3))).up hb9)
  have HC := hid (bkAdd _ 5 PV8 famB _ 2 _ 1 1 1 w9 (HV8.out.up hb89) HI9.out)
  obtain ⟨p1, p2, p3⟩ := fam_plan hv9
  clear hb9 hv9 hbC hb89 HB8 HL8 HM8 HV8
  unfold bookV verV at HC
  unfold bookV
  go_wp2_with fail
  refine Calls.mono HC.out ?_
  rintro e wa ⟨hba, ra, ma, PVa, rfl, hma, hva⟩
  rw [famA2, if_pos rfl] at hma
  subst hma
  rw [famA2]
  have hbE := below_alloc wa (.cells #[ra] 24)
  have hv10 : VeSl (wa.alloc (.cells #[ra] 24)) (wa.alloc (.cells #[ra] 24)).heap.size ra 6 PVa famC := hva.up hbE
  have HBa := hid (HB9.out.trans (hba.mono HB9.out.size))
  have HLa := hid (HL9.out.up hba)
  have HMa := hid (HM9.out.up hba)
  obtain ⟨aa, ca, rfl, _, _⟩ := hva
  obtain ⟨U, hU⟩ : ∃ U, wa.alloc (.cells #[.slice aa 6 ca] 24) = U := ⟨_, rfl⟩
  rw [hU] at hbE hv10
  have u0 : U.cell? ⟨wa.heap.size, 0, none⟩ = some (.slice aa 6 ca) := by rw [← hU]; exact cell_at (heap_alloc_new _ _) rfl
  have lu := cell_lt u0
  have HU0 := hid u0
  have HBU := hid (HBa.out.trans (hbE.mono HBa.out.size))
  have HLU := hid (HLa.out.up hbE)
  have HMU := hid (HMa.out.up hbE)
  have HVU := hid hv10
  clear hba hbE hv10 HBa HLa HMa HB9 HL9 HM9 HC p1 p2 p3
  unfold bookV
  go_wp2_with fail
  have hbF := below_alloc U (.cells #[.int .i64 3, .int .i64 4] 3)
  refine Calls.mono (equal_isl (HLU.out.up hbF) (isl_lit2 (heap_alloc_new U (.cells #[.int .i64 3, .int .i64 4] 3)))) ?_
  rintro e wb ⟨rfl, qb, hqb⟩
  have hbb : Below U.heap.size U wb := by rw [hqb]; exact hbF.trans ((drewN_below _ qb).mono hbF.size)
  rw [show eqB [(3 : Int), 4].length 2 (fun j => [(3 : Int), 4].getD j 0) (fun i => [(3 : Int), 4].getD i 0) = true from eq34]
  have HBb := hid (HBU.out.trans (hbb.mono HBU.out.size))
  have HMb := hid (HMU.out.up hbb)
  have HVb := hid (HVU.out.up hbb)
  have ub : wb.cell? ⟨wa.heap.size, 0, none⟩ = some (.slice aa 6 ca) := by rw [hbb.cell (cell_lt HU0.out)]; exact HU0.out
  have HUb := hid ub
  clear hbF hbb hqb HBU HLU HMU HVU HU0 u0 hU
  go_wp2_with fail
  have hbG := below_alloc wb (.cells #[.int .i64 0, .int .i64 1, .int .i64 2, .int .i64 3] 3)
  refine Calls.mono (equal_isl (HMb.out.up hbG) (isl_lit4 (heap_alloc_new wb (.cells #[.int .i64 0, .int .i64 1, .int .i64 2, .int .i64 3] 3)))) ?_
  rintro e wc ⟨rfl, qc, hqc⟩
  have hbc : Below wb.heap.size wb wc := by rw [hqc]; exact hbG.trans ((drewN_below _ qc).mono hbG.size)
  rw [show eqB [(0 : Int), 1, 2, 3].length 4 (fun j => [(0 : Int), 1, 2, 3].getD j 0) (fun i => [(0 : Int), 1, 2, 3].getD i 0) = true from eq0123]
  have HBc := hid (HBb.out.trans (hbc.mono HBb.out.size))
  have HVc := hid (HVb.out.up hbc)
  have uc : wc.cell? ⟨wa.heap.size, 0, none⟩ = some (.slice aa 6 ca) := by rw [hbc.cell (cell_lt HUb.out)]; exact HUb.out
  have HUc := hid uc
  have HC := hid (bkCheck _ 6 PVa famC wc HVc.out)
  rw [famCE] at HC
  clear hbG hbc hqc HBb HMb HVb HUb ub
  unfold bookV at HC
  go_wp2_with fail
  refine Calls.mono HC.out ?_
  rintro e wd ⟨rfl, hbd⟩
  have HBd := hid (HBc.out.trans (hbd.mono HBc.out.size))
  have HVd := hid (HVc.out.up hbd)
  have ud : wd.cell? ⟨wa.heap.size, 0, none⟩ = some (.slice aa 6 ca) := by rw [hbd.cell (cell_lt HUc.out)]; exact HUc.out
  have HS := hid (bkSame HVd.out HVd.out)
  rw [famCS] at HS
  clear hbd HC HBc HVc HUc uc
  unfold bookV at HS
  go_wp2_with fail
  refine Calls.mono HS.out ?_
  rintro e we ⟨rfl, hbe⟩
  have HBe := hid (HBd.out.trans (hbe.mono HBd.out.size))
  clear hbe HS HBd
  go_wp2
  go_ret
  exact ⟨rfl, HBe.out⟩

end Go.Proofs.Ytdhefajaekackaa
