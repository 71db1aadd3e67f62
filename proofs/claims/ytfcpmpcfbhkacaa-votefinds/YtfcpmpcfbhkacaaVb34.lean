/- Several texts of one proof, in their order. -/
import Derived.Test.YtfcpmpcfbhkacaaVb33

/- The closed fact that chapter 4's laws ask first. -/
namespace Go.Proofs.Ytfcpmpcfbhkacaa

open Go.RowKit CurveMath
set_option linter.unusedVariables false

theorem eqB_yes {n m : Nat} {X Y : Nat → Int} (h : n = m) (hx : ∀ j, j < n → X j = Y j) : eqB n m X Y = true := decide_eq_true ⟨h, hx⟩

/-- Split, of the list that was just written out: four shares -/
theorem split_four (w : World) (s : Nat) (hs : w.heap.size = s) :
    Calls Try.prog 12 #[.agg #[.int .i64 2, .int .i64 4, .int .i64 2], .slice (some ⟨s, 0, none⟩) 2 2] (w.alloc (.cells #[.int .i64 5, .int .i64 7] 3)) fun e w' =>
      ∃ (gl : Nat) (G : Nat → Nat), e = .returned (.tuple #[.slice (some ⟨gl, 0, none⟩) 4 4, .int .i64 0]) ∧ Below w.heap.size w w' ∧ w.heap.size ≤ gl ∧ gl < w'.heap.size ∧ w'.frozen? ⟨gl, 3, none⟩ = false ∧ (∀ k, k < 4 → gl < G k) ∧
        ∀ k, k < 4 → w'.cell? ⟨gl, k * 2, none⟩ = some (.int .i64 (k : Int)) ∧ w'.cell? ⟨gl, k * 2 + 1, none⟩ = some (.slice (some ⟨G k, 0, none⟩) 1 1) ∧ w'.cell? ⟨G k, 0, none⟩ = some (.int .i64 (([[5], [7], [9], [11]] : List (List Int)).getD k [] |>.getD 0 0)) := by
  have hp : planOk ((2 : Nat) : Int) ((4 : Nat) : Int) ((2 : Nat) : Int) = true := by decide +kernel
  have hR : rowsN ((2 : Nat) : Int) ((2 : Nat) : Int) = 1 := by decide +kernel
  have hD : ∀ j, j < 2 → 0 ≤ ([5, 7] : List Int).getD j 0 ∧ ([5, 7] : List Int).getD j 0 ≤ 30 := by decide +kernel
  refine (split_good 2 4 2 (fun j => ([5, 7] : List Int).getD j 0) (some ⟨s, 0, none⟩) 2 _ hp hD hR (isl_new' w s hs [5, 7] 3 (by decide))).mono ?_
  rintro e w' ⟨g0, gl, G, rfl, J⟩
  have hsz : (w.alloc (.cells ([5, 7].map (Value.int .i64)).toArray 3)).heap.size = w.heap.size + 1 := by simp
  have h1 := J.o0
  have h2 := J.ol
  have hv : ∀ k, k < 4 → shv 2 2 (fun j => ([5, 7] : List Int).getD j 0) k 0 = (([[5], [7], [9], [11]] : List (List Int)).getD k []).getD 0 0 := by decide +kernel
  refine ⟨gl, G, rfl, (below_alloc w _).trans (J.below.mono (by omega)), by omega, ?_, (J.room 3 (by omega)).2, fun k hk => ?_, fun k hk => ⟨J.l0 k hk, J.l1 k hk, ?_⟩⟩
  · obtain ⟨⟨u, hu⟩, _⟩ := J.room 0 (by omega)
    exact cell_lt hu
  · have := J.oG k hk; omega
  · rw [J.row k hk 0 (by omega), hv k hk]

/-- the shares, one of them bent -/
theorem four_shl {w : World} {gl : Nat} {G : Nat → Nat} (hl : gl < w.heap.size) (hG : ∀ k, k < 4 → gl < G k)
    (hc : ∀ k, k < 4 → w.cell? ⟨gl, k * 2, none⟩ = some (.int .i64 (k : Int)) ∧ w.cell? ⟨gl, k * 2 + 1, none⟩ = some (.slice (some ⟨G k, 0, none⟩) 1 1) ∧ w.cell? ⟨G k, 0, none⟩ = some (.int .i64 (([[5], [7], [9], [11]] : List (List Int)).getD k [] |>.getD 0 0))) :
    ShSl ((w.alloc (.cells #[.int .i64 8] 3)).setCell ⟨gl, 3, none⟩ (.slice (some ⟨w.heap.size, 0, none⟩) 1 1)) ((w.alloc (.cells #[.int .i64 8] 3)).setCell ⟨gl, 3, none⟩ (.slice (some ⟨w.heap.size, 0, none⟩) 1 1)).heap.size
      (.slice (some ⟨gl, 0, none⟩) 4 4) 4 (fun j => [0, 1, 2, 3].getD j 0) (fun j => if j = 1 then .slice (some ⟨w.heap.size, 0, none⟩) 1 1 else .slice (some ⟨G j, 0, none⟩) 1 1) (fun j => (([[5], [8], [9], [11]] : List (List Int)).getD j []).length) (fun j i => (([[5], [8], [9], [11]] : List (List Int)).getD j []).getD i 0) := by
  have hbA := below_alloc w (.cells #[.int .i64 8] 3)
  have hsz : ((w.alloc (.cells #[.int .i64 8] 3)).setCell ⟨gl, 3, none⟩ (.slice (some ⟨w.heap.size, 0, none⟩) 1 1)).heap.size = w.heap.size + 1 := by rw [size_set]; simp
  have hold : ∀ (p : Addr) (u : Value), w.cell? p = some u → p ≠ ⟨gl, 3, none⟩ → ((w.alloc (.cells #[.int .i64 8] 3)).setCell ⟨gl, 3, none⟩ (.slice (some ⟨w.heap.size, 0, none⟩) 1 1)).cell? p = some u := fun p u hu hne => by
    rw [World.cell?_setCell_other _ _ _ _ (Ne.symm hne), hbA.cell (cell_lt hu)]; exact hu
  have hnew : ((w.alloc (.cells #[.int .i64 8] 3)).setCell ⟨gl, 3, none⟩ (.slice (some ⟨w.heap.size, 0, none⟩) 1 1)).cell? ⟨w.heap.size, 0, none⟩ = some (.int .i64 8) := by
    rw [World.cell?_setCell_other _ _ _ _ (by intro e; injection e with e1; omega)]
    exact cell_at (heap_alloc_new _ _) rfl
  have hthree : ((w.alloc (.cells #[.int .i64 8] 3)).setCell ⟨gl, 3, none⟩ (.slice (some ⟨w.heap.size, 0, none⟩) 1 1)).cell? ⟨gl, 3, none⟩ = some (.slice (some ⟨w.heap.size, 0, none⟩) 1 1) := by
    exact World.cell?_setCell_same _ _ _ (u := .slice (some ⟨G 1, 0, none⟩) 1 1) (by rw [hbA.cell hl]; exact (hc 1 (by omega)).2.1)
  refine ⟨_, _, rfl, ⟨Nat.le_refl _, by omega⟩, Or.inr ⟨gl, 0, rfl, by rw [hsz]; omega, fun j hj => ?_⟩⟩
  rw [Nat.zero_add]
  dsimp only
  by_cases h1 : j = 1
  · subst h1
    refine ⟨hold _ _ (hc 1 (by omega)).1 (by intro e; injection e with e1 e2; omega), hthree, ?_⟩
    exact ⟨_, _, rfl, ⟨Nat.le_refl _, by decide⟩, Or.inr ⟨_, 0, rfl, by rw [hsz]; omega, fun i hi => by
      obtain rfl : i = 0 := by simpa using hi
      exact hnew⟩⟩
  · obtain ⟨c1, c2, c3⟩ := hc j hj
    have hl4 : (([[5], [8], [9], [11]] : List (List Int)).getD j []).length = 1 := by
      rcases (show j = 0 ∨ j = 2 ∨ j = 3 by omega) with rfl | rfl | rfl <;> rfl
    have hx4 : (([[5], [7], [9], [11]] : List (List Int)).getD j []).getD 0 0 = (([[5], [8], [9], [11]] : List (List Int)).getD j []).getD 0 0 := by
      rcases (show j = 0 ∨ j = 2 ∨ j = 3 by omega) with rfl | rfl | rfl <;> rfl
    have hn4 : ([0, 1, 2, 3] : List Int).getD j 0 = (j : Int) := by
      rcases (show j = 0 ∨ j = 2 ∨ j = 3 by omega) with rfl | rfl | rfl <;> rfl
    have hg := hG j hj
    refine ⟨by rw [hn4]; exact hold _ _ c1 (by intro e; injection e with e1 e2; omega), by rw [if_neg h1]; exact hold _ _ c2 (by intro e; injection e with e1 e2; omega), ?_⟩
    rw [if_neg h1]
    simp only [hl4]
    refine ⟨_, _, rfl, ⟨Nat.le_refl _, by decide⟩, Or.inr ⟨_, 0, rfl, by rw [hsz]; have := cell_lt c3; exact Nat.lt_succ_of_lt this, fun i hi => ?_⟩⟩
    obtain rfl : i = 0 := by omega
    dsimp only
    rw [← hx4]
    exact hold _ _ c3 (by intro e; injection e with e1 e2; omega)

def vN : Nat → Int := fun j => [0, 1, 2, 3].getD j 0
def vL : Nat → Nat := fun j => (([[5], [8], [9], [11]] : List (List Int)).getD j []).length
def vX : Nat → Nat → Int := fun j i => (([[5], [8], [9], [11]] : List (List Int)).getD j []).getD i 0

theorem voted_c : mostC 2 2 4 vN vX = some [0, 2] := by decide +kernel
theorem voted_chk : checksE 2 4 2 4 vN vL vX = 0 := by decide +kernel
theorem voted_e : mostE 2 4 2 4 vN vL vX = 0 := by unfold mostE; rw [if_pos voted_chk, voted_c]; rfl
theorem voted_d : ∀ j, j < 2 → mostD 2 2 4 vN vX j = [5, 7].getD j 0 := by
  have h : ∀ j, j < 2 → conD 2 vN vX [0, 2] j = [5, 7].getD j 0 := by decide +kernel
  intro j hj
  unfold mostD
  rw [voted_c]
  exact h j hj
theorem voted_b : mostB 2 4 2 4 vN vL vX = [1] := by
  have h : badL 2 2 (rowsN 2 2) 4 vN vX (conD 2 vN vX [0, 2]) = [1] := by decide +kernel
  unfold mostB mostD
  rw [if_pos voted_e, voted_c]
  have e2 : (2 : Int).toNat = 2 := rfl
  rw [e2, Option.getD_some, h]
  simp [srt]
theorem voted_one : mostE 2 4 2 1 vN vL vX = 7 := by
  have h : checksE 2 4 2 1 vN vL vX = 7 := by decide +kernel
  unfold mostE
  rw [h, if_neg (by decide)]

set_option maxHeartbeats 2000000 in
set_option maxRecDepth 10000 in
theorem voted_any (w : World) : Calls Try.prog 32 #[] w fun e w' => e = .returned (.bool true) ∧ Below w.heap.size w w' := by
  have hbx := below_alloc w (.cells #[.int .i64 2, .int .i64 4, .int .i64 2] 23)
  have HSp := hid (split_four (w.alloc (.cells #[.int .i64 2, .int .i64 4, .int .i64 2] 23)) (w.heap.size + 1) (by simp))
  have HBx := hid hbx
  have hsx : (w.alloc (.cells #[.int .i64 2, .int .i64 4, .int .i64 2] 23)).heap.size = w.heap.size + 1 := by simp
  have HSx := hid hsx
  clear hbx hsx
  go_enter Try.func32, Try.ntmps32
  go_wp2_with fail
  refine HSp.out.mono ?_
  rintro e w1 ⟨gl, G, rfl, hb1, hgl, hlt, hfr, hG, hc⟩
  rw [HSx.out] at hgl
  have p0 : w1.cell? ⟨w.heap.size, 0, none⟩ = some (.int .i64 2) := by rw [hb1.cell (by rw [HSx.out]; exact Nat.lt_succ_self _)]; exact cell_at (heap_alloc_new _ _) rfl
  have p1 : w1.cell? ⟨w.heap.size, 1, none⟩ = some (.int .i64 4) := by rw [hb1.cell (by rw [HSx.out]; exact Nat.lt_succ_self _)]; exact cell_at (heap_alloc_new _ _) rfl
  have p2 : w1.cell? ⟨w.heap.size, 2, none⟩ = some (.int .i64 2) := by rw [hb1.cell (by rw [HSx.out]; exact Nat.lt_succ_self _)]; exact cell_at (heap_alloc_new _ _) rfl
  have HB1 := hid (HBx.out.trans (hb1.mono HBx.out.size))
  have HShl := hid (four_shl hlt hG hc)
  have hc3 := (hc 1 (by omega)).2.1
  have hbA := below_alloc w1 (.cells #[.int .i64 8] 3)
  have hc3' : (w1.alloc (.cells #[.int .i64 8] 3)).cell? ⟨gl, 3, none⟩ = some (.slice (some ⟨G 1, 0, none⟩) 1 1) := by rw [hbA.cell hlt]; exact hc3
  have hfr' : (w1.alloc (.cells #[.int .i64 8] 3)).frozen? ⟨gl, 3, none⟩ = false := by rw [hbA.frozen hlt]; exact hfr
  have hkeep : ∀ o u, w1.cell? ⟨w.heap.size, o, none⟩ = some u → ((w1.alloc (.cells #[.int .i64 8] 3)).setCell ⟨gl, 3, none⟩ (.slice (some ⟨w1.heap.size, 0, none⟩) 1 1)).cell? ⟨w.heap.size, o, none⟩ = some u := fun o u hu => by
    rw [World.cell?_setCell_other _ _ _ _ (by intro e; injection e with e1; omega), hbA.cell (cell_lt hu)]; exact hu
  have k0 := hkeep _ _ p0
  have k1 := hkeep _ _ p1
  have k2 := hkeep _ _ p2
  have HB3 : Below w.heap.size w ((w1.alloc (.cells #[.int .i64 8] 3)).setCell ⟨gl, 3, none⟩ (.slice (some ⟨w1.heap.size, 0, none⟩) 1 1)) := (HB1.out.alloc HB1.out.size _).setCell (p := ⟨gl, 3, none⟩) (by show w.heap.size ≤ gl; omega) _
  have hsh := HShl.out
  rw [World.setCell_alloc_past (hn := hlt)] at hsh k0 k1 k2 HB3
  obtain ⟨w3, hw3⟩ : ∃ w3, (w1.setCell ⟨gl, 3, none⟩ (.slice (some ⟨w1.heap.size, 0, none⟩) 1 1)).alloc (.cells #[.int .i64 8] 3) = w3 := ⟨_, rfl⟩
  rw [hw3] at hsh k0 k1 k2 HB3
  have HSh := hid hsh
  have HBw := hid HB3
  clear hb1 hc hG hbA hkeep p0 p1 p2 HShl hsh HB3 hc3' hfr'
  go_wp2_with fail
  have hM := most_any 2 4 2 _ 4 _ _ _ _ w3 HSh.out
  refine hM.mono ?_
  rintro e w4 ⟨hb4, r, b, mm, rfl, hmm, hr, hbb⟩
  have ve : mostE 2 4 2 4 (fun j => [0, 1, 2, 3].getD j 0) (fun j => (([[5], [8], [9], [11]] : List (List Int)).getD j []).length) (fun j i => (([[5], [8], [9], [11]] : List (List Int)).getD j []).getD i 0) = 0 := voted_e
  have vb : mostB 2 4 2 4 (fun j => [0, 1, 2, 3].getD j 0) (fun j => (([[5], [8], [9], [11]] : List (List Int)).getD j []).length) (fun j i => (([[5], [8], [9], [11]] : List (List Int)).getD j []).getD i 0) = [1] := voted_b
  rw [ve] at hmm
  rw [ve]
  rw [vb] at hbb
  rw [if_pos rfl] at hmm
  obtain rfl : mm = 2 := by omega
  have hr2 : IntSl w4 w4.heap.size r 2 (fun j => [5, 7].getD j 0) := hr.congr voted_d
  have HR := hid hr2
  have HB := hid hbb
  have HB4 := hid hb4
  have t0 : w4.cell? ⟨w.heap.size, 0, none⟩ = some (.int .i64 2) := by rw [hb4.cell (cell_lt k0)]; exact k0
  have t1 : w4.cell? ⟨w.heap.size, 1, none⟩ = some (.int .i64 4) := by rw [hb4.cell (cell_lt k1)]; exact k1
  have t2 : w4.cell? ⟨w.heap.size, 2, none⟩ = some (.int .i64 2) := by rw [hb4.cell (cell_lt k2)]; exact k2
  obtain ⟨ar, cr, hre, _, _⟩ := hr2
  subst hre
  obtain ⟨ab, cb, hbe, _, _⟩ := hbb
  subst hbe
  clear hr hmm hM hb4 k0 k1 k2
  have hne : Nonempty (Of (Below w4.heap.size w4)) := ⟨⟨w4, Below.refl _ _⟩⟩
  have F0 : ∀ u : Of (Below w4.heap.size w4), u.val.cell? ⟨w.heap.size, 0, none⟩ = some (.int .i64 2) := fun u => by rw [u.is.cell (cell_lt t0)]; exact t0
  have F1 : ∀ u : Of (Below w4.heap.size w4), u.val.cell? ⟨w.heap.size, 1, none⟩ = some (.int .i64 4) := fun u => by rw [u.is.cell (cell_lt t1)]; exact t1
  have F2 : ∀ u : Of (Below w4.heap.size w4), u.val.cell? ⟨w.heap.size, 2, none⟩ = some (.int .i64 2) := fun u => by rw [u.is.cell (cell_lt t2)]; exact t2
  have HDr : Hid (Below w4.heap.size w4 w4.drew) := ⟨rfl, rfl, rfl, Nat.le_refl _, fun _ _ => rfl⟩
  clear t0 t1 t2
  go_wp2_with fail
  refine region_mixed (Below w4.heap.size w4) [([0, 1, 2], 3)] [4, 5, 6, 7, 8, 9, 10] (by kernel_rfl) (by kernel_rfl) HDr.out ?_
  refine mixO_cons ?_
  repeat (go_big_quiet_step (fail))
  refine wpQuiet_nil ?_
  intro K hK
  go_wp2_with fail
  refine Calls.mono (most_any 2 4 2 _ 1 _ _ _ _ w4.drew (((HSh.out.take (m := 1) (by omega)).up HB4.out).up HDr.out)) ?_
  rintro e w5 ⟨hb5, r5, b5, m5, rfl, _, hr5, hbb5⟩
  have ve1 : mostE 2 4 2 1 (fun j => [0, 1, 2, 3].getD j 0) (fun j => (([[5], [8], [9], [11]] : List (List Int)).getD j []).length) (fun j i => (([[5], [8], [9], [11]] : List (List Int)).getD j []).getD i 0) = 7 := voted_one
  rw [ve1]
  obtain ⟨ar5, cr5, hre5, _, _⟩ := hr5
  subst hre5
  obtain ⟨ab5, cb5, hbe5, _, _⟩ := hbb5
  subst hbe5
  have HB5 := hid (HDr.out.trans (hb5.mono HDr.out.size))
  clear hb5
  go_wp2
  refine ⟨rfl, hK _ _ HB5.out ?_⟩
  clear hK K
  refine mixO_nil ?_
  repeat (go_big_quiet_step (fail))
  refine wpQuiet_nil ?_
  have HEq1 : Hid (Calls Try.prog 26 #[.slice ar 2 cr, .slice (some ⟨w5.heap.size, 0, none⟩) 2 2] (w5.alloc (.cells #[.int .i64 5, .int .i64 7] 3)) fun e w' => e = .returned (.bool true) ∧ Below w5.heap.size w5 w') := by
    refine (equal_isl ((HR.out.up HB5.out).alloc _) (isl_new w5 [5, 7] 3 (by decide))).mono ?_
    rintro e w' ⟨he, k, rfl⟩
    exact ⟨he.trans (congrArg (fun b => Ending.returned (.bool b)) (eqB_yes rfl (fun _ _ => rfl))), (below_alloc _ _).trans ⟨rfl, rfl, rfl, Nat.le_refl _, fun _ _ => rfl⟩⟩
  go_wp2_with fail
  refine Calls.mono HEq1.out ?_
  rintro e w6 ⟨rfl, hb6⟩
  have HB6 := hid (HB5.out.trans (hb6.mono HB5.out.size))
  clear hb6
  have HEq2 : Hid (Calls Try.prog 26 #[.slice ab 1 cb, .slice (some ⟨w6.heap.size, 0, none⟩) 1 1] (w6.alloc (.cells #[.int .i64 1] 3)) fun e w' => e = .returned (.bool true) ∧ Below w6.heap.size w6 w') := by
    refine (equal_isl ((HB.out.up HB6.out).alloc _) (isl_new w6 [1] 3 (by decide))).mono ?_
    rintro e w' ⟨he, k, rfl⟩
    exact ⟨he.trans (congrArg (fun b => Ending.returned (.bool b)) (eqB_yes rfl (fun _ _ => rfl))), (below_alloc _ _).trans ⟨rfl, rfl, rfl, Nat.le_refl _, fun _ _ => rfl⟩⟩
  go_wp2_with fail
  refine Calls.mono HEq2.out ?_
  rintro e w7 ⟨rfl, hb7⟩
  have HB7 := hid (HB6.out.trans (hb7.mono HB6.out.size))
  clear hb7
  go_wp2
  go_ret
  exact ⟨rfl, HBw.out.trans ((HB4.out.trans (HB7.out.mono HB4.out.size)).mono HBw.out.size)⟩

end Go.Proofs.Ytfcpmpcfbhkacaa
