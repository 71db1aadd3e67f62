/- The closed fact that chapter 3's laws ask first, of a package that does what it owes. -/
import Derived.Test.YtfcpmpcfbhkacaaShareSpec
import Derived.Test.YtfcpmpcfbhkacaaMixed
import Derived.Deep.RegionWith
import Derived.Deep.Cut
import Derived.Deep.CutRange
namespace Go.Proofs.Ytfcpmpcfbhkacaa
open Go.RowKit CurveMath
set_option linter.unusedVariables false

theorem shSl_one {w : World} {N0 : Int} {V0 : Value} {l0 : List Int} {T : TypeId} (h0 : IntSl w w.heap.size V0 l0.length (fun j => l0.getD j 0)) :
    ShSl (w.alloc (.cells #[.int .i64 N0, V0] T)) (w.alloc (.cells #[.int .i64 N0, V0] T)).heap.size (.slice (some ⟨w.heap.size, 0, none⟩) 1 1) 1 (fun j => [N0].getD j 0) (fun j => [V0].getD j (.bool false)) (fun j => ([l0].getD j []).length) (fun j i => ([l0].getD j []).getD i 0) := by
  have hh := heap_alloc_new w (.cells #[.int .i64 N0, V0] T)
  refine ⟨_, _, rfl, ⟨Nat.le_refl _, by omega⟩, Or.inr ⟨w.heap.size, 0, rfl, by simp, fun j hj => ?_⟩⟩
  obtain rfl : j = 0 := by omega
  exact ⟨cell_at hh rfl, cell_at hh rfl, h0.alloc _⟩

theorem shSl_two {w : World} {N0 N1 : Int} {V0 V1 : Value} {l0 l1 : List Int} {T : TypeId} (h0 : IntSl w w.heap.size V0 l0.length (fun j => l0.getD j 0)) (h1 : IntSl w w.heap.size V1 l1.length (fun j => l1.getD j 0)) :
    ShSl (w.alloc (.cells #[.int .i64 N0, V0, .int .i64 N1, V1] T)) (w.alloc (.cells #[.int .i64 N0, V0, .int .i64 N1, V1] T)).heap.size (.slice (some ⟨w.heap.size, 0, none⟩) 2 2) 2 (fun j => [N0, N1].getD j 0) (fun j => [V0, V1].getD j (.bool false)) (fun j => ([l0, l1].getD j []).length) (fun j i => ([l0, l1].getD j []).getD i 0) := by
  have hh := heap_alloc_new w (.cells #[.int .i64 N0, V0, .int .i64 N1, V1] T)
  refine ⟨_, _, rfl, ⟨Nat.le_refl _, by omega⟩, Or.inr ⟨w.heap.size, 0, rfl, by simp, fun j hj => ?_⟩⟩
  rcases (show j = 0 ∨ j = 1 by omega) with rfl | rfl
  · exact ⟨cell_at hh rfl, cell_at hh rfl, h0.alloc _⟩
  · exact ⟨cell_at hh rfl, cell_at hh rfl, h1.alloc _⟩

theorem shSl_three {w : World} {N0 N1 N2 : Int} {V0 V1 V2 : Value} {l0 l1 l2 : List Int} {T : TypeId} (h0 : IntSl w w.heap.size V0 l0.length (fun j => l0.getD j 0)) (h1 : IntSl w w.heap.size V1 l1.length (fun j => l1.getD j 0)) (h2 : IntSl w w.heap.size V2 l2.length (fun j => l2.getD j 0)) :
    ShSl (w.alloc (.cells #[.int .i64 N0, V0, .int .i64 N1, V1, .int .i64 N2, V2] T)) (w.alloc (.cells #[.int .i64 N0, V0, .int .i64 N1, V1, .int .i64 N2, V2] T)).heap.size (.slice (some ⟨w.heap.size, 0, none⟩) 3 3) 3 (fun j => [N0, N1, N2].getD j 0) (fun j => [V0, V1, V2].getD j (.bool false)) (fun j => ([l0, l1, l2].getD j []).length) (fun j i => ([l0, l1, l2].getD j []).getD i 0) := by
  have hh := heap_alloc_new w (.cells #[.int .i64 N0, V0, .int .i64 N1, V1, .int .i64 N2, V2] T)
  refine ⟨_, _, rfl, ⟨Nat.le_refl _, by omega⟩, Or.inr ⟨w.heap.size, 0, rfl, by simp, fun j hj => ?_⟩⟩
  rcases (show j = 0 ∨ j = 1 ∨ j = 2 by omega) with rfl | rfl | rfl
  · exact ⟨cell_at hh rfl, cell_at hh rfl, h0.alloc _⟩
  · exact ⟨cell_at hh rfl, cell_at hh rfl, h1.alloc _⟩
  · exact ⟨cell_at hh rfl, cell_at hh rfl, h2.alloc _⟩

/-- Split, of the list that was just written out -/
theorem split_lit (hO : Owes) (w : World) (s : Nat) (hs : w.heap.size = s) :
    Calls Try.prog 12 #[.agg #[.int .i64 2, .int .i64 3, .int .i64 3], .slice (some ⟨s, 0, none⟩) 3 3] (w.alloc (.cells #[.int .i64 5, .int .i64 7, .int .i64 9] 3)) fun e w' =>
      ∃ b off cap, ∃ v1 v2 : Value, e = .returned (.tuple #[.slice (some ⟨b, off, none⟩) 3 cap, .int .i64 0]) ∧ 3 ≤ cap ∧ Below w.heap.size w w' ∧
        (w'.cell? ⟨b, off + 2, none⟩ = some (.int .i64 1) ∧ w'.cell? ⟨b, off + 3, none⟩ = some v1 ∧ IntSl w' w'.heap.size v1 2 (fun j => [7, 0].getD j 0)) ∧
        (w'.cell? ⟨b, off + 4, none⟩ = some (.int .i64 2) ∧ w'.cell? ⟨b, off + 5, none⟩ = some v2 ∧ IntSl w' w'.heap.size v2 2 (fun j => [9, 22].getD j 0)) := by
  refine (hO.split 2 3 3 _ 3 _ _ (isl_new' w s hs [5, 7, 9] 3 (by decide))).mono ?_
  rintro e w' ⟨hb, r, m, V, he, hm, hs, _, _⟩
  have e1 : splitE 2 3 3 3 (fun j => [5, 7, 9].getD j 0) = 0 := by decide +kernel
  rw [e1] at he hm
  rw [if_pos rfl] at hm
  obtain rfl : m = 3 := by omega
  obtain ⟨ad, cap, rfl, ⟨hc, _⟩, h0 | ⟨b, off, rfl, hbl, hj⟩⟩ := hs
  · omega
  have k1 := hj 1 (by omega)
  have k2 := hj 2 (by omega)
  have r2 : rowsN 2 3 = 2 := by decide +kernel
  rw [r2] at k1 k2
  refine ⟨b, off, cap, V 1, V 2, he, hc, (below_alloc w _).trans (hb.mono (by simp)), ⟨k1.1, k1.2.1, k1.2.2.congr ?_⟩, ⟨k2.1, k2.2.1, k2.2.2.congr ?_⟩⟩
  · have h2 : ∀ j, j < 2 → shv 2 3 (fun j => [5, 7, 9].getD j 0) 1 j = [7, 0].getD j 0 := by decide +kernel
    exact h2
  · have h2 : ∀ j, j < 2 → shv 2 3 (fun j => [5, 7, 9].getD j 0) 2 j = [9, 22].getD j 0 := by decide +kernel
    exact h2

theorem join_two (hO : Owes) (w : World) :
    Calls Try.prog 13 #[.agg #[.int .i64 2, .int .i64 3, .int .i64 3], .slice (some ⟨w.heap.size + 1 + 1, 0, none⟩) 2 2]
      (((w.alloc (.cells #[.int .i64 9, .int .i64 22] 3)).alloc (.cells #[.int .i64 5, .int .i64 9] 3)).alloc (.cells #[.int .i64 2, .slice (some ⟨w.heap.size, 0, none⟩) 2 2, .int .i64 0, .slice (some ⟨w.heap.size + 1, 0, none⟩) 2 2] 27)) fun e w' =>
      ∃ r : Value, e = .returned (.tuple #[r, .int .i64 0]) ∧ Below w.heap.size w w' ∧ IntSl w' w'.heap.size r 3 (fun j => [5, 7, 9].getD j 0) := by
  have h1 := isl_new w [9, 22] 3 (by decide)
  have h2 := isl_new' (w.alloc (.cells #[.int .i64 9, .int .i64 22] 3)) (w.heap.size + 1) (by simp) [5, 9] 3 (by decide)
  have h3 := shSl_two (N0 := 2) (N1 := 0) (T := 27) (h1.alloc _) h2
  have hz : ((w.alloc (.cells ([9, 22].map (Value.int .i64)).toArray 3)).alloc (.cells ([5, 9].map (Value.int .i64)).toArray 3)).heap.size = w.heap.size + 1 + 1 := by simp
  rw [hz] at h3
  refine (hO.join 2 3 3 _ 2 _ _ _ _ _ h3).mono ?_
  rintro e w' ⟨hb, r, m, he, hm, hs⟩
  have e1 : joinE 2 3 3 2 (fun j => [2, 0].getD j 0) (fun j => (([[9, 22], [5, 9]] : List (List Int)).getD j []).length) (fun j i => ([[9, 22], [5, 9]].getD j []).getD i 0) = 0 := by decide +kernel
  rw [e1] at he hm
  rw [if_pos rfl] at hm
  obtain rfl : m = 3 := by omega
  refine ⟨r, he, ?_, hs.congr ?_⟩
  · exact (((below_alloc w _).trans ((below_alloc _ _).mono (by simp))).trans ((below_alloc _ _).mono (by simp; omega))).trans (hb.mono (by simp; omega))
  · have h4 : ∀ j, j < 3 → joinD 2 (fun j => [2, 0].getD j 0) (fun j i => ([[9, 22], [5, 9]].getD j []).getD i 0) j = [5, 7, 9].getD j 0 := by decide +kernel
    exact h4

theorem join_one (hO : Owes) (w : World) :
    Calls Try.prog 13 #[.agg #[.int .i64 2, .int .i64 3, .int .i64 3], .slice (some ⟨w.heap.size + 1, 0, none⟩) 1 1]
      ((w.alloc (.cells #[.int .i64 9, .int .i64 22] 3)).alloc (.cells #[.int .i64 2, .slice (some ⟨w.heap.size, 0, none⟩) 2 2] 27)) fun e w' =>
      ∃ r : Value, e = .returned (.tuple #[r, .int .i64 7]) ∧ Below w.heap.size w w' := by
  have h1 := isl_new w [9, 22] 3 (by decide)
  have h3 := shSl_one (N0 := 2) (T := 27) h1
  have hz : (w.alloc (.cells ([9, 22].map (Value.int .i64)).toArray 3)).heap.size = w.heap.size + 1 := by simp
  rw [hz] at h3
  refine (hO.join 2 3 3 _ 1 _ _ _ _ _ h3).mono ?_
  rintro e w' ⟨hb, r, m, he, hm, hs⟩
  have e1 : joinE 2 3 3 1 (fun j => [2].getD j 0) (fun j => (([[9, 22]] : List (List Int)).getD j []).length) (fun j i => ([[9, 22]].getD j []).getD i 0) = 7 := by decide +kernel
  rw [e1] at he
  exact ⟨r, he, ((below_alloc w _).trans ((below_alloc _ _).mono (by simp))).trans (hb.mono (by simp; omega))⟩

theorem join_three (hO : Owes) (w : World) :
    Calls Try.prog 13 #[.agg #[.int .i64 2, .int .i64 3, .int .i64 3], .slice (some ⟨w.heap.size + 1 + 1 + 1, 0, none⟩) 3 3]
      ((((w.alloc (.cells #[.int .i64 9, .int .i64 22] 3)).alloc (.cells #[.int .i64 5, .int .i64 9] 3)).alloc (.cells #[.int .i64 7, .int .i64 1] 3)).alloc (.cells #[.int .i64 2, .slice (some ⟨w.heap.size, 0, none⟩) 2 2, .int .i64 0, .slice (some ⟨w.heap.size + 1, 0, none⟩) 2 2, .int .i64 1, .slice (some ⟨w.heap.size + 1 + 1, 0, none⟩) 2 2] 27)) fun e w' =>
      ∃ r : Value, e = .returned (.tuple #[r, .int .i64 9]) ∧ Below w.heap.size w w' := by
  have h1 := isl_new w [9, 22] 3 (by decide)
  have h2 := isl_new' (w.alloc (.cells #[.int .i64 9, .int .i64 22] 3)) (w.heap.size + 1) (by simp) [5, 9] 3 (by decide)
  have h4 := isl_new' ((w.alloc (.cells #[.int .i64 9, .int .i64 22] 3)).alloc (.cells #[.int .i64 5, .int .i64 9] 3)) (w.heap.size + 1 + 1) (by simp) [7, 1] 3 (by decide)
  have h3 := shSl_three (N0 := 2) (N1 := 0) (N2 := 1) (T := 27) ((h1.alloc _).alloc _) (h2.alloc _) h4
  have hz : (((w.alloc (.cells ([9, 22].map (Value.int .i64)).toArray 3)).alloc (.cells ([5, 9].map (Value.int .i64)).toArray 3)).alloc (.cells ([7, 1].map (Value.int .i64)).toArray 3)).heap.size = w.heap.size + 1 + 1 + 1 := by simp
  rw [hz] at h3
  refine (hO.join 2 3 3 _ 3 _ _ _ _ _ h3).mono ?_
  rintro e w' ⟨hb, r, m, he, hm, hs⟩
  have e1 : joinE 2 3 3 3 (fun j => [2, 0, 1].getD j 0) (fun j => (([[9, 22], [5, 9], [7, 1]] : List (List Int)).getD j []).length) (fun j i => ([[9, 22], [5, 9], [7, 1]].getD j []).getD i 0) = 9 := by decide +kernel
  rw [e1] at he
  exact ⟨r, he, ((((below_alloc w _).trans ((below_alloc _ _).mono (by simp))).trans ((below_alloc _ _).mono (by simp; omega))).trans ((below_alloc _ _).mono (by simp; omega))).trans (hb.mono (by simp; omega))⟩

set_option maxHeartbeats 4000000 in
theorem parted_any (hO : Owes) (w : World) :
    Calls Try.prog 16 #[] w fun e w' => e = .returned (.bool true) ∧ Below w.heap.size w w' := by
  go_enter Try.func16, Try.ntmps16
  go_wp2_with fail
  refine (split_lit hO _ _ (by simp)).mono ?_
  rintro e w1 ⟨b, off, cap, v1, v2, rfl, hcap, hb1, ⟨g1, g2, i1⟩, ⟨g3, g4, i2⟩⟩
  have p0 : w1.cell? ⟨w.heap.size, 0, none⟩ = some (.int .i64 2) := by rw [hb1.cell (by simp)]; exact cell_at (heap_alloc_new _ _) rfl
  have p1 : w1.cell? ⟨w.heap.size, 1, none⟩ = some (.int .i64 3) := by rw [hb1.cell (by simp)]; exact cell_at (heap_alloc_new _ _) rfl
  have p2 : w1.cell? ⟨w.heap.size, 2, none⟩ = some (.int .i64 3) := by rw [hb1.cell (by simp)]; exact cell_at (heap_alloc_new _ _) rfl
  go_wp2_with fail
  refine (join_two hO _).mono ?_
  rintro e w2 ⟨r2, rfl, hb2, i3⟩
  have p0 : w2.cell? ⟨w.heap.size, 0, none⟩ = some (.int .i64 2) := by rw [hb2.cell (cell_lt p0)]; exact p0
  have p1 : w2.cell? ⟨w.heap.size, 1, none⟩ = some (.int .i64 3) := by rw [hb2.cell (cell_lt p1)]; exact p1
  have p2 : w2.cell? ⟨w.heap.size, 2, none⟩ = some (.int .i64 3) := by rw [hb2.cell (cell_lt p2)]; exact p2
  go_wp2_with fail
  refine (join_one hO _).mono ?_
  rintro e w3 ⟨r3, rfl, hb3⟩
  have p0 : w3.cell? ⟨w.heap.size, 0, none⟩ = some (.int .i64 2) := by rw [hb3.cell (cell_lt p0)]; exact p0
  have p1 : w3.cell? ⟨w.heap.size, 1, none⟩ = some (.int .i64 3) := by rw [hb3.cell (cell_lt p1)]; exact p1
  have p2 : w3.cell? ⟨w.heap.size, 2, none⟩ = some (.int .i64 3) := by rw [hb3.cell (cell_lt p2)]; exact p2
  go_wp2_with fail
  refine (join_three hO _).mono ?_
  rintro e w4 ⟨r4, rfl, hb4⟩
  have p0 : w4.cell? ⟨w.heap.size, 0, none⟩ = some (.int .i64 2) := by rw [hb4.cell (cell_lt p0)]; exact p0
  have p1 : w4.cell? ⟨w.heap.size, 1, none⟩ = some (.int .i64 3) := by rw [hb4.cell (cell_lt p1)]; exact p1
  have p2 : w4.cell? ⟨w.heap.size, 2, none⟩ = some (.int .i64 3) := by rw [hb4.cell (cell_lt p2)]; exact p2
  have b24 : Below w1.heap.size w1 w4 := hb2.trans ((hb3.mono hb2.size).trans (hb4.mono (Nat.le_trans hb2.size hb3.size)))
  have HF : Hid (∀ w', Below w4.heap.size w4 w' → ((w'.cell? ⟨w.heap.size, 0, none⟩ = some (.int .i64 2) ∧ w'.cell? ⟨w.heap.size, 1, none⟩ = some (.int .i64 3) ∧ w'.cell? ⟨w.heap.size, 2, none⟩ = some (.int .i64 3)) ∧
      (w'.cell? ⟨b, off + 2, none⟩ = some (.int .i64 1) ∧ w'.cell? ⟨b, off + 3, none⟩ = some v1) ∧ (w'.cell? ⟨b, off + 4, none⟩ = some (.int .i64 2) ∧ w'.cell? ⟨b, off + 5, none⟩ = some v2))) := fun w' hb' => by
    have e : ∀ (a : Addr) (v : Value), w1.cell? a = some v → w'.cell? a = some v := fun a v h => by
      have h1 : w4.cell? a = some v := by rw [b24.cell (cell_lt h)]; exact h
      rw [hb'.cell (cell_lt h1)]; exact h1
    have e4 : ∀ (a : Addr) (v : Value), w4.cell? a = some v → w'.cell? a = some v := fun a v h => by rw [hb'.cell (cell_lt h)]; exact h
    exact ⟨⟨e4 _ _ p0, e4 _ _ p1, e4 _ _ p2⟩, ⟨e _ _ g1, e _ _ g2⟩, ⟨e _ _ g3, e _ _ g4⟩⟩
  have hall : Below w.heap.size w w4 := by
    have h1 := hb1.trans (b24.mono hb1.size)
    exact (below_alloc w _).trans (h1.mono (by simp))
  have HA : Hid (Below w.heap.size w w4) := hall
  have HSame : Hid (∀ w', Below w4.heap.size w4 w' → Calls Try.prog 23 #[.agg #[.int .i64 2, v2], .agg #[.int .i64 2, .slice (some ⟨w'.heap.size, 0, none⟩) 2 2]] (w'.alloc (.cells #[.int .i64 9, .int .i64 22] 3)) fun e w'' => e = .returned (.bool true) ∧ Below w4.heap.size w4 w'') := fun w' hb' => by
    have j2 := ((i2.up b24).up hb').alloc (.cells #[.int .i64 9, .int .i64 22] 3)
    refine (hO.same 2 2 v2 _ 2 2 _ _ _ j2 (isl_new w' [9, 22] 3 (by decide))).mono ?_
    rintro e w'' ⟨he, hb⟩
    exact ⟨by rw [he]; rfl, hb'.trans (((below_alloc w' _).trans (hb.mono (by simp))).mono hb'.size)⟩
  have HEq : Hid (∀ w', Below w4.heap.size w4 w' → Calls Try.prog 26 #[r2, .slice (some ⟨w'.heap.size, 0, none⟩) 3 3] (w'.alloc (.cells #[.int .i64 5, .int .i64 7, .int .i64 9] 3)) fun e w'' => e = .returned (.bool true) ∧ Below w4.heap.size w4 w'') := fun w' hb' => by
    have j2 := ((i3.up (hb3.trans (hb4.mono hb3.size))).up hb').alloc (.cells #[.int .i64 5, .int .i64 7, .int .i64 9] 3)
    refine (equal_isl j2 (isl_new w' [5, 7, 9] 3 (by decide))).mono ?_
    rintro e w'' ⟨he, k, rfl⟩
    exact ⟨by rw [he]; rfl, hb'.trans ((Below.trans (below_alloc w' (.cells #[.int .i64 5, .int .i64 7, .int .i64 9] 3)) ⟨rfl, rfl, rfl, Nat.le_refl _, fun _ _ => rfl⟩ : Below w'.heap.size w' ((w'.alloc (.cells #[.int .i64 5, .int .i64 7, .int .i64 9] 3)).drewN k)).mono hb'.size)⟩
  have HLong : Hid (∀ w', Below w4.heap.size w4 w' → Calls Try.prog 19 #[.agg #[.int .i64 2, .int .i64 3, .int .i64 3]] w' fun e w'' => e = .returned (.int .i64 2) ∧ Below w4.heap.size w4 w'') := fun w' hb' => by
    refine (hO.long 2 3 3 w').mono ?_
    rintro e w'' ⟨he, hb⟩
    exact ⟨by rw [he]; rfl, hb'.trans (hb.mono hb'.size)⟩
  have HOne : Hid (∀ w', Below w4.heap.size w4 w' → Calls Try.prog 21 #[.agg #[.int .i64 2, .int .i64 3, .int .i64 3], .agg #[.int .i64 1, v1]] w' fun e w'' => e = .returned (.int .i64 0) ∧ Below w4.heap.size w4 w'') := fun w' hb' => by
    refine (hO.one 2 3 3 1 v1 2 _ w' ((i1.up b24).up hb')).mono ?_
    rintro e w'' ⟨he, hb⟩
    exact ⟨by rw [he]; rfl, hb'.trans (hb.mono hb'.size)⟩
  have F0 : ∀ u : Of (Below w4.heap.size w4), u.val.cell? ⟨w.heap.size, 0, none⟩ = some (.int .i64 2) := fun u => (HF.out u.val u.is).1.1
  have F1 : ∀ u : Of (Below w4.heap.size w4), u.val.cell? ⟨w.heap.size, 1, none⟩ = some (.int .i64 3) := fun u => (HF.out u.val u.is).1.2.1
  have F2 : ∀ u : Of (Below w4.heap.size w4), u.val.cell? ⟨w.heap.size, 2, none⟩ = some (.int .i64 3) := fun u => (HF.out u.val u.is).1.2.2
  have F3 : ∀ u : Of (Below w4.heap.size w4), u.val.cell? ⟨b, off + 2, none⟩ = some (.int .i64 1) := fun u => (HF.out u.val u.is).2.1.1
  have F4 : ∀ u : Of (Below w4.heap.size w4), u.val.cell? ⟨b, off + 3, none⟩ = some v1 := fun u => (HF.out u.val u.is).2.1.2
  have F5 : ∀ u : Of (Below w4.heap.size w4), u.val.cell? ⟨b, off + 4, none⟩ = some (.int .i64 2) := fun u => (HF.out u.val u.is).2.2.1
  have F6 : ∀ u : Of (Below w4.heap.size w4), u.val.cell? ⟨b, off + 5, none⟩ = some v2 := fun u => (HF.out u.val u.is).2.2.2
  clear i1 i2 i3 b24 hall hO hb1 hb2 hb3 hb4 p0 p1 p2 g1 g2 g3 g4 HF
  go_wp2_with fail
  have hne : Nonempty (Of (Below w4.heap.size w4)) := ⟨⟨w4, Below.refl _ _⟩⟩
  refine region_mixed (Below w4.heap.size w4) [([0, 1, 2, 3, 4, 5, 6, 7, 8, 9, 10, 11, 12, 13, 14, 15, 16, 17, 18, 19, 20, 21, 22], 23), ([24], 25), ([26, 27, 28], 29), ([], 30), ([31, 32, 33], 34), ([35, 36, 37, 38, 39, 40, 41], 42)] [43, 44, 45] (by kernel_rfl) (by kernel_rfl) ⟨rfl, rfl, rfl, Nat.le_refl _, fun _ _ => rfl⟩ ?_
  refine mixO_cons ?_
  repeat (go_big_quiet_step (fail))
  refine wpQuiet_nil ?_
  intro K hK
  go_wp2_with fail
  have b5 : Below w4.heap.size w4 (w4.alloc (.cells #[.int .i64 9, .int .i64 22] 3)).drew := Below.trans (below_alloc w4 _) ⟨rfl, rfl, rfl, Nat.le_refl _, fun _ _ => rfl⟩
  refine ⟨rfl, hK _ _ b5 ?_⟩
  clear hK K
  refine mixO_cons ?_
  repeat (go_big_quiet_step (fail))
  refine wpQuiet_nil ?_
  intro K hK
  go_wp2_with fail
  have hs := HSame.out w4.drew ⟨rfl, rfl, rfl, Nat.le_refl _, fun _ _ => rfl⟩
  refine Calls.mono hs ?_
  rintro e w5 ⟨rfl, hb5⟩
  go_wp2
  refine ⟨rfl, hK _ _ hb5 ?_⟩
  clear hK K
  refine mixO_cons ?_
  repeat (go_big_quiet_step (fail))
  refine wpQuiet_nil ?_
  intro K hK
  go_wp2_with fail
  have b6 : Below w4.heap.size w4 (w5.alloc (.cells #[.int .i64 5, .int .i64 7, .int .i64 9] 3)) := hb5.trans ((below_alloc w5 _).mono hb5.size)
  refine ⟨rfl, hK _ _ b6 ?_⟩
  clear hK K
  refine mixO_cons (lq := []) ?_ rfl
  repeat (go_big_quiet_step (fail))
  refine wpQuiet_nil ?_
  intro K hK
  go_wp2_with fail
  refine Calls.mono (HEq.out w5 hb5) ?_
  rintro e w6 ⟨rfl, hb6⟩
  go_wp2
  refine ⟨rfl, hK _ _ hb6 ?_⟩
  clear hK K
  refine mixO_cons ?_
  repeat (go_big_quiet_step (fail))
  refine wpQuiet_nil ?_
  intro K hK
  go_wp2_with fail
  refine Calls.mono (HLong.out w6 hb6) ?_
  rintro e w7 ⟨rfl, hb7⟩
  go_wp2
  refine ⟨rfl, hK _ _ hb7 ?_⟩
  clear hK K
  refine mixO_cons ?_
  repeat (go_big_quiet_step (fail))
  refine wpQuiet_nil ?_
  intro K hK
  go_wp2_with fail
  refine Calls.mono (HOne.out w7 hb7) ?_
  rintro e w8 ⟨rfl, hb8⟩
  go_wp2
  refine ⟨rfl, hK _ _ hb8 ?_⟩
  clear hK K
  refine mixO_nil ?_
  repeat (go_big_quiet_step (fail))
  refine wpQuiet_nil ?_
  go_wp2
  go_ret
  exact ⟨rfl, HA.out.trans (hb8.mono HA.out.size)⟩

end Go.Proofs.Ytfcpmpcfbhkacaa
