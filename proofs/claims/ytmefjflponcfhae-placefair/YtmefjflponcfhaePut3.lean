/- Three cells of a block, written anew; the kept one of the closed facts. -/
import Derived.Test.YtmefjflponcfhaePeerRef
import Derived.Test.YtmefjflponcfhaeFamBook
namespace Go.Proofs.Ytmefjflponcfhae
open Go.RowKit
set_option linter.unusedVariables false

theorem set_three {w : World} {g : Nat} {v0 v1 v2 : Value} {T : TypeId} (h : w.heap[g]? = some (.cells #[v0, v1, v2] T (0, 0))) (u : Value) : (w.setCell ⟨g, 2, none⟩ u).heap[g]? = some (.cells #[v0, v1, u] T (0, 0)) := by
  simp [World.setCell, Array.getElem?_modify, h]

def put3 (w : World) (g : Nat) (u0 u1 u2 : Value) : World := ((w.setCell ⟨g, 0, none⟩ u0).setCell ⟨g, 1, none⟩ u1).setCell ⟨g, 2, none⟩ u2

theorem put3_whole {w : World} {g : Nat} {T : TypeId} {v0 v1 v2 : Value} (h : w.heap[g]? = some (.cells #[v0, v1, v2] T (0, 0))) (u0 u1 u2 : Value) : (put3 w g u0 u1 u2).heap[g]? = some (.cells #[u0, u1, u2] T (0, 0)) := by
  simp [put3, World.setCell, Array.getElem?_modify, h]

theorem put3_below {B : Nat} {w w5 : World} {g : Nat} {u0 u1 u2 : Value} (hb : Below B w w5) (hg : B ≤ g) : Below B w (put3 w5 g u0 u1 u2) :=
  ((hb.setCell (p := ⟨g, 0, none⟩) hg _).setCell (p := ⟨g, 1, none⟩) hg _).setCell (p := ⟨g, 2, none⟩) hg _

theorem put3_other {w5 : World} {g k : Nat} {u0 u1 u2 : Value} (h : k ≠ g) : (put3 w5 g u0 u1 u2).heap[k]? = w5.heap[k]? := by
  unfold put3
  rw [Below.heap_setCell _ _ _ _ h, Below.heap_setCell _ _ _ _ h, Below.heap_setCell _ _ _ _ h]

/-- the kept one of the closed facts -/
theorem keptOf_any (ver : Int) (w : World) : Calls Try.prog 21 #[.int .i64 ver] w fun e w' => Below w.heap.size w w' ∧ ∃ uv, e = .returned (keptV ver 0 uv) ∧ IntSl w' w'.heap.size uv 1 (fun i => [(7 : Int)].getD i 0) := by
  go_enter Try.func21, Try.ntmps21
  have hb := ((Below.refl w.heap.size w).alloc (Nat.le_refl _) (.cells #[.int .i64 0, .int .i64 0, .slice none 0 0] 51)).alloc (by simp) (.cells #[.int .i64 7] 3)
  have k1 := heap_two_old w (.cells #[.int .i64 0, .int .i64 0, .slice none 0 0] 51) (.cells #[.int .i64 7] 3)
  have k2 := heap_two_new w (.cells #[.int .i64 0, .int .i64 0, .slice none 0 0] 51) (.cells #[.int .i64 7] 3)
  obtain ⟨W, hW⟩ : ∃ W, (w.alloc (.cells #[.int .i64 0, .int .i64 0, .slice none 0 0] 51)).alloc (.cells #[.int .i64 7] 3) = W := ⟨_, rfl⟩
  rw [hW] at hb k1 k2
  obtain ⟨r1, r2, r3⟩ := three_at k1
  have f1 := frozen_at (i := 0) k1
  have f2 := frozen_at (i := 1) k1
  have f3 := frozen_at (i := 2) k1
  have HB := hid hb
  have K1 := hid k1
  have K2 := hid k2
  clear hb k1 k2
  go_wp2
  refine bodyPost_ret (results_cell_row rfl _ _ w.heap.size 51 #[.int .i64 ver, .int .i64 0, .slice (some ⟨w.heap.size + 1, 0, none⟩) 1 1] (0, 0) _ rfl (put3_whole K1.out _ _ _) Try.underlying51 rfl (by kernel_rfl)) rfl ?_
  have hB : Below w.heap.size w (put3 W w.heap.size (.int .i64 ver) (.int .i64 0) (.slice (some ⟨w.heap.size + 1, 0, none⟩) 1 1)) := put3_below HB.out (Nat.le_refl _)
  refine ⟨hB, _, rfl, isl_lit1 (T := 3) ?_⟩
  show (put3 W w.heap.size (.int .i64 ver) (.int .i64 0) (.slice (some ⟨w.heap.size + 1, 0, none⟩) 1 1)).heap[w.heap.size + 1]? = _
  rw [put3_other (by omega)]
  exact K2.out

theorem drewK_below (w : World) (k : Nat) : Below w.heap.size w (w.drewN k) := ⟨rfl, rfl, rfl, Nat.le_refl _, fun _ _ => rfl⟩

theorem drew_below (w : World) : Below w.heap.size w w.drew := ⟨rfl, rfl, rfl, Nat.le_refl _, fun _ _ => rfl⟩

theorem stayB {w w' : World} {g : Nat} {o : Obj} (h : w.heap[g]? = some o) (hb : Below w.heap.size w w') : w'.heap[g]? = some o := by
  rw [hb.block _ (Array.getElem?_eq_some_iff.1 h).1]; exact h

end Go.Proofs.Ytmefjflponcfhae
