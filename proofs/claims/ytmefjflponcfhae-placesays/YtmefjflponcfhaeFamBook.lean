/- The family that the closed facts of chapter 7 on speak of. -/
import Derived.Test.YtmefjflponcfhaeBookOwn
import Derived.Test.YtmefjflponcfhaeBookRef
namespace Go.Proofs.Ytmefjflponcfhae
open Go.RowKit
set_option linter.unusedVariables false

/-- the family -/
def famB : Bk := ⟨fun j => [0, 1, 1, 2, 1].getD j 0, fun j i => ([[], [0], [0], [1, 2], [2]].getD j []).getD i 0, fun _ => 1, fun _ => 1, fun _ => 1⟩

theorem heap_if (w : World) (o : Obj) (i : Nat) : (w.alloc o).heap[i]? = if i = w.heap.size then some o else w.heap[i]? := by
  simp only [World.alloc, Array.getElem?_push]

/-- the lists of parents, as values -/
def famP (s j : Nat) : Value := [.slice none 0 0, .slice (some ⟨s + 1 + 1, 0, none⟩) 1 1, .slice (some ⟨s + 1 + 1 + 1, 0, none⟩) 1 1, .slice (some ⟨s + 1 + 1 + 1 + 1, 0, none⟩) 2 2, .slice (some ⟨s + 1 + 1 + 1 + 1 + 1, 0, none⟩) 1 1].getD j undef

/-- the family's memory -/
def famW (w : World) : World :=
  ((((((w.alloc (.cells #[.slice (some ⟨w.heap.size + 1 + 1 + 1 + 1 + 1 + 1, 0, none⟩) 5 5] 24)).alloc (.cells #[.int .i64 1, .int .i64 1, .int .i64 1] 60)).alloc (.cells #[.int .i64 0] 3)).alloc (.cells #[.int .i64 0] 3)).alloc (.cells #[.int .i64 1, .int .i64 2] 3)).alloc (.cells #[.int .i64 2] 3)).alloc
    (.cells #[.slice none 0 0, .int .i64 1, .int .i64 1, .int .i64 1, .slice (some ⟨w.heap.size + 1 + 1, 0, none⟩) 1 1, .int .i64 1, .int .i64 1, .int .i64 1, .slice (some ⟨w.heap.size + 1 + 1 + 1, 0, none⟩) 1 1, .int .i64 1, .int .i64 1, .int .i64 1, .slice (some ⟨w.heap.size + 1 + 1 + 1 + 1, 0, none⟩) 2 2, .int .i64 1, .int .i64 1, .int .i64 1, .slice (some ⟨w.heap.size + 1 + 1 + 1 + 1 + 1, 0, none⟩) 1 1, .int .i64 1, .int .i64 1, .int .i64 1] 62)

theorem famW_size (w : World) : (famW w).heap.size = w.heap.size + 7 := by simp [famW]

theorem famW_below (w : World) : Below w.heap.size w (famW w) := by
  unfold famW
  refine ((((((Below.refl w.heap.size w).alloc (Nat.le_refl _) _).alloc ?_ _).alloc ?_ _).alloc ?_ _).alloc ?_ _).alloc ?_ _ |>.alloc ?_ _ <;> simp <;> omega

theorem famW_at (w : World) : (famW w).heap[w.heap.size]? = some (.cells #[.slice (some ⟨w.heap.size + 1 + 1 + 1 + 1 + 1 + 1, 0, none⟩) 5 5] 24 (0, 0)) ∧
    (famW w).heap[w.heap.size + 1 + 1]? = some (.cells #[.int .i64 0] 3 (0, 0)) ∧ (famW w).heap[w.heap.size + 1 + 1 + 1]? = some (.cells #[.int .i64 0] 3 (0, 0)) ∧
    (famW w).heap[w.heap.size + 1 + 1 + 1 + 1]? = some (.cells #[.int .i64 1, .int .i64 2] 3 (0, 0)) ∧ (famW w).heap[w.heap.size + 1 + 1 + 1 + 1 + 1]? = some (.cells #[.int .i64 2] 3 (0, 0)) ∧
    (famW w).heap[w.heap.size + 1 + 1 + 1 + 1 + 1 + 1]? = some (.cells #[.slice none 0 0, .int .i64 1, .int .i64 1, .int .i64 1, .slice (some ⟨w.heap.size + 1 + 1, 0, none⟩) 1 1, .int .i64 1, .int .i64 1, .int .i64 1, .slice (some ⟨w.heap.size + 1 + 1 + 1, 0, none⟩) 1 1, .int .i64 1, .int .i64 1, .int .i64 1, .slice (some ⟨w.heap.size + 1 + 1 + 1 + 1, 0, none⟩) 2 2, .int .i64 1, .int .i64 1, .int .i64 1, .slice (some ⟨w.heap.size + 1 + 1 + 1 + 1 + 1, 0, none⟩) 1 1, .int .i64 1, .int .i64 1, .int .i64 1] 62 (0, 0)) := by
  unfold famW
  refine ⟨?_, ?_, ?_, ?_, ?_, ?_⟩
  · rw [heap_if, if_neg (by simp <;> omega), heap_if, if_neg (by simp <;> omega), heap_if, if_neg (by simp <;> omega), heap_if, if_neg (by simp <;> omega), heap_if, if_neg (by simp <;> omega), heap_if, if_neg (by simp <;> omega), heap_if, if_pos (by simp)]
  · rw [heap_if, if_neg (by simp <;> omega), heap_if, if_neg (by simp <;> omega), heap_if, if_neg (by simp <;> omega), heap_if, if_neg (by simp <;> omega), heap_if, if_pos (by simp)]
  · rw [heap_if, if_neg (by simp <;> omega), heap_if, if_neg (by simp <;> omega), heap_if, if_neg (by simp <;> omega), heap_if, if_pos (by simp)]
  · rw [heap_if, if_neg (by simp <;> omega), heap_if, if_neg (by simp <;> omega), heap_if, if_pos (by simp)]
  · rw [heap_if, if_neg (by simp <;> omega), heap_if, if_pos (by simp)]
  · rw [heap_if, if_pos (by simp)]

theorem isl_lit1 {w : World} {g : Nat} {x : Int} {T : TypeId} (h : w.heap[g]? = some (.cells #[.int .i64 x] T (0, 0))) : IntSl w w.heap.size (.slice (some ⟨g, 0, none⟩) 1 1) 1 (fun i => [x].getD i 0) :=
  intSl_lit (l := [x]) h rfl (Array.getElem?_eq_some_iff.1 h).1 (by simp)

theorem isl_lit2 {w : World} {g : Nat} {x y : Int} {T : TypeId} (h : w.heap[g]? = some (.cells #[.int .i64 x, .int .i64 y] T (0, 0))) : IntSl w w.heap.size (.slice (some ⟨g, 0, none⟩) 2 2) 2 (fun i => [x, y].getD i 0) :=
  intSl_lit (l := [x, y]) h rfl (Array.getElem?_eq_some_iff.1 h).1 (by simp)

theorem famW_ve (w : World) : VeSl (famW w) (famW w).heap.size (.slice (some ⟨w.heap.size + 1 + 1 + 1 + 1 + 1 + 1, 0, none⟩) 5 5) 5 (famP w.heap.size) famB := by
  obtain ⟨h0, h1, h2, h3, h4, h5⟩ := famW_at w
  refine ⟨_, _, rfl, ⟨Nat.le_refl _, by omega⟩, Or.inr ⟨_, 0, rfl, (Array.getElem?_eq_some_iff.1 h5).1, fun j hj => ?_⟩⟩
  match j, hj with
  | 0, _ => exact ⟨cell_at h5 rfl, cell_at h5 rfl, cell_at h5 rfl, cell_at h5 rfl, none, 0, rfl, ⟨Nat.le_refl _, by decide⟩, Or.inl rfl⟩
  | 1, _ => exact ⟨cell_at h5 rfl, cell_at h5 rfl, cell_at h5 rfl, cell_at h5 rfl, isl_lit1 h1⟩
  | 2, _ => exact ⟨cell_at h5 rfl, cell_at h5 rfl, cell_at h5 rfl, cell_at h5 rfl, isl_lit1 h2⟩
  | 3, _ => exact ⟨cell_at h5 rfl, cell_at h5 rfl, cell_at h5 rfl, cell_at h5 rfl, isl_lit2 h3⟩
  | 4, _ => exact ⟨cell_at h5 rfl, cell_at h5 rfl, cell_at h5 rfl, cell_at h5 rfl, isl_lit1 h4⟩

set_option maxHeartbeats 1000000 in
theorem family_any (w : World) : Calls Try.prog 22 #[] w fun e w' => Below w.heap.size w w' ∧ ∃ bl PV, e = .returned (bookV (.slice (some ⟨bl, 0, none⟩) 5 5)) ∧ VeSl w' w'.heap.size (.slice (some ⟨bl, 0, none⟩) 5 5) 5 PV famB := by
  go_enter Try.func22, Try.ntmps22
  go_wp2
  refine bodyPost_ret (results_cell_row rfl _ (famW w) w.heap.size 24 #[.slice (some ⟨w.heap.size + 1 + 1 + 1 + 1 + 1 + 1, 0, none⟩) 5 5] (0, 0) _ rfl (famW_at w).1 Try.underlying24 rfl (by kernel_rfl)) rfl ?_
  exact ⟨famW_below w, _, _, rfl, famW_ve w⟩

end Go.Proofs.Ytmefjflponcfhae
