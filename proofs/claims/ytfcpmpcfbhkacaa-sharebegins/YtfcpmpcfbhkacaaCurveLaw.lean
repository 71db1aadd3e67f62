/- The closed fact that chapter 2's laws ask first, of a package that does what it owes. -/
import Derived.Test.YtfcpmpcfbhkacaaCurveSpec
namespace Go.Proofs.Ytfcpmpcfbhkacaa
open Go.RowKit CurveMath
set_option linter.unusedVariables false

theorem below_two (w : World) (o1 o2 : Obj) : Below w.heap.size w ((w.alloc o1).alloc o2) :=
  ((Below.refl _ _).alloc (Nat.le_refl _) _).alloc (by simp) _

/-- At, of two lists that were just written out -/
theorem at_two (hA : AtSpec) (l1 l2 : List Int) (t v e : Int) (T : TypeId) (h1 : l1.length ≤ 1000) (h2 : l2.length ≤ 1000)
    (hv : atV l1.length l2.length (fun j => l1.getD j 0) (fun j => l2.getD j 0) t = v) (he : atE l1.length l2.length (fun j => l1.getD j 0) (fun j => l2.getD j 0) t = e) (w : World) :
    Calls Try.prog 59 #[.slice (some ⟨w.heap.size, 0, none⟩) l1.length l1.length, .slice (some ⟨w.heap.size + 1, 0, none⟩) l2.length l2.length, .int .i64 t]
      ((w.alloc (.cells (l1.map (Value.int .i64)).toArray T)).alloc (.cells (l2.map (Value.int .i64)).toArray T)) fun e' w' => e' = .returned (.tuple #[.int .i64 v, .int .i64 e]) ∧ Below w.heap.size w w' := by
  refine (hA _ _ l1.length l2.length _ _ t _ (intSl_lit (heap_two_old w _ _) rfl (by simp; omega) h1) (intSl_lit (heap_two_new w _ _) rfl (by simp) h2)).mono ?_
  rintro e' w' ⟨rfl, hb⟩
  refine ⟨by rw [hv, he], (below_two w _ _).trans (hb.mono (by simp; omega))⟩

theorem at_one (hA : AtSpec) (w : World) :
    Calls Try.prog 59 #[.slice (some ⟨w.heap.size, 0, none⟩) 2 2, .slice (some ⟨w.heap.size + 1, 0, none⟩) 2 2, .int .i64 2]
      ((w.alloc (.cells #[.int .i64 0, .int .i64 1] 3)).alloc (.cells #[.int .i64 5, .int .i64 7] 3)) fun e w' => e = .returned (.tuple #[.int .i64 9, .int .i64 0]) ∧ Below w.heap.size w w' :=
  at_two hA [0, 1] [5, 7] 2 9 0 3 (by decide) (by decide) (by decide +kernel) (by decide +kernel) w

theorem at_three (hA : AtSpec) (w : World) :
    Calls Try.prog 59 #[.slice (some ⟨w.heap.size, 0, none⟩) 3 3, .slice (some ⟨w.heap.size + 1, 0, none⟩) 3 3, .int .i64 5]
      ((w.alloc (.cells #[.int .i64 0, .int .i64 1, .int .i64 2] 3)).alloc (.cells #[.int .i64 0, .int .i64 1, .int .i64 4] 3)) fun e w' => e = .returned (.tuple #[.int .i64 25, .int .i64 0]) ∧ Below w.heap.size w w' :=
  at_two hA [0, 1, 2] [0, 1, 4] 5 25 0 3 (by decide) (by decide) (by decide +kernel) (by decide +kernel) w

theorem at_twice (hA : AtSpec) (w : World) :
    Calls Try.prog 59 #[.slice (some ⟨w.heap.size, 0, none⟩) 2 2, .slice (some ⟨w.heap.size + 1, 0, none⟩) 2 2, .int .i64 2]
      ((w.alloc (.cells #[.int .i64 1, .int .i64 1] 3)).alloc (.cells #[.int .i64 5, .int .i64 7] 3)) fun e w' => e = .returned (.tuple #[.int .i64 0, .int .i64 5]) ∧ Below w.heap.size w w' :=
  at_two hA [1, 1] [5, 7] 2 0 5 3 (by decide) (by decide) (by decide +kernel) (by decide +kernel) w

end Go.Proofs.Ytfcpmpcfbhkacaa
