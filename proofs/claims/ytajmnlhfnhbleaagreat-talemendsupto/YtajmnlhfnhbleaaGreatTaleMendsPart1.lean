/- Several texts of one proof, in their order. -/
import Derived.Test.YtajmnlhfnhbleaaGreatTSum12
import Derived.Test.YtajmnlhfnhbleaaGreatTSum31

namespace Go.Proofs.YtajmnlhfnhbleaaGreat

open Go.RowKit CurveMath
set_option linter.unusedVariables false

theorem hap_boxed (u : World) (x : Hp) (vd vp : Value) :
    ∃ V g, World.alloc u (.cells #[.int .i64 0, .int .i64 0, .int .i64 0, .slice none 0 0, .slice none 0 0, .int .i64 0, .int .i64 0] 30) = V ∧ u.heap.size = g ∧
      (V.cell? ⟨g, 0, none⟩ = some (.int .i64 0) ∧ V.cell? ⟨g, 1, none⟩ = some (.int .i64 0) ∧ V.cell? ⟨g, 2, none⟩ = some (.int .i64 0) ∧ V.cell? ⟨g, 3, none⟩ = some (.slice none 0 0) ∧ V.cell? ⟨g, 4, none⟩ = some (.slice none 0 0) ∧ V.cell? ⟨g, 5, none⟩ = some (.int .i64 0) ∧ V.cell? ⟨g, 6, none⟩ = some (.int .i64 0)) ∧
      (V.frozen? ⟨g, 0, none⟩ = false ∧ V.frozen? ⟨g, 1, none⟩ = false ∧ V.frozen? ⟨g, 2, none⟩ = false ∧ V.frozen? ⟨g, 3, none⟩ = false ∧ V.frozen? ⟨g, 4, none⟩ = false ∧ V.frozen? ⟨g, 5, none⟩ = false ∧ V.frozen? ⟨g, 6, none⟩ = false) ∧
      ∃ Y, ((((((V.setCell ⟨g, 0, none⟩ (.int .i64 x.kd)).setCell ⟨g, 1, none⟩ (.int .i64 x.N)).setCell ⟨g, 2, none⟩ (.int .i64 x.M)).setCell ⟨g, 3, none⟩ vd).setCell ⟨g, 4, none⟩ vp).setCell ⟨g, 5, none⟩ (.int .i64 x.need)).setCell ⟨g, 6, none⟩ (.int .i64 x.of) = Y ∧ Below u.heap.size u Y ∧
        Y.heap[g]? = some (.cells #[.int .i64 x.kd, .int .i64 x.N, .int .i64 x.M, vd, vp, .int .i64 x.need, .int .i64 x.of] 30 (0, 0)) := by
  have hb1 := below_alloc u (.cells #[.int .i64 0, .int .i64 0, .int .i64 0, .slice none 0 0, .slice none 0 0, .int .i64 0, .int .i64 0] 30)
  have k0 := heap_alloc_new u (.cells #[.int .i64 0, .int .i64 0, .int .i64 0, .slice none 0 0, .slice none 0 0, .int .i64 0, .int .i64 0] 30)
  exact ⟨_, _, rfl, rfl, seven_atC k0, ⟨frozen_at (i := 0) k0, frozen_at (i := 1) k0, frozen_at (i := 2) k0, frozen_at (i := 3) k0, frozen_at (i := 4) k0, frozen_at (i := 5) k0, frozen_at (i := 6) k0⟩, _, rfl, put7_below hb1 (Nat.le_refl _), put7_whole k0 _ _ _ _ _ _ _⟩

end Go.Proofs.YtajmnlhfnhbleaaGreat
