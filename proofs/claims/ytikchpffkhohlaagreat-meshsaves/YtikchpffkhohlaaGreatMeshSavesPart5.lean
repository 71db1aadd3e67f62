/- Several texts of one proof, in their order. -/
import Derived.Test.YtikchpffkhohlaaGreatMSum14
import Derived.Test.YtikchpffkhohlaaGreatMeshSavesPart3
import Derived.Deep.Grids

namespace Go.Proofs.YtikchpffkhohlaaGreat

open Go.ChangeShapes Go.WideShapes Go.ChangeAt Go.RowKit Go.Deep
set_option linter.unusedVariables false

theorem bools_open {H : Type} {enc : TypeId × Value → H} {W : World} {T : TypeId} {a : Option Addr} {len cap : Nat} {d : DataW H} {p : List MemPlace} (ht : Tryz.prog.underlying T = some (.slice 4))
    (h : DataW.Trod enc Tryz.prog W 0 (fun _ => true) true T (.slice a len cap) d p) : ∃ G, BoSl W W.heap.size (.slice a len cap) len G := by
  obtain ⟨fuel, hf⟩ := h
  rcases open_bools ht Tryz.underlying4 Tryz.cellsBool hf with ⟨hcs, _⟩ | ⟨x, l, c, B, hcs, _, hl, hm, hx, hcell⟩
  · simp [Value.cells] at hcs
    obtain ⟨rfl, rfl, rfl⟩ := hcs
    exact ⟨fun _ => false, none, 0, rfl, Or.inl rfl⟩
  · simp [Value.cells] at hcs
    obtain ⟨rfl, rfl, rfl⟩ := hcs
    refine ⟨B, _, _, rfl, ?_⟩
    by_cases h0 : len = 0
    · exact Or.inl h0
    · have hc0 := hcell 0 (by omega)
      obtain ⟨b, off, spot⟩ := x
      have hspot : spot = none := by simpa [Addr.add] using World.cell?_spot hc0
      subst hspot
      have hc : ∀ j, j < len → W.cell? ⟨b, off + j, none⟩ = some (.bool (B j)) := fun j hj => by rw [← Go.WideShapes.add_plain]; exact hcell j (by omega)
      exact Or.inr ⟨b, off, rfl, cell_lt (hc 0 (by omega)), hc⟩

end Go.Proofs.YtikchpffkhohlaaGreat
