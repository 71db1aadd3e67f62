/- What chapter 3's reference makes: the places, a share of a content, all its shares. -/
import Derived.Test.YtcdaknionmffgacShareRef
import Derived.Test.YtcdaknionmffgacShareOwn
import Derived.Test.YtcdaknionmffgacTwo
import Derived.Test.YtcdaknionmffgacMixedLast
namespace Go.Proofs.Ytcdaknionmffgac
open Go.RowKit CurveMath
set_option linter.unusedVariables false

theorem OwnI.pushA {w0 wr w1 : World} {v v' : Value} {k : Nat} {C : Nat → Int} {x : Int} (h : OwnI w0 wr v k C) (o : Obj)
    (ho : w1.ownsRow w0.heap.size 3 1 v' (k + 1) (((List.range k).map fun j => Value.int .i64 (C j)) ++ [.int .i64 x])) (hg : (wr.alloc o).grownBy w1 v.ownBlock) (hx : C k = x) : OwnI w0 w1 v' (k + 1) C :=
  h.push o 0 ho hg hx

/-- what the making of a share holds: the plan, the room for the answer, the share so far -/
structure SoInv (w wr : World) (k d : Nat) (vs : Value) (r : Nat) (C : Nat → Int) : Prop where
  below : Below w.heap.size w wr
  size : w.heap.size + 3 ≤ wr.heap.size
  p0 : wr.cell? ⟨w.heap.size, 0, none⟩ = some (.int .i64 (d : Int))
  q : wr.heap[w.heap.size + 1]? = some (.cells #[.int .i64 0, .slice none 0 0] 32)
  s0 : wr.cell? ⟨w.heap.size + 1 + 1, 0, none⟩ = some (.int .i64 (k : Int))
  s1 : wr.cell? ⟨w.heap.size + 1 + 1, 1, none⟩ = some vs
  g1 : wr.frozen? ⟨w.heap.size + 1 + 1, 1, none⟩ = false
  own : wr.ownsRow (w.heap.size + 3) 3 1 vs r ((List.range r).map fun j => Value.int .i64 (C j))

theorem SoInv.up {w wr w' : World} {k d r : Nat} {vs : Value} {C : Nat → Int} (h : SoInv w wr k d vs r C) (hb : Below wr.heap.size wr w') : SoInv w w' k d vs r C :=
  ⟨h.below.trans (hb.mono h.below.size), Nat.le_trans h.size hb.size, by rw [hb.cell (cell_lt h.p0)]; exact h.p0, by rw [hb.block _ (by have := h.size; omega)]; exact h.q, by rw [hb.cell (cell_lt h.s0)]; exact h.s0, by rw [hb.cell (cell_lt h.s1)]; exact h.s1, by rw [hb.frozen (cell_lt h.s1)]; exact h.g1, owns_below h.own hb⟩

theorem owns_shape {w : World} {base : Nat} {e : TypeId} {sz n : Nat} {v : Value} {xs : List Value} (h : w.ownsRow base e sz v n xs) : ∃ ad cap, v = .slice ad n cap := by
  obtain ⟨_, h2⟩ := h
  rcases h2 with ⟨h1, h0⟩ | ⟨g, cap, cur, h1, _⟩
  · exact ⟨none, 0, by rw [h0]; exact h1⟩
  · exact ⟨_, _, h1⟩

/-- one number more, and stored -/
theorem SoInv.push {w wr w1 : World} {k d r : Nat} {vs vs' : Value} {C : Nat → Int} {x : Int} {o : Obj} (h : SoInv w wr k d vs r C)
    (ho : w1.ownsRow (w.heap.size + 3) 3 1 vs' (r + 1) (((List.range r).map fun j => Value.int .i64 (C j)) ++ [.int .i64 x])) (hg : (wr.alloc o).grownBy w1 vs.ownBlock) (hx : C r = x) :
    SoInv w (w1.setCell ⟨w.heap.size + 1 + 1, 1, none⟩ vs') k d vs' (r + 1) C ∧ w1.cell? ⟨w.heap.size + 1 + 1, 1, none⟩ = some vs ∧ w1.frozen? ⟨w.heap.size + 1 + 1, 1, none⟩ = false ∧ w1.cell? ⟨w.heap.size, 0, none⟩ = some (.int .i64 (d : Int)) := by
  have h2 := h.up (below_alloc wr o)
  have hlo : ∀ g, vs.ownBlock = some g → w.heap.size + 3 ≤ g := fun g hgg => (h.own.lt g hgg).1
  have hne : ∀ b, b < w.heap.size + 3 → some b ≠ vs.ownBlock := fun b hb e => by have := hlo b e.symm; omega
  have hs2 := h2.size
  have hcell : ∀ (a : Addr) (v : Value), a.block < w.heap.size + 3 → (wr.alloc o).cell? a = some v → w1.cell? a = some v := fun a v ha hv => hg.cell hv (hne _ ha)
  have hfro : ∀ (a : Addr), a.block < w.heap.size + 3 → (wr.alloc o).frozen? a = false → w1.frozen? a = false := fun a ha hv => by
    rw [World.frozen?_of_block (hg.block a.block (by omega) (hne _ ha))]
    exact hv
  have hb1 : Below w.heap.size w w1 := h2.below.grown hg h2.below.size (fun g hgg => by have := hlo g hgg; omega)
  have c1 := hcell _ _ (by show w.heap.size + 1 + 1 < _; omega) h2.s1
  have hso : ∀ (a : Addr) (v : Value), a ≠ ⟨w.heap.size + 1 + 1, 1, none⟩ → w1.cell? a = some v → (w1.setCell ⟨w.heap.size + 1 + 1, 1, none⟩ vs').cell? a = some v := fun a v ha hv => by
    rw [World.cell?_setCell_other _ _ _ _ (fun e => ha e.symm)]; exact hv
  refine ⟨⟨hb1.setCell (p := ⟨w.heap.size + 1 + 1, 1, none⟩) (by show w.heap.size ≤ w.heap.size + 1 + 1; omega) _, ?_, ?_, ?_, ?_, ?_, ?_, ?_⟩, c1, hfro _ (by show w.heap.size + 1 + 1 < _; omega) h2.g1, hcell _ _ (by show w.heap.size < _; omega) h2.p0⟩
  · have := hg.size
    simp only [World.setCell, Array.size_modify]
    omega
  · exact hso _ _ (by intro e; injection e with e1; omega) (hcell _ _ (by show w.heap.size < _; omega) h2.p0)
  · have h3 := hg.block (w.heap.size + 1) (by omega) (hne _ (by omega))
    rw [h2.q] at h3
    simp [World.setCell, Array.getElem?_modify, h3]
  · exact hso _ _ (by intro e; injection e with e1 e2; omega) (hcell _ _ (by show w.heap.size + 1 + 1 < _; omega) h2.s0)
  · exact World.cell?_setCell_same _ _ _ c1
  · rw [World.frozen?_setCell]; exact hfro _ (by show w.heap.size + 1 + 1 < _; omega) h2.g1
  · have e : ((List.range (r + 1)).map fun j => Value.int .i64 (C j)) = ((List.range r).map fun j => Value.int .i64 (C j)) ++ [.int .i64 x] := by
      rw [List.range_succ, List.map_append]
      simp only [List.map_cons, List.map_nil, hx]
    rw [e]
    have hkeep : w1.grownBy (w1.setCell ⟨w.heap.size + 1 + 1, 1, none⟩ vs') (some (w.heap.size + 1 + 1)) := grownBy_set ⟨rfl, rfl, rfl, Nat.le_refl _, fun _ _ _ => rfl⟩
    cases hv : vs'.ownBlock with
    | none => exact ho.kept hkeep (Or.inl hv)
    | some g => exact ho.kept hkeep (Or.inr (by rw [hv]; intro e; injection e with e; have := (ho.lt g hv).1; omega))

/-- an own list of ints, at block B or above -/
structure OwnB (B : Nat) (wr : World) (v : Value) (n : Nat) (C : Nat → Int) : Prop where
  own : wr.ownsRow B 3 1 v n ((List.range n).map fun j => Value.int .i64 (C j))

theorem OwnB.isl {B : Nat} {wr : World} {v : Value} {n : Nat} {C : Nat → Int} (h : OwnB B wr v n C) (hn : 1 ≤ n) (hr : n * 8 ≤ 140737488351232) : IntSl wr wr.heap.size v n C := by
  obtain ⟨hl, h2⟩ := h.own
  rcases h2 with ⟨_, h0⟩ | ⟨g, cap, cur, rfl, hg, hh, hc1, hc2, hsz, hcur⟩
  · omega
  · refine ⟨_, cap, rfl, ⟨hc1, hr⟩, Or.inr ⟨g, 0, rfl, ?_, fun j hj => ?_⟩⟩
    · rcases Nat.lt_or_ge g wr.heap.size with h1 | h1
      · exact h1
      · rw [Array.getElem?_eq_none h1] at hh; cases hh
    · rw [Nat.zero_add]
      have h3 : ((List.range n).map fun j => Value.int .i64 (C j))[j]? = some (.int .i64 (C j)) := by simp [hj]
      rw [← hcur, List.getElem?_take, if_pos (by omega)] at h3
      exact cell_at hh (by simpa using h3)

/-- a share of a content -/
def ShareIs (w w' : World) (k : Int) (R : Nat) (X : Nat → Int) (e : Ending) : Prop := ∃ V, e = .returned (shareV k V) ∧ IntSl w' w'.heap.size V R X ∧ Below w.heap.size w w' ∧ Above w.heap.size V

end Go.Proofs.Ytcdaknionmffgac
