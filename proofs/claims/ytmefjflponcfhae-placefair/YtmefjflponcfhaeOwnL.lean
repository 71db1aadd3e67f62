/- Own lists of ints, as lists. -/
import Derived.Test.YtmefjflponcfhaeTwo
namespace Go.Proofs.Ytmefjflponcfhae
open Go.RowKit
set_option linter.unusedVariables false

theorem owns_base {W : World} {base base' : Nat} {e : TypeId} {size : Nat} {v : Value} {k : Nat} {xs : List Value} (h : W.ownsRow base e size v k xs) (hb : base' ≤ base) : W.ownsRow base' e size v k xs := by
  obtain ⟨h1, h2⟩ := h
  refine ⟨h1, ?_⟩
  rcases h2 with h2 | ⟨g, cap, cur, hv, hg, hr⟩
  · exact Or.inl h2
  · exact Or.inr ⟨g, cap, cur, hv, Nat.le_trans hb hg, hr⟩

/-- an own list of ints, as a list -/
def OwnL (w0 wr : World) (v : Value) (l : List Int) : Prop := wr.ownsRow w0.heap.size 3 1 v l.length (l.map (Value.int .i64)) ∧ Below w0.heap.size w0 wr

theorem map_getD (l : List Int) : ((List.range l.length).map fun j => Value.int .i64 (l.getD j 0)) = l.map (Value.int .i64) := by
  apply List.ext_getElem (by simp)
  intro j h1 h2
  have hj : j < l.length := by simpa using h1
  simp [List.getD_eq_getElem?_getD, hj]

theorem OwnL.ownI {w0 wr : World} {v : Value} {l : List Int} (h : OwnL w0 wr v l) : OwnI w0 wr v l.length (fun j => l.getD j 0) := by
  refine ⟨?_, h.2⟩
  rw [map_getD]
  exact h.1

theorem OwnL.nil (w : World) : OwnL w w (.slice none 0 0) [] := ⟨World.ownsRow_nil _ _ _ _, Below.refl _ _⟩

theorem OwnL.up {w0 wr w' : World} {v : Value} {l : List Int} (h : OwnL w0 wr v l) (hb : Below wr.heap.size wr w') : OwnL w0 w' v l := ⟨owns_below h.1 hb, h.2.trans (hb.mono h.2.size)⟩

theorem OwnL.push {w0 wr w1 : World} {v v' : Value} {l : List Int} {x : Int} {o : Obj} (h : OwnL w0 wr v l)
    (ho : w1.ownsRow w0.heap.size 3 1 v' (l.length + 1) (l.map (Value.int .i64) ++ [.int .i64 x])) (hg : (wr.alloc o).grownBy w1 v.ownBlock) : OwnL w0 w1 v' (l ++ [x]) := by
  refine ⟨?_, ?_⟩
  · rw [List.length_append, List.map_append]
    exact ho
  · have hbA : Below w0.heap.size w0 (wr.alloc o) := h.2.alloc h.2.size o
    exact hbA.grown hg hbA.size (fun g hgg => (h.1.lt g hgg).1)

theorem OwnL.isl {w0 wr : World} {v : Value} {l : List Int} (h : OwnL w0 wr v l) (hr : l.length * 8 ≤ 140737488351232) : IntSl wr wr.heap.size v l.length (fun j => l.getD j 0) := by
  by_cases h0 : l.length = 0
  · obtain ⟨ad, cap, e⟩ := h.ownI.shape
    obtain ⟨_, h2⟩ := h.1
    rcases h2 with ⟨e1, _⟩ | ⟨g, cp, cur, e1, _, _, hc, _⟩
    · rw [e1, h0]; exact ⟨none, 0, rfl, ⟨Nat.le_refl _, by omega⟩, Or.inl rfl⟩
    · exact ⟨_, cp, e1, ⟨hc, hr⟩, Or.inl h0⟩
  · exact h.ownI.isl (by omega) hr

/-- a list of ints that was answered -/
def LiPost (w : World) (l : List Int) (er : Int) (e : Ending) (w' : World) : Prop :=
  Below w.heap.size w w' ∧ ∃ vo, e = .returned (.tuple #[vo, .int .i64 er]) ∧ IntSl w' w'.heap.size vo l.length (fun j => l.getD j 0)

theorem liPost_nil {w w' : World} {er : Int} (hb : Below w.heap.size w w') : LiPost w [] er (.returned (.tuple #[.slice none 0 0, .int .i64 er])) w' :=
  ⟨hb, _, rfl, none, 0, rfl, ⟨Nat.le_refl _, by simp⟩, Or.inl rfl⟩

end Go.Proofs.Ytmefjflponcfhae
