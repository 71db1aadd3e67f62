/- Several texts of one proof, in their order. -/
import Derived.Test.YtdhefajaekackaaPlSum6
import Derived.Test.YtdhefajaekackaaPlSum4
import Derived.Lib.SliceRun
import Derived.Laws.ResultCell
import Derived.Laws.Rows

/- Own lists of ints, as lists. -/
namespace Go.Proofs.Ytdhefajaekackaa

open Go.RowKit
set_option linter.unusedVariables false

/-- an own list of ints, as a list -/
def OwnL (w0 wr : World) (v : Value) (l : List Int) : Prop := wr.ownsRow w0.heap.size 3 1 v l.length (l.map (Value.int .i64)) ∧ Below w0.heap.size w0 wr

theorem map_getD (l : List Int) : ((List.range l.length).map fun j => Value.int .i64 (l.getD j 0)) = l.map (Value.int .i64) := by
  apply List.ext_getElem (by simp)
  intro j h1 h2
  have hj : j < l.length := by simpa using h1
  simp [List.getD_eq_getElem?_getD, hj]

theorem OwnL.ownI {w0 wr : World} {v : Value} {l : List Int} (h : OwnL w0 wr v l) : OwnI w0 wr v l.length (fun j => l.getD j 0) := by
  refine ⟨?_, h.2⟩
  rw [map_getD]
  exact h.1

theorem OwnL.nil (w : World) : OwnL w w (.slice none 0 0) [] := ⟨World.ownsRow_nil _ _ _ _, Below.refl _ _⟩

theorem OwnL.up {w0 wr w' : World} {v : Value} {l : List Int} (h : OwnL w0 wr v l) (hb : Below wr.heap.size wr w') : OwnL w0 w' v l := ⟨owns_below h.1 hb, h.2.trans (hb.mono h.2.size)⟩

theorem OwnL.push {w0 wr w1 : World} {v v' : Value} {l : List Int} {x : Int} {o : Obj} (h : OwnL w0 wr v l)
    (ho : w1.ownsRow w0.heap.size 3 1 v' (l.length + 1) (l.map (Value.int .i64) ++ [.int .i64 x])) (hg : (wr.alloc o).grownBy w1 v.ownBlock) : OwnL w0 w1 v' (l ++ [x]) := by
  refine ⟨?_, ?_⟩
  · rw [List.length_append, List.map_append]
    exact ho
  · have hbA : Below w0.heap.size w0 (wr.alloc o) := h.2.alloc h.2.size o
    exact hbA.grown hg hbA.size (fun g hgg => (h.1.lt g hgg).1)

theorem OwnL.isl {w0 wr : World} {v : Value} {l : List Int} (h : OwnL w0 wr v l) (hr : l.length * 8 ≤ 140737488351232) : IntSl wr wr.heap.size v l.length (fun j => l.getD j 0) := by
  by_cases h0 : l.length = 0
  · obtain ⟨ad, cap, e⟩ := h.ownI.shape
    obtain ⟨_, h2⟩ := h.1
    rcases h2 with ⟨e1, _⟩ | ⟨g, cp, cur, e1, _, _, hc, _⟩
    · rw [e1, h0]; exact ⟨none, 0, rfl, ⟨Nat.le_refl _, by omega⟩, Or.inl rfl⟩
    · exact ⟨_, cp, e1, ⟨hc, hr⟩, Or.inl h0⟩
  · exact h.ownI.isl (by omega) hr

/-- a list of ints that was answered -/
def LiPost (w : World) (l : List Int) (er : Int) (e : Ending) (w' : World) : Prop :=
  Below w.heap.size w w' ∧ ∃ vo, e = .returned (.tuple #[vo, .int .i64 er]) ∧ IntSl w' w'.heap.size vo l.length (fun j => l.getD j 0)

theorem liPost_nil {w w' : World} {er : Int} (hb : Below w.heap.size w w') : LiPost w [] er (.returned (.tuple #[.slice none 0 0, .int .i64 er])) w' :=
  ⟨hb, _, rfl, none, 0, rfl, ⟨Nat.le_refl _, by simp⟩, Or.inl rfl⟩

end Go.Proofs.Ytdhefajaekackaa

/- What chapter 5's reference answers: what is behind a version; which are heads? -/
namespace Go.Proofs.Ytdhefajaekackaa

open Go.RowKit
set_option linter.unusedVariables false

end Go.Proofs.Ytdhefajaekackaa

/- A region that draws its order, in which, behind what only reads, two operations can come up in either order; then one at a time alone. Plain: it speaks of no program. -/
namespace Go.Proofs.Ytdhefajaekackaa

set_option linter.unusedVariables false

variable {P : Program} {ops : Array Oper} {md : Region.Mode} {D : World → Prop}

end Go.Proofs.Ytdhefajaekackaa

/- A region that draws its order, walked through all orders of what lays memory or calls, what only reads taken first. Plain: it speaks of no program. -/
namespace Go.Proofs.Ytdhefajaekackaa

set_option linter.unusedVariables false

variable {P : Program} {D : World → Prop}

end Go.Proofs.Ytdhefajaekackaa

/- Lists of versions that a call makes itself: cloned, grown by one. -/
namespace Go.Proofs.Ytdhefajaekackaa

open Go.RowKit
set_option linter.unusedVariables false

/-- cell number i of a list of versions -/
def cellV (PV : Nat → Value) (b : Bk) (i : Nat) : Value :=
  if i % 4 = 0 then PV (i / 4) else if i % 4 = 1 then .int .i64 (b.nd (i / 4)) else if i % 4 = 2 then .int .i64 (b.of (i / 4)) else .int .i64 (b.sz (i / 4))
def flatV (n : Nat) (PV : Nat → Value) (b : Bk) : List Value := (List.range (n * 4)).map (cellV PV b)

/-- a list of versions of the call's own -/
def OwnV (w0 wr : World) (v : Value) (n : Nat) (PV : Nat → Value) (b : Bk) : Prop := wr.ownsRow w0.heap.size 29 4 v n (flatV n PV b) ∧ Below w0.heap.size w0 wr

theorem OwnV.nil (w : World) (PV : Nat → Value) (b : Bk) : OwnV w w (.slice none 0 0) 0 PV b := ⟨World.ownsRow_nil _ _ _ _, Below.refl _ _⟩

theorem OwnV.up {w0 wr w' : World} {v : Value} {n : Nat} {PV : Nat → Value} {b : Bk} (h : OwnV w0 wr v n PV b) (hb : Below wr.heap.size wr w') : OwnV w0 w' v n PV b := ⟨owns_below h.1 hb, h.2.trans (hb.mono h.2.size)⟩

end Go.Proofs.Ytdhefajaekackaa
