/- Two lists of ints that a call grows side by side, each in a row of its own. -/
import Derived.Test.YtfcpmpcfbhkacaaBase
import Derived.Maps.AppendAt
namespace Go.Proofs.Ytfcpmpcfbhkacaa
open Go.RowKit
set_option linter.unusedVariables false

theorem grown_of_below {w w' : World} (h : Below w.heap.size w w') (row : Option Nat) : w.grownBy w' row := ⟨h.os, h.tape, h.output, h.size, fun k hk _ => h.block k hk⟩

theorem owns_below {w w' : World} {base : Nat} {e : TypeId} {size : Nat} {v : Value} {n : Nat} {xs : List Value} (h : w.ownsRow base e size v n xs) (hb : Below w.heap.size w w') : w'.ownsRow base e size v n xs := by
  cases hv : v.ownBlock with
  | none => exact h.kept (grown_of_below hb none) (Or.inl hv)
  | some g => exact h.kept (grown_of_below hb none) (Or.inr (by rw [hv]; intro h; cases h))

theorem OwnI.below {w0 wr w' : World} {v : Value} {n : Nat} {C : Nat → Int} (h : OwnI w0 wr v n C) (hb : Below wr.heap.size wr w') : OwnI w0 w' v n C :=
  ⟨owns_below h.1 hb, h.2.trans (hb.mono h.2.size)⟩

theorem OwnI.shape {w0 wr : World} {v : Value} {n : Nat} {C : Nat → Int} (h : OwnI w0 wr v n C) : ∃ ad cap, v = .slice ad n cap := by
  obtain ⟨_, h2⟩ := h.1
  rcases h2 with ⟨h1, h0⟩ | ⟨g, cap, cur, h1, _⟩
  · exact ⟨none, 0, by rw [h0]; exact h1⟩
  · exact ⟨_, _, h1⟩

theorem OwnI.congr {w0 wr : World} {v : Value} {n : Nat} {C D : Nat → Int} (h : OwnI w0 wr v n C) (e : ∀ j, j < n → C j = D j) : OwnI w0 wr v n D := by
  refine ⟨?_, h.2⟩
  have e2 : ((List.range n).map fun j => Value.int .i64 (D j)) = (List.range n).map fun j => Value.int .i64 (C j) := List.map_congr_left fun j hj => by rw [e j (List.mem_range.1 hj)]
  rw [e2]
  exact h.1

theorem OwnI.isl {w0 wr : World} {v : Value} {n : Nat} {C : Nat → Int} (h : OwnI w0 wr v n C) (hn : 1 ≤ n) (hr : n * 8 ≤ 140737488351232) : IntSl wr wr.heap.size v n C := by
  obtain ⟨g, cap, rfl, hc, hrow⟩ := h.row hn
  exact hrow.isl hc hr

theorem contains_own {w0 wr : World} {v : Value} {n : Nat} {C : Nat → Int} (h : OwnI w0 wr v n C) (hr : n * 8 ≤ 140737488351232) (x : Int) :
    Calls Try.prog 34 #[v, .int .i64 x] wr fun e w' => e = .returned (.bool (hasB C n x)) ∧ w' = wr := by
  by_cases h0 : n = 0
  · subst h0
    obtain ⟨ad, cap, rfl⟩ := h.shape
    exact contains_none ad cap x wr
  · obtain ⟨g, cap, rfl, hc, hrow⟩ := h.row (by omega)
    exact contains_any g 0 n cap C x wr hr (fun j hj => by rw [Nat.zero_add]; exact hrow.cell j hj)

/-- two own lists of one length, in rows of their own -/
structure Two (w0 wr : World) (va vb : Value) (r : Nat) (A B : Nat → Int) : Prop where
  a : OwnI w0 wr va r A
  b : OwnI w0 wr vb r B
  ne : va.ownBlock = none ∨ va.ownBlock ≠ vb.ownBlock

theorem Two.nil (w : World) (A B : Nat → Int) : Two w w (.slice none 0 0) (.slice none 0 0) 0 A B := ⟨OwnI.nil _ _, OwnI.nil _ _, Or.inl rfl⟩

theorem Two.below {w0 wr w' : World} {va vb : Value} {r : Nat} {A B : Nat → Int} (h : Two w0 wr va vb r A B) (hb : Below wr.heap.size wr w') : Two w0 w' va vb r A B := ⟨h.a.below hb, h.b.below hb, h.ne⟩

/-- the second list, behind the first one's growth -/
theorem Two.after {w0 wr w1 : World} {va vb va' : Value} {r : Nat} {A B : Nat → Int} {k : Int} (h : Two w0 wr va vb r A B) (o : Obj)
    (ho : w1.ownsRow w0.heap.size 3 1 va' (r + 1) (((List.range r).map fun j => Value.int .i64 (A j)) ++ [.int .i64 k])) (hg : (wr.alloc o).grownBy w1 va.ownBlock)
    (hat : va'.ownBlock = va.ownBlock ∨ va'.ownBlock = some (wr.alloc o).heap.size) :
    OwnI w0 w1 va' (r + 1) (fun j => if j = r then k else A j) ∧ OwnI w0 w1 vb r B ∧ (vb.ownBlock = none ∨ va'.ownBlock ≠ vb.ownBlock) := by
  have hbA : Below w0.heap.size w0 (wr.alloc o) := h.a.2.alloc h.a.2.size o
  have hlo : ∀ g, va.ownBlock = some g → w0.heap.size ≤ g := fun g hgg => (h.a.1.lt g hgg).1
  have hb1 : Below w0.heap.size w0 w1 := hbA.grown hg hbA.size hlo
  have hvb : w1.ownsRow w0.heap.size 3 1 vb r ((List.range r).map fun j => Value.int .i64 (B j)) := by
    refine (h.b.1.alloc o).kept hg ?_
    rcases h.ne with h1 | h1
    · rw [h1]
      cases hv : vb.ownBlock with
      | none => exact Or.inl rfl
      | some g => exact Or.inr (by intro h; cases h)
    · exact Or.inr (Ne.symm h1)
  refine ⟨⟨?_, hb1⟩, ⟨hvb, hb1⟩, ?_⟩
  · have e : ((List.range (r + 1)).map fun j => Value.int .i64 (if j = r then k else A j)) = ((List.range r).map fun j => Value.int .i64 (A j)) ++ [.int .i64 k] := by
      rw [List.range_succ, List.map_append]
      congr 1
      · exact List.map_congr_left fun j hj => by have := List.mem_range.1 hj; rw [if_neg (by omega)]
      · simp
    rw [e]
    exact ho
  · cases hv : vb.ownBlock with
    | none => exact Or.inl rfl
    | some g =>
      right
      have hlt := (h.b.1.lt g hv).2
      rcases hat with h1 | h1
      · rw [h1]
        rcases h.ne with h2 | h2
        · rw [h2]; intro h; cases h
        · rw [← hv]; exact h2
      · rw [h1]
        intro h2
        injection h2 with h2
        simp at h2
        omega

/-- both grown by one -/
theorem Two.both {w0 w2 w3 : World} {va vb vb' : Value} {r : Nat} {A B : Nat → Int} {v : Int} (ha : OwnI w0 w2 va (r + 1) A) (hb : OwnI w0 w2 vb r B) (hne : vb.ownBlock = none ∨ va.ownBlock ≠ vb.ownBlock) (o : Obj)
    (ho : w3.ownsRow w0.heap.size 3 1 vb' (r + 1) (((List.range r).map fun j => Value.int .i64 (B j)) ++ [.int .i64 v])) (hg : (w2.alloc o).grownBy w3 vb.ownBlock)
    (hat : vb'.ownBlock = vb.ownBlock ∨ vb'.ownBlock = some (w2.alloc o).heap.size) :
    Two w0 w3 va vb' (r + 1) A (fun j => if j = r then v else B j) := by
  have hbA : Below w0.heap.size w0 (w2.alloc o) := hb.2.alloc hb.2.size o
  have hlo : ∀ g, vb.ownBlock = some g → w0.heap.size ≤ g := fun g hgg => (hb.1.lt g hgg).1
  have hb1 : Below w0.heap.size w0 w3 := hbA.grown hg hbA.size hlo
  have hva : w3.ownsRow w0.heap.size 3 1 va (r + 1) ((List.range (r + 1)).map fun j => Value.int .i64 (A j)) := by
    refine (ha.1.alloc o).kept hg ?_
    rcases hne with h1 | h1
    · rw [h1]
      cases hv : va.ownBlock with
      | none => exact Or.inl rfl
      | some g => exact Or.inr (by intro h; cases h)
    · exact Or.inr h1
  refine ⟨⟨hva, hb1⟩, ⟨?_, hb1⟩, ?_⟩
  · have e : ((List.range (r + 1)).map fun j => Value.int .i64 (if j = r then v else B j)) = ((List.range r).map fun j => Value.int .i64 (B j)) ++ [.int .i64 v] := by
      rw [List.range_succ, List.map_append]
      congr 1
      · exact List.map_congr_left fun j hj => by have := List.mem_range.1 hj; rw [if_neg (by omega)]
      · simp
    rw [e]
    exact ho
  · cases hv : va.ownBlock with
    | none => exact Or.inl rfl
    | some g =>
      right
      have hlt := (ha.1.lt g hv).2
      rcases hat with h1 | h1
      · rw [h1]
        rcases hne with h2 | h2
        · rw [h2]; intro h; cases h
        · rw [← hv]; exact h2
      · rw [h1]
        intro h2
        injection h2 with h2
        simp at h2
        omega

end Go.Proofs.Ytfcpmpcfbhkacaa
