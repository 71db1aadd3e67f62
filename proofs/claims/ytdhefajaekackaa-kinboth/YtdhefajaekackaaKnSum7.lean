/- Several texts of one proof, in their order. -/
import Derived.Test.YtdhefajaekackaaKnSum6
import Derived.Test.YtdhefajaekackaaKnSum5
import Derived.Lib.SliceRun
import Derived.Laws.ResultCell
import Derived.Laws.Rows

/- A region that draws its order, in which, behind what only reads, two operations can come up in either order; then one at a time alone. Plain: it speaks of no program. -/
namespace Go.Proofs.Ytdhefajaekackaa

set_option linter.unusedVariables false

variable {P : Program} {ops : Array Oper} {md : Region.Mode} {D : World → Prop}

end Go.Proofs.Ytdhefajaekackaa

/- A region that draws its order, walked through all orders of what lays memory or calls, what only reads taken first. Plain: it speaks of no program. -/
namespace Go.Proofs.Ytdhefajaekackaa

set_option linter.unusedVariables false

variable {P : Program} {D : World → Prop}

end Go.Proofs.Ytdhefajaekackaa

/- Lists of versions that a call makes itself: cloned, grown by one. -/
namespace Go.Proofs.Ytdhefajaekackaa

open Go.RowKit
set_option linter.unusedVariables false

/-- cell number i of a list of versions -/
def cellV (PV : Nat → Value) (b : Bk) (i : Nat) : Value :=
  if i % 4 = 0 then PV (i / 4) else if i % 4 = 1 then .int .i64 (b.nd (i / 4)) else if i % 4 = 2 then .int .i64 (b.of (i / 4)) else .int .i64 (b.sz (i / 4))
def flatV (n : Nat) (PV : Nat → Value) (b : Bk) : List Value := (List.range (n * 4)).map (cellV PV b)

theorem flatV_len (n : Nat) (PV : Nat → Value) (b : Bk) : (flatV n PV b).length = n * 4 := by simp [flatV]

theorem flatV_get (n : Nat) (PV : Nat → Value) (b : Bk) (i : Nat) : (flatV n PV b)[i]? = if i < n * 4 then some (cellV PV b i) else none := by
  unfold flatV
  by_cases h : i < n * 4
  · simp [h]
  · simp [h]

theorem flatV_congr {n : Nat} {PV PV' : Nat → Value} {b b' : Bk} (h : ∀ j, j < n → PV' j = PV j ∧ b'.nd j = b.nd j ∧ b'.of j = b.of j ∧ b'.sz j = b.sz j) : flatV n PV' b' = flatV n PV b := by
  refine List.map_congr_left fun i hi => ?_
  have hi' := List.mem_range.1 hi
  obtain ⟨h1, h2, h3, h4⟩ := h (i / 4) (by omega)
  unfold cellV
  rw [h1, h2, h3, h4]

theorem flatV_succ (n : Nat) (PV : Nat → Value) (b : Bk) : flatV (n + 1) PV b = flatV n PV b ++ [PV n, .int .i64 (b.nd n), .int .i64 (b.of n), .int .i64 (b.sz n)] := by
  have e : (n + 1) * 4 = n * 4 + 1 + 1 + 1 + 1 := by omega
  unfold flatV
  rw [e, List.range_succ, List.range_succ, List.range_succ, List.range_succ]
  simp only [List.map_append, List.map_cons, List.map_nil, List.append_assoc, List.cons_append, List.nil_append]
  have c0 : cellV PV b (n * 4) = PV n := by unfold cellV; rw [if_pos (by omega), show n * 4 / 4 = n by omega]
  have c1 : cellV PV b (n * 4 + 1) = .int .i64 (b.nd n) := by unfold cellV; rw [if_neg (by omega), if_pos (by omega), show (n * 4 + 1) / 4 = n by omega]
  have c2 : cellV PV b (n * 4 + 1 + 1) = .int .i64 (b.of n) := by unfold cellV; rw [if_neg (by omega), if_neg (by omega), if_pos (by omega), show (n * 4 + 1 + 1) / 4 = n by omega]
  have c3 : cellV PV b (n * 4 + 1 + 1 + 1) = .int .i64 (b.sz n) := by unfold cellV; rw [if_neg (by omega), if_neg (by omega), if_neg (by omega), show (n * 4 + 1 + 1 + 1) / 4 = n by omega]
  rw [c0, c1, c2, c3]

/-- a list of versions of the call's own -/
def OwnV (w0 wr : World) (v : Value) (n : Nat) (PV : Nat → Value) (b : Bk) : Prop := wr.ownsRow w0.heap.size 29 4 v n (flatV n PV b) ∧ Below w0.heap.size w0 wr

theorem OwnV.nil (w : World) (PV : Nat → Value) (b : Bk) : OwnV w w (.slice none 0 0) 0 PV b := ⟨World.ownsRow_nil _ _ _ _, Below.refl _ _⟩

theorem OwnV.up {w0 wr w' : World} {v : Value} {n : Nat} {PV : Nat → Value} {b : Bk} (h : OwnV w0 wr v n PV b) (hb : Below wr.heap.size wr w') : OwnV w0 w' v n PV b := ⟨owns_below h.1 hb, h.2.trans (hb.mono h.2.size)⟩

theorem Try.infoVer : (Try.prog.info? 29).map (fun i => (i.zero, i.size, i.bytes)) = some (some (.agg #[.slice none 0 0, .int .i64 0, .int .i64 0, .int .i64 0]), 4, 48) := by kernel_rfl

/-- one more version behind n -/
def snocB (n : Nat) (b : Bk) (l : Nat) (X : Nat → Int) (nd of sz : Int) : Bk :=
  ⟨fun j => if j = n then l else b.PL j, fun j => if j = n then X else b.PX j, fun j => if j = n then nd else b.nd j, fun j => if j = n then of else b.of j, fun j => if j = n then sz else b.sz j⟩
def snocP (n : Nat) (PV : Nat → Value) (pv : Value) (j : Nat) : Value := if j = n then pv else PV j

/-- what keeps a version from being added -/
def addE (n : Nat) (b b' : Bk) : Int := if bookE n b = 0 then bookE (n + 1) b' else bookE n b

theorem cells_four (w : World) (v0 v1 v2 v3 : Value) (T : TypeId) : ∀ j u, ([v0, v1, v2, v3] : List Value)[j]? = some u → (w.alloc (.cells #[v0, v1, v2, v3] T)).cell? (Addr.add ⟨w.heap.size, 0, none⟩ j) = some u := by
  intro j u hj
  rw [Addr.add_lit]
  match j, hj with
  | 0, hj => simp at hj; subst hj; exact cell_at (heap_alloc_new _ _) rfl
  | 1, hj => simp at hj; subst hj; exact cell_at (heap_alloc_new _ _) rfl
  | 2, hj => simp at hj; subst hj; exact cell_at (heap_alloc_new _ _) rfl
  | 3, hj => simp at hj; subst hj; exact cell_at (heap_alloc_new _ _) rfl

theorem owns_ne {w : World} {base : Nat} {e t : TypeId} {size : Nat} {v : Value} {n : Nat} {xs : List Value} {bm : Nat} {cs : Array Value} (h : w.ownsRow base e size v n xs) (hm : w.heap[bm]? = some (.cells cs t (0, 0))) (ht : e ≠ t) : v.ownBlock ≠ some bm := by
  obtain ⟨_, h2⟩ := h
  rcases h2 with ⟨rfl, _⟩ | ⟨g, cap, cur, rfl, _, hh, _⟩
  · intro e; cases e
  · intro e1
    injection e1 with e1
    have e2 : g = bm := e1
    subst e2
    rw [hm] at hh
    injection hh with hh
    injection hh with _ h3 _
    exact ht h3.symm

theorem owns_sliceV {w : World} {base : Nat} {e : TypeId} {size : Nat} {v : Value} {n : Nat} {xs : List Value} (h : w.ownsRow base e size v n xs) : ∃ a c, v = .slice a n c := by
  obtain ⟨_, h2⟩ := h
  rcases h2 with ⟨h1, h0⟩ | ⟨g, cap, cur, h1, _⟩
  · exact ⟨none, 0, by rw [h0]; exact h1⟩
  · exact ⟨_, _, h1⟩

theorem owns_set_other {w : World} {base : Nat} {e : TypeId} {size : Nat} {v : Value} {n : Nat} {xs : List Value} {g o : Nat} (h : w.ownsRow base e size v n xs) (hne : v.ownBlock ≠ some g) (u : Value) : (w.setCell ⟨g, o, none⟩ u).ownsRow base e size v n xs := by
  obtain ⟨h1, h2⟩ := h
  refine ⟨h1, ?_⟩
  rcases h2 with h2 | ⟨g', cap, cur, rfl, hg, hh, hr⟩
  · exact Or.inl h2
  · refine Or.inr ⟨g', cap, cur, rfl, hg, ?_, hr⟩
    rw [Below.heap_setCell _ _ _ _ (fun e => hne (by rw [← show g' = g from e]; rfl))]
    exact hh

theorem rowV_shl {wr : World} {base : Nat} {v : Value} {n : Nat} {PV : Nat → Value} {b : Bk} (h : wr.ownsRow base 29 4 v n (flatV n PV b)) (hr : n * 48 ≤ 140737488351232) (hi : ∀ j, j < n → IntSl wr wr.heap.size (PV j) (b.PL j) (b.PX j)) : VeSl wr wr.heap.size v n PV b := by
  obtain ⟨hl, h2⟩ := h
  rcases h2 with ⟨rfl, h0⟩ | ⟨g, cap, cur, rfl, hg, hh, hc1, hc2, hsz, hcur⟩
  · subst h0; exact ⟨none, 0, rfl, ⟨Nat.le_refl _, by omega⟩, Or.inl rfl⟩
  · refine ⟨_, cap, rfl, ⟨hc1, hr⟩, Or.inr ⟨g, 0, rfl, (Array.getElem?_eq_some_iff.1 hh).1, fun j hj => ?_⟩⟩
    have key : ∀ i, i < n * 4 → wr.cell? ⟨g, i, none⟩ = some (cellV PV b i) := fun i hi => by
      have h3 := flatV_get n PV b i
      rw [if_pos hi, ← hcur, List.getElem?_take, if_pos hi] at h3
      exact cell_at hh (by simpa using h3)
    rw [Nat.zero_add]
    refine ⟨?_, ?_, ?_, ?_, hi j hj⟩
    · rw [key (j * 4) (by omega)]; unfold cellV; rw [if_pos (by omega), show j * 4 / 4 = j by omega]
    · rw [key (j * 4 + 1) (by omega)]; unfold cellV; rw [if_neg (by omega), if_pos (by omega), show (j * 4 + 1) / 4 = j by omega]
    · rw [key (j * 4 + 2) (by omega)]; unfold cellV; rw [if_neg (by omega), if_neg (by omega), if_pos (by omega), show (j * 4 + 2) / 4 = j by omega]
    · rw [key (j * 4 + 3) (by omega)]; unfold cellV; rw [if_neg (by omega), if_neg (by omega), if_neg (by omega), show (j * 4 + 3) / 4 = j by omega]

theorem set_one {w : World} {g : Nat} {v : Value} {T : TypeId} (h : w.heap[g]? = some (.cells #[v] T (0, 0))) (u : Value) : (w.setCell ⟨g, 0, none⟩ u).heap[g]? = some (.cells #[u] T (0, 0)) := by
  simp [World.setCell, Array.getElem?_modify, h]

theorem results_cell2 {P : Program} {fn : Func} {p u : Tmp} {ty : TypeId} (h : fn.results = #[.cell p ty, .tmp u]) (tmps : Array Value) (w : World) (g : Nat) (t : TypeId) (cs : Array Value) (fr : Nat × Nat) (d : TypeDesc)
    (hp : tmps.getD p undef = .pointer (some ⟨g, 0, none⟩)) (hg : w.heap[g]? = some (.cells cs t fr))
    (hu : P.underlying ty = some d) (hd : (match d with | .struct _ | .array _ _ => true | _ => false) = true) (hi : (P.info? ty).map (·.size) = some cs.size) :
    (results fn tmps).run P w = .ok (.tuple #[.agg cs, tmps.getD u undef]) w := by
  rw [results_cell_tmp h, hp]
  simp [asAddr, run_loadVar_row w g t ty cs fr d hg hu hd hi]

end Go.Proofs.Ytdhefajaekackaa
