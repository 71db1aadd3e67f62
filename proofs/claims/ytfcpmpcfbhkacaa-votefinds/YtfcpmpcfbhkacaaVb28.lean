/- Several texts of one proof, in their order. -/
import Derived.Test.YtfcpmpcfbhkacaaVb27
import Derived.Test.YtfcpmpcfbhkacaaVb24
import Derived.Test.YtfcpmpcfbhkacaaVb18

/- What package share's Join answers. -/
namespace Go.Proofs.Ytfcpmpcfbhkacaa

open Go.RowKit CurveMath
set_option linter.unusedVariables false

theorem IntSl.grownG {w w' : World} {v : Value} {n g : Nat} {X : Nat → Int} (h : IntSl w w.heap.size v n X) (hg : w.grownBy w' (some g)) (ho : v.ownBlock ≠ some g) : IntSl w' w'.heap.size v n X := by
  obtain ⟨ad, cap, rfl, h0, h2⟩ := h
  refine ⟨ad, cap, rfl, h0, ?_⟩
  rcases h2 with h2 | ⟨b, off, rfl, h4, h5⟩
  · exact Or.inl h2
  · exact Or.inr ⟨b, off, rfl, Nat.lt_of_lt_of_le h4 hg.size, fun j hj => hg.cell (h5 j hj) ho⟩

theorem AtFn.grown {w w' : World} {bx bz n g : Nat} {X Y : Nat → Int} (h : AtFn w bx bz n X Y) (ho : AtOff g w bx bz) (hg : w.grownBy w' (some g)) : AtFn w' bx bz n X Y := by
  obtain ⟨⟨a1, c1, e1, h1⟩, a2, c2, e2, h2⟩ := h
  exact ⟨⟨a1, c1, hg.cell e1 (fun e => ho.x (by injection e)), h1.grownG hg (ho.vx _ e1)⟩, a2, c2, hg.cell e2 (fun e => ho.z (by injection e)), h2.grownG hg (ho.vz _ e2)⟩

theorem AtOff.grown {w w' : World} {bx bz n g : Nat} {X Y : Nat → Int} (h : AtOff g w bx bz) (hf : AtFn w bx bz n X Y) (hg : w.grownBy w' (some g)) : AtOff g w' bx bz := by
  obtain ⟨⟨a1, c1, e1, _⟩, a2, c2, e2, _⟩ := hf
  refine ⟨h.x, h.z, fun v hv => h.vx v ?_, fun v hv => h.vz v ?_⟩
  · have := hg.cell e1 (fun e => h.x (by injection e))
    rw [this] at hv
    rw [e1]; exact hv
  · have := hg.cell e2 (fun e => h.z (by injection e))
    rw [this] at hv
    rw [e2]; exact hv

/-- Join's own memory: the plan, and what was joined so far -/
structure JoInv (w wr : World) (d m s g k cap : Nat) (C : Nat → Int) : Prop where
  below : Below w.heap.size w wr
  p0 : wr.cell? ⟨w.heap.size, 0, none⟩ = some (.int .i64 (d : Int))
  p1 : wr.cell? ⟨w.heap.size, 1, none⟩ = some (.int .i64 (m : Int))
  p2 : wr.cell? ⟨w.heap.size, 2, none⟩ = some (.int .i64 (s : Int))
  og : w.heap.size < g
  own : wr.ownsRow g 3 1 (.slice (some ⟨g, 0, none⟩) k cap) k ((List.range k).map fun j => Value.int .i64 (C j))

section

variable {w wr w' : World} {d m s g k cap : Nat} {C : Nat → Int}

theorem JoInv.up (h : JoInv w wr d m s g k cap C) (hb : Below wr.heap.size wr w') : JoInv w w' d m s g k cap C :=
  ⟨h.below.trans (hb.mono h.below.size), by rw [hb.cell (cell_lt h.p0)]; exact h.p0, by rw [hb.cell (cell_lt h.p1)]; exact h.p1, by rw [hb.cell (cell_lt h.p2)]; exact h.p2, h.og, owns_below h.own hb⟩

theorem JoInv.push {x : Int} (h : JoInv w wr d m s g k cap C) (ho : w'.ownsRow g 3 1 (.slice (some ⟨g, 0, none⟩) (k + 1) cap) (k + 1) (((List.range k).map fun j => Value.int .i64 (C j)) ++ [.int .i64 x])) (hg : wr.grownBy w' (some g)) (hx : C k = x) : JoInv w w' d m s g (k + 1) cap C := by
  have hog := h.og
  have hne : some w.heap.size ≠ some g := by intro e; injection e with e; omega
  refine ⟨h.below.grown hg h.below.size (fun i hi => by injection hi with hi; omega), hg.cell h.p0 hne, hg.cell h.p1 hne, hg.cell h.p2 hne, h.og, ?_⟩
  have e : ((List.range (k + 1)).map fun j => Value.int .i64 (C j)) = ((List.range k).map fun j => Value.int .i64 (C j)) ++ [.int .i64 x] := by
    rw [List.range_succ, List.map_append]
    simp only [List.map_cons, List.map_nil, hx]
  rw [e]
  exact ho

theorem JoInv.cells (h : JoInv w wr d m s g k cap C) (j : Nat) (hj : j < k) : wr.cell? ⟨g, j, none⟩ = some (.int .i64 (C j)) := by
  obtain ⟨hl, h2⟩ := h.own
  rcases h2 with ⟨h1, _⟩ | ⟨g', cap', cur, hv, _, hh, hc1, hc2, hsz, hcur⟩
  · cases h1
  · injection hv with e1 _ e3
    injection e1 with e1
    injection e1 with e1
    subst e1
    have h3 : ((List.range k).map fun j => Value.int .i64 (C j))[j]? = some (.int .i64 (C j)) := by simp [hj]
    rw [← hcur, List.getElem?_take, if_pos (by omega)] at h3
    exact cell_at hh (by simpa using h3)

end

/-- a row that has something else behind -/
theorem torn_fit {d s R n r : Nat} {N : Nat → Int} {X : Nat → Nat → Int} (hr : r < R) (h : fitsB d (n - d) r N (fun i => X i r) (fun j => N (d + j)) (fun j => X (d + j)) = false) : tornB d s R n N X = true := by
  unfold tornB
  have hne : decide (∀ r, r < R → ∀ j, j < n → crv d N (fun i => X i r) (N j) = X j r) = false := by
    refine decide_eq_false fun hall => ?_
    have h2 := of_decide_eq_false h
    exact h2 fun j hj => (hall r hr (d + j) (by omega)).symm
  rw [hne]
  rfl

theorem torn_not {d m s R n : Nat} {N : Nat → Int} {L : Nat → Nat} {X : Nat → Nat → Int} (hS : Shares d m s R n N L X) (hm : madeB d s R N X = true) (hf : ∀ r, r < R → fitsB d (n - d) r N (fun i => X i r) (fun j => N (d + j)) (fun j => X (d + j)) = true) : tornB d s R n N X = false := by
  refine torn_iff hm fun j hj => decide_eq_true fun r hr => ?_
  by_cases hjd : j < d
  · exact crv_own (hS.good r hr) j hjd
  · have h1 : X (d + (j - d)) r = crv d N (fun i => X i r) (N (d + (j - d))) := (of_decide_eq_true (hf r hr)) (j - d) (by omega)
    have e : d + (j - d) = j := by omega
    rw [e] at h1
    exact h1.symm

/-- the shares behind the first ones -/
theorem ShSl.drop {w : World} {B b off cap n d : Nat} {N : Nat → Int} {V : Nat → Value} {L : Nat → Nat} {X : Nat → Nat → Int} (h : ShSl w B (.slice (some ⟨b, off, none⟩) n cap) n N V L X) (hd : d ≤ n) : ShSl w B (.slice (some ⟨b, off + d * 2, none⟩) (n - d) (cap - d)) (n - d) (fun j => N (d + j)) (fun j => V (d + j)) (fun j => L (d + j)) (fun j => X (d + j)) := by
  obtain ⟨ad, cp, e, h0, hh⟩ := h
  injection e with e1 _ e3
  subst e1 e3
  refine ⟨_, cap - d, rfl, ⟨by omega, by omega⟩, ?_⟩
  rcases hh with hh | ⟨b', off', e, h4, h5⟩
  · exact Or.inl (by omega)
  · injection e with e
    injection e with e1 e2
    subst e1 e2
    refine Or.inr ⟨b, _, rfl, h4, fun j hj => ?_⟩
    have h6 := h5 (d + j) (by omega)
    have e1 : off + (d + j) * 2 = off + d * 2 + j * 2 := by omega
    rw [e1] at h6
    exact h6

end Go.Proofs.Ytfcpmpcfbhkacaa
