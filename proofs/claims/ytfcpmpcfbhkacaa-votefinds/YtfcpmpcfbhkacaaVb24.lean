/- Several texts of one proof, in their order. -/
import Derived.Test.YtfcpmpcfbhkacaaVb23
import Derived.Laws.CopyOwn

/- What package share's Split answers. -/
namespace Go.Proofs.Ytfcpmpcfbhkacaa

open Go.RowKit CurveMath
set_option linter.unusedVariables false

/-- the content, copied over noughts -/
theorem splice_pad {n m : Nat} (D : Nat → Int) (hn : n ≤ m) (j : Nat) (hj : j < m) :
    (splice (List.replicate m (Value.int .i64 0)) 0 ((List.range n).map fun j => Value.int .i64 (D j)))[j]? = some (.int .i64 (padD n D j)) := by
  unfold splice padD
  by_cases h : j < n
  · rw [if_pos h]
    simp only [List.take_zero, List.nil_append]
    rw [List.getElem?_append_left (by simpa using h)]
    simp [h]
  · rw [if_neg h]
    simp only [List.take_zero, List.nil_append]
    rw [List.getElem?_append_right (by simpa using h)]
    simp only [List.length_map, List.length_range, Nat.zero_add, List.drop_replicate]
    rw [List.getElem?_replicate, if_pos (by omega)]

/-- a list copied over noughts -/
theorem copy_run {w : World} {g m cm n cp c : Nat} {a : Option Addr} {D : Nat → Int} (hg : w.heap[g]? = some (.cells (List.replicate m (Value.int .i64 0)).toArray 3 (0, 0))) (h : IntSl w w.heap.size (.slice a n cp) n D) (hc : c = Nat.min n m) (hc1 : 1 ≤ c) :
    ∃ w', (Builtin.copy_ #[24, 24] 3 #[.slice (some ⟨g, 0, none⟩) m cm, .slice a n cp]).run Try.prog w = .ok (.int .i64 (c : Int)) w' ∧ (∀ j, j < m → w'.cell? ⟨g, j, none⟩ = some (.int .i64 (padD c D j))) ∧ (∀ j, j < m → w'.frozen? ⟨g, j, none⟩ = false) ∧ ∀ (B : Nat) (w0 : World), Below B w0 w → B ≤ g → Below B w0 w' := by
  have hcn : c ≤ n := by rw [hc]; exact Nat.min_le_left _ _
  have hcm : c ≤ m := by rw [hc]; exact Nat.min_le_right _ _
  obtain ⟨ad, cp', e, _, hx⟩ := h
  injection e with e1
  subst e1
  rcases hx with h0 | ⟨b, o, rfl, hb, hx⟩
  · omega
  have hsrc : ∀ j v, ((List.range c).map fun j => Value.int .i64 (D j))[j]? = some v → w.cell? (Addr.add ⟨b, o, none⟩ j) = some v := fun j v hj => by
    have hjs : j < c := by
      rcases Nat.lt_or_ge j c with h | h
      · exact h
      · rw [List.getElem?_eq_none (by simpa using h)] at hj; cases hj
    simp only [List.getElem?_map, List.getElem?_range hjs, Option.map_some, Option.some.injEq] at hj
    rw [Addr.add_lit, hx j (by omega), hj]
  have hrun := run_copy_row (P := Try.prog) w 24 24 3 3 g 0 m cm ⟨b, o, none⟩ n cp (List.replicate m (Value.int .i64 0)).toArray 3 ((List.range c).map fun j => Value.int .i64 (D j)) Try.underlying24 Try.sizeInt hg (by simpa using hc) hsrc (by simpa using hcm) (fun v hv => by obtain ⟨j, _, rfl⟩ := List.mem_map.1 hv; rfl)
  have hl : (((List.range c).map fun j => Value.int .i64 (D j)).length : Int) = (c : Int) := by simp
  refine ⟨_, by rw [hrun, hl]; rfl, fun j hj => ?_, fun j hj => ?_, fun B w0 hb0 hBg => below_setRow hb0 hBg _⟩
  · refine cell_at (setRow_heap w g _ _ _ _ hg) ?_
    have h1 := splice_pad D hcm j hj
    unfold splice at h1
    simpa using h1
  · exact frozen_at (setRow_heap w g _ _ _ _ hg)

/-- Split's own memory: the plan, the content with noughts behind it, the list of shares, the rows of the first kn of them -/
structure SpInv (w wr : World) (d m s R n : Nat) (D : Nat → Int) (g0 gl : Nat) (G : Nat → Nat) (kn : Nat) (C : Nat → Nat → Int) : Prop where
  below : Below w.heap.size w wr
  p0 : wr.cell? ⟨w.heap.size, 0, none⟩ = some (.int .i64 (d : Int))
  p1 : wr.cell? ⟨w.heap.size, 1, none⟩ = some (.int .i64 (m : Int))
  p2 : wr.cell? ⟨w.heap.size, 2, none⟩ = some (.int .i64 (s : Int))
  whole : ∀ j, j < R * d → wr.cell? ⟨g0, j, none⟩ = some (.int .i64 (padD n D j))
  room : ∀ i, i < m * 2 → (∃ u, wr.cell? ⟨gl, i, none⟩ = some u) ∧ wr.frozen? ⟨gl, i, none⟩ = false
  l0 : ∀ k, k < kn → wr.cell? ⟨gl, k * 2, none⟩ = some (.int .i64 (k : Int))
  l1 : ∀ k, k < kn → wr.cell? ⟨gl, k * 2 + 1, none⟩ = some (.slice (some ⟨G k, 0, none⟩) R R)
  row : ∀ k, k < kn → ∀ j, j < R → wr.cell? ⟨G k, j, none⟩ = some (.int .i64 (C k j))
  free : ∀ k, k < kn → ∀ j, j < R → wr.frozen? ⟨G k, j, none⟩ = false
  o0 : w.heap.size < g0
  ol : g0 < gl
  oG : ∀ k, k < kn → gl < G k
  inj : ∀ i j, i < kn → j < kn → G i = G j → i = j

section

variable {w wr w' : World} {d m s R n : Nat} {D : Nat → Int} {g0 gl : Nat} {G : Nat → Nat} {kn : Nat} {C : Nat → Nat → Int}

theorem SpInv.up (h : SpInv w wr d m s R n D g0 gl G kn C) (hb : Below wr.heap.size wr w') : SpInv w w' d m s R n D g0 gl G kn C := by
  refine ⟨h.below.trans (hb.mono h.below.size), ?_, ?_, ?_, fun j hj => ?_, fun i hi => ?_, fun k hk => ?_, fun k hk => ?_, fun k hk j hj => ?_, fun k hk j hj => ?_, h.o0, h.ol, h.oG, h.inj⟩
  · rw [hb.cell (cell_lt h.p0)]; exact h.p0
  · rw [hb.cell (cell_lt h.p1)]; exact h.p1
  · rw [hb.cell (cell_lt h.p2)]; exact h.p2
  · rw [hb.cell (cell_lt (h.whole j hj))]; exact h.whole j hj
  · obtain ⟨⟨u, hu⟩, hf⟩ := h.room i hi
    exact ⟨⟨u, by rw [hb.cell (cell_lt hu)]; exact hu⟩, by rw [hb.frozen (cell_lt hu)]; exact hf⟩
  · rw [hb.cell (cell_lt (h.l0 k hk))]; exact h.l0 k hk
  · rw [hb.cell (cell_lt (h.l1 k hk))]; exact h.l1 k hk
  · rw [hb.cell (cell_lt (h.row k hk j hj))]; exact h.row k hk j hj
  · rw [hb.frozen (cell_lt (h.row k hk j hj))]; exact h.free k hk j hj

theorem SpInv.congr {C' : Nat → Nat → Int} (h : SpInv w wr d m s R n D g0 gl G kn C) (e : ∀ k j, k < kn → j < R → C k j = C' k j) : SpInv w wr d m s R n D g0 gl G kn C' :=
  ⟨h.below, h.p0, h.p1, h.p2, h.whole, h.room, h.l0, h.l1, fun k hk j hj => by rw [← e k j hk hj]; exact h.row k hk j hj, h.free, h.o0, h.ol, h.oG, h.inj⟩

theorem SpInv.set (h : SpInv w wr d m s R n D g0 gl G kn C) (k r : Nat) (hk : k < kn) (hr : r < R) (v : Int) :
    SpInv w (wr.setCell ⟨G k, r, none⟩ (.int .i64 v)) d m s R n D g0 gl G kn (fun k' j => if k' = k ∧ j = r then v else C k' j) := by
  have hG := h.oG k hk
  have ho := h.o0
  have hl := h.ol
  have oth : ∀ (a : Addr) (u : Value), a.block < G k → wr.cell? a = some u → (wr.setCell ⟨G k, r, none⟩ (.int .i64 v)).cell? a = some u := fun a u ha hu => by
    rw [World.cell?_setCell_other _ _ _ _ (by intro e; rw [← e] at ha; exact Nat.lt_irrefl _ ha)]; exact hu
  refine ⟨h.below.setCell (p := ⟨G k, r, none⟩) (by show w.heap.size ≤ G k; omega) _, ?_, ?_, ?_, fun j hj => ?_, fun i hi => ?_, fun k' hk' => ?_, fun k' hk' => ?_, fun k' hk' j hj => ?_, fun k' hk' j hj => by rw [World.frozen?_setCell]; exact h.free k' hk' j hj, h.o0, h.ol, h.oG, h.inj⟩
  · exact oth _ _ (by show w.heap.size < G k; omega) h.p0
  · exact oth _ _ (by show w.heap.size < G k; omega) h.p1
  · exact oth _ _ (by show w.heap.size < G k; omega) h.p2
  · exact oth _ _ (by show g0 < G k; omega) (h.whole j hj)
  · obtain ⟨⟨u, hu⟩, hf⟩ := h.room i hi
    exact ⟨⟨u, oth _ _ (by show gl < G k; omega) hu⟩, by rw [World.frozen?_setCell]; exact hf⟩
  · exact oth _ _ (by show gl < G k; omega) (h.l0 k' hk')
  · exact oth _ _ (by show gl < G k; omega) (h.l1 k' hk')
  · by_cases e : k' = k ∧ j = r
    · obtain ⟨rfl, rfl⟩ := e
      rw [if_pos ⟨rfl, rfl⟩]
      exact World.cell?_setCell_same _ _ _ (h.row k' hk' j hj)
    · rw [if_neg e, World.cell?_setCell_other _ _ _ _ (by
        intro e2
        injection e2 with e3 e4
        exact e ⟨(h.inj k k' hk hk' e3).symm, e4.symm⟩)]
      exact h.row k' hk' j hj

/-- one share more: its list is made, and it is stored -/
theorem SpInv.push (h : SpInv w wr d m s R n D g0 gl G kn (fun _ _ => 0)) (hk : kn < m) (hR1 : 1 ≤ R) (hR : Row wr w' wr.heap.size R (fun _ => 0)) :
    SpInv w ((w'.setCell ⟨gl, kn * 2, none⟩ (.int .i64 (kn : Int))).setCell ⟨gl, kn * 2 + 1, none⟩ (.slice (some ⟨wr.heap.size, 0, none⟩) R R)) d m s R n D g0 gl (fun k => if k = kn then wr.heap.size else G k) (kn + 1) (fun _ _ => 0) := by
  have h2 := h.up hR.below
  have ho := h.o0
  have hl := h.ol
  have hgl : gl < wr.heap.size := by
    obtain ⟨⟨u, hu⟩, _⟩ := h.room 0 (by omega)
    exact cell_lt hu
  have hGl : ∀ k, k < kn → 0 < R → G k < wr.heap.size := fun k hk hR => cell_lt (h.row k hk 0 hR)
  have oth : ∀ (a : Addr) (u : Value), a.block ≠ gl → w'.cell? a = some u → ((w'.setCell ⟨gl, kn * 2, none⟩ (.int .i64 (kn : Int))).setCell ⟨gl, kn * 2 + 1, none⟩ (.slice (some ⟨wr.heap.size, 0, none⟩) R R)).cell? a = some u := fun a u ha hu => by
    rw [World.cell?_setCell_other _ _ _ _ (by intro e; rw [← e] at ha; exact ha rfl), World.cell?_setCell_other _ _ _ _ (by intro e; rw [← e] at ha; exact ha rfl)]; exact hu
  have othl : ∀ (i : Nat) (u : Value), i ≠ kn * 2 → i ≠ kn * 2 + 1 → w'.cell? ⟨gl, i, none⟩ = some u → ((w'.setCell ⟨gl, kn * 2, none⟩ (.int .i64 (kn : Int))).setCell ⟨gl, kn * 2 + 1, none⟩ (.slice (some ⟨wr.heap.size, 0, none⟩) R R)).cell? ⟨gl, i, none⟩ = some u := fun i u h1 h3 hu => by
    rw [World.cell?_setCell_other _ _ _ _ (by intro e; injection e with _ e2; omega), World.cell?_setCell_other _ _ _ _ (by intro e; injection e with _ e2; omega)]; exact hu
  obtain ⟨⟨u0, hu0⟩, hf0⟩ := h2.room (kn * 2) (by omega)
  obtain ⟨⟨u1, hu1⟩, hf1⟩ := h2.room (kn * 2 + 1) (by omega)
  have c0 : ((w'.setCell ⟨gl, kn * 2, none⟩ (.int .i64 (kn : Int))).setCell ⟨gl, kn * 2 + 1, none⟩ (.slice (some ⟨wr.heap.size, 0, none⟩) R R)).cell? ⟨gl, kn * 2, none⟩ = some (.int .i64 (kn : Int)) := by
    rw [World.cell?_setCell_other _ _ _ _ (by intro e; injection e with _ e2; omega)]
    exact World.cell?_setCell_same _ _ _ hu0
  have c1 : ((w'.setCell ⟨gl, kn * 2, none⟩ (.int .i64 (kn : Int))).setCell ⟨gl, kn * 2 + 1, none⟩ (.slice (some ⟨wr.heap.size, 0, none⟩) R R)).cell? ⟨gl, kn * 2 + 1, none⟩ = some (.slice (some ⟨wr.heap.size, 0, none⟩) R R) :=
    World.cell?_setCell_same _ _ _ (by rw [World.cell?_setCell_other _ _ _ _ (by intro e; injection e with _ e2; omega)]; exact hu1)
  refine ⟨(h2.below.setCell (p := ⟨gl, kn * 2, none⟩) (by show w.heap.size ≤ gl; omega) _).setCell (p := ⟨gl, kn * 2 + 1, none⟩) (by show w.heap.size ≤ gl; omega) _, ?_, ?_, ?_, fun j hj => ?_, fun i hi => ?_, fun k hk' => ?_, fun k hk' => ?_, fun k hk' j hj => ?_, fun k hk' j hj => ?_, h.o0, h.ol, fun k hk' => ?_, fun i j hi hj e => ?_⟩
  · exact oth _ _ (by show w.heap.size ≠ gl; omega) h2.p0
  · exact oth _ _ (by show w.heap.size ≠ gl; omega) h2.p1
  · exact oth _ _ (by show w.heap.size ≠ gl; omega) h2.p2
  · exact oth _ _ (by show g0 ≠ gl; omega) (h2.whole j hj)
  · obtain ⟨⟨u, hu⟩, hf⟩ := h2.room i hi
    refine ⟨?_, by rw [World.frozen?_setCell, World.frozen?_setCell]; exact hf⟩
    by_cases e1 : i = kn * 2
    · rw [e1]; exact ⟨_, c0⟩
    · by_cases e2 : i = kn * 2 + 1
      · rw [e2]; exact ⟨_, c1⟩
      · exact ⟨u, othl i u e1 e2 hu⟩
  · by_cases e : k = kn
    · subst e; exact c0
    · exact othl _ _ (by omega) (by omega) (h2.l0 k (by omega))
  · by_cases e : k = kn
    · subst e; rw [if_pos rfl]; exact c1
    · rw [if_neg e]; exact othl _ _ (by omega) (by omega) (h2.l1 k (by omega))
  · by_cases e : k = kn
    · subst e; rw [if_pos rfl]; exact oth _ _ (by show wr.heap.size ≠ gl; omega) (hR.cell j hj)
    · rw [if_neg e]; exact oth _ _ (by show G k ≠ gl; have := h.oG k (by omega); omega) (h2.row k (by omega) j hj)
  · rw [World.frozen?_setCell, World.frozen?_setCell]
    by_cases e : k = kn
    · subst e; rw [if_pos rfl]; exact hR.free j hj
    · rw [if_neg e]; exact h2.free k (by omega) j hj
  · by_cases e : k = kn
    · rw [if_pos e]; omega
    · rw [if_neg e]; exact h.oG k (by omega)
  · by_cases e1 : i = kn
    · by_cases e2 : j = kn
      · omega
      · rw [if_pos e1, if_neg e2] at e
        have := hGl j (by omega) (by omega)
        omega
    · by_cases e2 : j = kn
      · rw [if_neg e1, if_pos e2] at e
        have := hGl i (by omega) (by omega)
        omega
      · rw [if_neg e1, if_neg e2] at e
        exact h.inj i j (by omega) (by omega) e

end

end Go.Proofs.Ytfcpmpcfbhkacaa
