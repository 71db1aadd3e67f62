/- Several texts of one proof, in their order. -/
import Derived.Test.YtfcpmpcfbhkacaaVb5
import Derived.Deep.Strs
import Derived.Test.YtfcpmpcfbhkacaaVb11
import Derived.Deep.SlicePairs

/- How the laws' arguments are read: plans, lists of ints inside of others. -/
namespace Go.Proofs.Ytfcpmpcfbhkacaa

open Go.ChangeShapes Go.WideShapes Go.ChangeAt Go.RowKit Go.Deep
set_option linter.unusedVariables false

variable {H : Type} {enc : TypeId × Value → H} {W : World}

theorem Try.cellsInts : Try.prog.cellsOf 24 = 1 := by kernel_rfl
theorem Try.cellsPlan : Try.prog.cellsOf 23 = 3 := by kernel_rfl

theorem agg_of {v : Value} {n : Nat} (hn : n ≠ 1) (h : v.cells.toList.length = n) : v = .agg v.cells := by
  cases v <;> first | rfl | (simp [Value.cells] at h; omega)

/-- a plan that came in -/
theorem plan_open {v : Value} {d : DataW H} {p : List MemPlace} (h : DataW.Trod enc Try.prog W 0 (fun _ => true) true 23 v d p) :
    ∃ nd of sz : Int, v = planV nd of sz ∧ (Lit.int .i64 nd).wf = true ∧ (Lit.int .i64 of).wf = true ∧ (Lit.int .i64 sz).wf = true := by
  obtain ⟨fuel, hf⟩ := h
  obtain ⟨y0, y1, y2, n, hx, hl, h0, h1, h2⟩ := trod_struct3 Try.underlying23 hf
  rw [Try.cellsPlan] at hl
  have hv := agg_of (by omega) hl
  rw [Try.cellsInt] at h0 h1 h2
  obtain ⟨a, e0, _, b0⟩ := DataW.trod_int Try.underlying3 h0
  obtain ⟨b, e1, _, b1⟩ := DataW.trod_int Try.underlying3 h1
  obtain ⟨c, e2, _, b2⟩ := DataW.trod_int Try.underlying3 h2
  refine ⟨a, b, c, ?_, b0, b1, b2⟩
  rw [hv]
  generalize v.cells = cs at *
  obtain ⟨l⟩ := cs
  match l, hl with
  | [u0, u1, u2], _ =>
    simp at e0 e1 e2
    subst e0 e1 e2
    rfl

/-- a list of ints, by its one cell -/
theorem isl_cell {fuel : Nat} {cs : List Value} {x : DataW H × List MemPlace} (h : DataW.trod enc Try.prog W 0 (fun _ => true) true fuel 24 cs = some x) (hs : ∀ y ∈ x.1.weights Try.prog 24, y ≤ reachBytes) :
    ∃ a len cap X, cs = [.slice a len cap] ∧ SlArg W a len cap X := by
  have key : ∃ a len cap, cs = [.slice a len cap] := by
    rcases open_ints Try.underlying24 Try.underlying3 Try.cellsInt h with ⟨hcs, _⟩ | ⟨x, l, c, zs, hcs, _⟩
    · exact ⟨_, _, _, hcs⟩
    · exact ⟨_, _, _, hcs⟩
  obtain ⟨a, len, cap, rfl⟩ := key
  obtain ⟨X, hX⟩ := slArg_open (enc := enc) (W := W) (a := a) (len := len) (cap := cap) (d := x.1) (p := x.2) Try.underlying24 ⟨fuel, by simpa [Value.cells] using h⟩ (fun elems spare hd => by
    refine hs _ ?_
    rw [hd]
    simp [DataW.weights, Try.underlying24])
  exact ⟨a, len, cap, X, rfl, hX⟩

theorem weightsAll_mem {P : Program} {e : TypeId} {l : List (DataW H)} {d : DataW H} (h : d ∈ l) {y : Nat} (hy : y ∈ d.weights P e) : y ∈ DataW.weightsAll P e l := by
  induction l with
  | nil => cases h
  | cons x l ih =>
    simp only [DataW.weightsAll, List.mem_append]
    rcases List.mem_cons.1 h with rfl | h
    · exact Or.inl hy
    · exact Or.inr (ih h)

end Go.Proofs.Ytfcpmpcfbhkacaa

/- How the laws' arguments are read: plans, shares, lists of shares that come in, within the form's own reach. -/
namespace Go.Proofs.Ytfcpmpcfbhkacaa

open Go.ChangeShapes Go.WideShapes Go.ChangeAt Go.RowKit Go.Deep
set_option linter.unusedVariables false

variable {H : Type} {enc : TypeId × Value → H} {W : World}

theorem Try.cellsShare : Try.prog.cellsOf 27 = 2 := by kernel_rfl
theorem Try.bytesShare : Try.prog.bytesOf 27 = 32 := by kernel_rfl

/-- a list of shares that came in -/
theorem shares_open {a : Option Addr} {len cap : Nat} {d : DataW H} {p : List MemPlace} (h : DataW.Trod enc Try.prog W 0 (fun _ => true) true 25 (.slice a len cap) d p) (hs : ∀ y ∈ d.weights Try.prog 25, y ≤ reachBytes) :
    ∃ N V L X, ShSl W W.heap.size (.slice a len cap) len N V L X := by
  obtain ⟨fuel, hf⟩ := h
  rcases open_slice_pairs Try.underlying25 Try.underlying27 Try.cellsShare rfl rfl Try.cellsInt Try.cellsInts hf with ⟨hcs, _⟩ | ⟨ad, len', cap', m, n, V0, V1, D0, D1, P0, P1, hcs, _, hl, hm, hmm, hx, hall⟩
  · simp [Value.cells] at hcs
    obtain ⟨rfl, rfl, rfl⟩ := hcs
    exact ⟨fun _ => 0, fun _ => .bool false, fun _ => 0, fun _ _ => 0, none, 0, rfl, ⟨Nat.le_refl _, by omega⟩, Or.inl rfl⟩
  · simp [Value.cells] at hcs
    obtain ⟨rfl, rfl, rfl⟩ := hcs
    simp only [if_true] at hmm
    subst hmm
    have hd : d = .slice ((List.range len).map fun i => .agg [D0 i, D1 i]) ((List.range (m - len)).map fun j => .agg [D0 (len + j), D1 (len + j)]) := congrArg Prod.fst hx
    have each : ∀ i, i < len → ∃ q : Int × Value × Nat × (Nat → Int), V0 i = .int .i64 q.1 ∧ V1 i = q.2.1 ∧ IntSl W W.heap.size q.2.1 q.2.2.1 q.2.2.2 := by
      intro i hi
      obtain ⟨_, _, t0, t1⟩ := hall i (by omega)
      obtain ⟨N, e0, _, b0⟩ := DataW.trod_int Try.underlying3 t0
      obtain ⟨a1, l1, c1, X1, e1, hX⟩ := isl_cell t1 (fun y hy => hs y (by
        rw [hd]
        simp only [DataW.weights, Try.underlying25, List.mem_cons, List.mem_append]
        refine Or.inr (Or.inl (weightsAll_mem (d := .agg [D0 i, D1 i]) (List.mem_map.2 ⟨i, List.mem_range.2 hi, rfl⟩) ?_))
        simp only [DataW.weights, Try.underlying27, List.map_cons, List.map_nil, DataW.weightsEach, List.mem_append]
        exact Or.inr (Or.inl hy)))
      exact ⟨⟨N, .slice a1 l1 c1, l1, X1⟩, by simpa using e0, by simpa using e1, hX.isl⟩
    obtain ⟨q, hq⟩ := choose_lt each
    have hr : (len + (m - len)) * 32 ≤ 140737488351232 := by
      have h1 := hs ((len + (m - len)) * Try.prog.bytesOf 27) (by
        rw [hd]
        simp [DataW.weights, Try.underlying25])
      rw [Try.bytesShare] at h1
      simpa [reachBytes] using h1
    refine ⟨fun i => (q i).1, fun i => (q i).2.1, fun i => (q i).2.2.1, fun i => (q i).2.2.2, some ad, m, rfl, ⟨hl, by omega⟩, ?_⟩
    by_cases h0 : len = 0
    · exact Or.inl h0
    · obtain ⟨b, off, spot⟩ := ad
      have hspot : spot = none := by simpa [Addr.add] using World.cell?_spot (hall 0 (by omega)).1
      subst hspot
      refine Or.inr ⟨b, off, rfl, ?_, fun j hj => ?_⟩
      · have h1 := cell_lt (hall 0 (by omega)).1
        simpa [Addr.add] using h1
      · obtain ⟨c0, c1, _, _⟩ := hall j (by omega)
        obtain ⟨e0, e1, hi⟩ := hq j hj
        rw [e0] at c0
        rw [e1] at c1
        rw [← Go.WideShapes.add_plain, Nat.add_assoc, ← Go.WideShapes.add_plain]
        exact ⟨c0, c1, hi⟩

end Go.Proofs.Ytfcpmpcfbhkacaa
