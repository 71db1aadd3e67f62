/- How the laws' arguments are read: plans, shares, lists of shares that come in, within the form's own reach. -/
import Derived.Test.YtfcpmpcfbhkacaaShareSpec
import Derived.Test.YtfcpmpcfbhkacaaArgFrame
import Derived.Deep.SlicePairs
import Derived.Deep.Strs
namespace Go.Proofs.Ytfcpmpcfbhkacaa
open Go.ChangeShapes Go.WideShapes Go.ChangeAt Go.RowKit Go.Deep
set_option linter.unusedVariables false

variable {H : Type} {enc : TypeId × Value → H} {W : World}

theorem Try.cellsShare : Try.prog.cellsOf 27 = 2 := by kernel_rfl
theorem Try.bytesShare : Try.prog.bytesOf 27 = 32 := by kernel_rfl

/-- a share that came in -/
theorem share_open {v : Value} {d : DataW H} {p : List MemPlace} (h : DataW.Trod enc Try.prog W 0 (fun _ => true) true 27 v d p) (hs : ∀ y ∈ d.weights Try.prog 27, y ≤ reachBytes) :
    ∃ (N : Int) (a : Option Addr) (len cap : Nat) (X : Nat → Int), v = shareV N (.slice a len cap) ∧ (Lit.int .i64 N).wf = true ∧ SlArg W a len cap X := by
  obtain ⟨fuel, hf⟩ := h
  obtain ⟨y0, y1, n, hx, hl, h0, h1⟩ := trod_struct2 Try.underlying27 hf
  rw [Try.cellsShare] at hl
  have hv := agg_of (by omega) hl
  rw [Try.cellsInt] at h0
  rw [Try.cellsInts] at h1
  obtain ⟨N, e0, _, b0⟩ := DataW.trod_int Try.underlying3 h0
  have hd : d = .agg [y0.1, y1.1] := congrArg Prod.fst hx
  obtain ⟨a, len, cap, X, e1, hX⟩ := isl_cell h1 (fun y hy => hs y (by
    rw [hd]
    simp only [DataW.weights, Try.underlying27, List.map_cons, List.map_nil, DataW.weightsEach, List.mem_append]
    exact Or.inr (Or.inl hy)))
  refine ⟨N, a, len, cap, X, ?_, b0, hX⟩
  rw [hv]
  generalize v.cells = cs at *
  obtain ⟨l⟩ := cs
  match l, hl with
  | [u0, u1], _ =>
    simp at e0 e1
    subst e0 e1
    rfl

/-- a list of shares that came in -/
theorem shares_open {a : Option Addr} {len cap : Nat} {d : DataW H} {p : List MemPlace} (h : DataW.Trod enc Try.prog W 0 (fun _ => true) true 25 (.slice a len cap) d p) (hs : ∀ y ∈ d.weights Try.prog 25, y ≤ reachBytes) :
    ∃ N V L X, ShSl W W.heap.size (.slice a len cap) len N V L X := by
  obtain ⟨fuel, hf⟩ := h
  rcases open_slice_pairs Try.underlying25 Try.underlying27 Try.cellsShare rfl rfl Try.cellsInt Try.cellsInts hf with ⟨hcs, _⟩ | ⟨ad, len', cap', m, n, V0, V1, D0, D1, P0, P1, hcs, _, hl, hm, hmm, hx, hall⟩
  · simp [Value.cells] at hcs
    obtain ⟨rfl, rfl, rfl⟩ := hcs
    exact ⟨fun _ => 0, fun _ => .bool false, fun _ => 0, fun _ _ => 0, none, 0, rfl, ⟨Nat.le_refl _, by omega⟩, Or.inl rfl⟩
  · simp [Value.cells] at hcs
    obtain ⟨rfl, rfl, rfl⟩ := hcs
    simp only [if_true] at hmm
    subst hmm
    have hd : d = .slice ((List.range len).map fun i => .agg [D0 i, D1 i]) ((List.range (m - len)).map fun j => .agg [D0 (len + j), D1 (len + j)]) := congrArg Prod.fst hx
    have each : ∀ i, i < len → ∃ q : Int × Value × Nat × (Nat → Int), V0 i = .int .i64 q.1 ∧ V1 i = q.2.1 ∧ IntSl W W.heap.size q.2.1 q.2.2.1 q.2.2.2 := by
      intro i hi
      obtain ⟨_, _, t0, t1⟩ := hall i (by omega)
      obtain ⟨N, e0, _, b0⟩ := DataW.trod_int Try.underlying3 t0
      obtain ⟨a1, l1, c1, X1, e1, hX⟩ := isl_cell t1 (fun y hy => hs y (by
        rw [hd]
        simp only [DataW.weights, Try.underlying25, List.mem_cons, List.mem_append]
        refine Or.inr (Or.inl (weightsAll_mem (d := .agg [D0 i, D1 i]) (List.mem_map.2 ⟨i, List.mem_range.2 hi, rfl⟩) ?_))
        simp only [DataW.weights, Try.underlying27, List.map_cons, List.map_nil, DataW.weightsEach, List.mem_append]
        exact Or.inr (Or.inl hy)))
      exact ⟨⟨N, .slice a1 l1 c1, l1, X1⟩, by simpa using e0, by simpa using e1, hX.isl⟩
    obtain ⟨q, hq⟩ := choose_lt each
    have hr : (len + (m - len)) * 32 ≤ 140737488351232 := by
      have h1 := hs ((len + (m - len)) * Try.prog.bytesOf 27) (by
        rw [hd]
        simp [DataW.weights, Try.underlying25])
      rw [Try.bytesShare] at h1
      simpa [reachBytes] using h1
    refine ⟨fun i => (q i).1, fun i => (q i).2.1, fun i => (q i).2.2.1, fun i => (q i).2.2.2, some ad, m, rfl, ⟨hl, by omega⟩, ?_⟩
    by_cases h0 : len = 0
    · exact Or.inl h0
    · obtain ⟨b, off, spot⟩ := ad
      have hspot : spot = none := by simpa [Addr.add] using World.cell?_spot (hall 0 (by omega)).1
      subst hspot
      refine Or.inr ⟨b, off, rfl, ?_, fun j hj => ?_⟩
      · have h1 := cell_lt (hall 0 (by omega)).1
        simpa [Addr.add] using h1
      · obtain ⟨c0, c1, _, _⟩ := hall j (by omega)
        obtain ⟨e0, e1, hi⟩ := hq j hj
        rw [e0] at c0
        rw [e1] at c1
        rw [← Go.WideShapes.add_plain, Nat.add_assoc, ← Go.WideShapes.add_plain]
        exact ⟨c0, c1, hi⟩

end Go.Proofs.Ytfcpmpcfbhkacaa
