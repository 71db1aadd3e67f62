/- How the laws' arguments are read: kept ones, peers that come in, within the form's own reach. -/
import Derived.Test.YtmefjflponcfhaePeerSpec
import Derived.Test.YtmefjflponcfhaeBookFrame
namespace Go.Proofs.Ytmefjflponcfhae
open Go.ChangeShapes Go.WideShapes Go.ChangeAt Go.RowKit Go.Deep
set_option linter.unusedVariables false

variable {H : Type} {enc : TypeId × Value → H} {W : World}

theorem Try.cellsBool : Try.prog.cellsOf 4 = 1 := by kernel_rfl
theorem Try.cellsShr : Try.prog.cellsOf 49 = 2 := by kernel_rfl
theorem Try.cellsKept : Try.prog.cellsOf 51 = 3 := by kernel_rfl
theorem Try.cellsKepts : Try.prog.cellsOf 35 = 1 := by kernel_rfl
theorem Try.cellsPeer : Try.prog.cellsOf 37 = 3 := by kernel_rfl
theorem Try.bytesKept : Try.prog.bytesOf 51 = 40 := by kernel_rfl

/-- a share, by its cells -/
theorem shr_cells {fuel : Nat} {cs : List Value} {x : DataW H × List MemPlace} (h : DataW.trod enc Try.prog W 0 (fun _ => true) true fuel 49 cs = some x) (hs : ∀ y ∈ x.1.weights Try.prog 49, y ≤ reachBytes) :
    ∃ (N : Int) (a : Option Addr) (len cap : Nat) (X : Nat → Int), cs = [.int .i64 N, .slice a len cap] ∧ SlArg W a len cap X := by
  obtain ⟨y0, y1, n, hx, hl, h0, h1⟩ := trod_struct2 Try.underlying49 h
  rw [Try.cellsShr] at hl
  rw [Try.cellsInt] at h0
  rw [Try.cellsInts] at h1
  obtain ⟨N, e0, _, b0⟩ := DataW.trod_int Try.underlying3 h0
  have hd : x.1 = .agg [y0.1, y1.1] := congrArg Prod.fst hx
  obtain ⟨a, len, cap, X, e1, hX⟩ := isl_cell h1 (fun y hy => hs y (by
    rw [hd]
    simp only [DataW.weights, Try.underlying49, List.map_cons, List.map_nil, DataW.weightsEach, List.mem_append]
    exact Or.inr (Or.inl hy)))
  refine ⟨N, a, len, cap, X, ?_, hX⟩
  match cs, hl with
  | [u0, u1], _ =>
    simp at e0 e1
    subst e0 e1
    rfl

/-- a kept one, by its cells -/
theorem kept_cells {fuel : Nat} {cs : List Value} {x : DataW H × List MemPlace} (h : DataW.trod enc Try.prog W 0 (fun _ => true) true fuel 51 cs = some x) (hs : ∀ y ∈ x.1.weights Try.prog 51, y ≤ reachBytes) :
    ∃ (ver N : Int) (a : Option Addr) (len cap : Nat) (X : Nat → Int), cs = [.int .i64 ver, .int .i64 N, .slice a len cap] ∧ SlArg W a len cap X := by
  obtain ⟨y0, y1, n, hx, hl, h0, h1⟩ := trod_struct2 Try.underlying51 h
  rw [Try.cellsKept] at hl
  rw [Try.cellsInt] at h0
  rw [Try.cellsShr] at h1
  obtain ⟨ver, e0, _, b0⟩ := DataW.trod_int Try.underlying3 h0
  have hd : x.1 = .agg [y0.1, y1.1] := congrArg Prod.fst hx
  obtain ⟨N, a, len, cap, X, e1, hX⟩ := shr_cells h1 (fun y hy => hs y (by
    rw [hd]
    simp only [DataW.weights, Try.underlying51, List.map_cons, List.map_nil, DataW.weightsEach, List.mem_append]
    exact Or.inr (Or.inl hy)))
  refine ⟨ver, N, a, len, cap, X, ?_, hX⟩
  match cs, hl with
  | [u0, u1, u2], _ =>
    simp at e0 e1
    obtain ⟨rfl, rfl⟩ := e1
    subst e0
    rfl

/-- a kept one that came in -/
theorem kept_open {v : Value} {d : DataW H} {p : List MemPlace} (h : DataW.Trod enc Try.prog W 0 (fun _ => true) true 51 v d p) (hs : ∀ y ∈ d.weights Try.prog 51, y ≤ reachBytes) :
    ∃ (ver N : Int) (a : Option Addr) (len cap : Nat) (X : Nat → Int), v = keptV ver N (.slice a len cap) ∧ SlArg W a len cap X := by
  obtain ⟨fuel, hf⟩ := h
  obtain ⟨ver, N, a, len, cap, X, e, hX⟩ := kept_cells hf hs
  have hv := agg_of (n := 3) (by omega) (by rw [e]; rfl)
  refine ⟨ver, N, a, len, cap, X, ?_, hX⟩
  rw [hv]
  generalize v.cells = cs at *
  obtain ⟨l⟩ := cs
  have e' : l = _ := e
  subst e'
  rfl

/-- a list of kept ones, by its one cell -/
theorem kepts_cell {fuel : Nat} {cs : List Value} {x : DataW H × List MemPlace} (h : DataW.trod enc Try.prog W 0 (fun _ => true) true fuel 35 cs = some x) (hs : ∀ y ∈ x.1.weights Try.prog 35, y ≤ reachBytes) :
    ∃ v n UV t, cs = [v] ∧ KeSl W W.heap.size v n UV t := by
  rcases open_slice Try.underlying35 h with ⟨hcs, _⟩ | ⟨ad, len, cap, m, n, D, Pl, hcs, _, hl, hm, hmm, hx, hall⟩
  · exact ⟨_, 0, fun _ => undef, ⟨fun _ => 0, fun _ => 0, fun _ => 0, fun _ _ => 0⟩, hcs, none, 0, rfl, ⟨Nat.le_refl _, by omega⟩, Or.inl rfl⟩
  · simp only [if_true] at hmm
    subst hmm
    have hd : x.1 = .slice ((List.range len).map D) ((List.range (m - len)).map fun j => D (len + j)) := congrArg Prod.fst hx
    rw [Try.cellsKept] at hall
    have each : ∀ i, i < len → ∃ q : Int × Int × Value × Nat × (Nat → Int), W.cell? (Addr.add ad (i * 3)) = some (.int .i64 q.1) ∧ W.cell? (Addr.add ad (i * 3 + 1)) = some (.int .i64 q.2.1) ∧ W.cell? (Addr.add ad (i * 3 + 2)) = some q.2.2.1 ∧ IntSl W W.heap.size q.2.2.1 q.2.2.2.1 q.2.2.2.2 := by
      intro i hi
      obtain ⟨cs', h1, h2⟩ := hall i (by omega)
      obtain ⟨_, _, hcell⟩ := World.cells?_some h1
      obtain ⟨ver, N, a1, l1, c1, X1, e, hX⟩ := kept_cells h2 (fun y hy => hs y (by
        rw [hd]
        simp only [DataW.weights, Try.underlying35, List.mem_cons, List.mem_append]
        exact Or.inr (Or.inl (weightsAll_mem (d := D i) (List.mem_map.2 ⟨i, List.mem_range.2 hi, rfl⟩) hy))))
      subst e
      have e0 := hcell 0 (by omega)
      have e1 := hcell 1 (by omega)
      have e2 := hcell 2 (by omega)
      rw [add_add] at e0 e1 e2
      exact ⟨⟨ver, N, .slice a1 l1 c1, l1, X1⟩, e0, e1, e2, hX.isl⟩
    obtain ⟨q, hq⟩ := choose_lt each
    have hr : (len + (m - len)) * 40 ≤ 140737488351232 := by
      have h1 := hs ((len + (m - len)) * Try.prog.bytesOf 51) (by
        rw [hd]
        simp [DataW.weights, Try.underlying35])
      rw [Try.bytesKept] at h1
      simpa [reachBytes] using h1
    refine ⟨_, len, fun i => (q i).2.2.1, ⟨fun i => (q i).1, fun i => (q i).2.1, fun i => (q i).2.2.2.1, fun i => (q i).2.2.2.2⟩, hcs, some ad, m, rfl, ⟨hl, by omega⟩, ?_⟩
    by_cases h0 : len = 0
    · exact Or.inl h0
    · obtain ⟨b, off, spot⟩ := ad
      have hspot : spot = none := by simpa [Addr.add] using World.cell?_spot (hq 0 (by omega)).1
      subst hspot
      refine Or.inr ⟨b, off, rfl, ?_, fun j hj => ?_⟩
      · have h1 := cell_lt (hq 0 (by omega)).1
        simpa [Addr.add] using h1
      · obtain ⟨c0, c1, c2, hi⟩ := hq j hj
        rw [Go.WideShapes.add_plain] at c0 c1 c2
        exact ⟨c0, by simpa [Nat.add_assoc] using c1, by simpa [Nat.add_assoc] using c2, hi⟩

/-- a peer that came in -/
theorem peer_open {v : Value} {d : DataW H} {p : List MemPlace} (h : DataW.Trod enc Try.prog W 0 (fun _ => true) true 37 v d p) (hs : ∀ y ∈ d.weights Try.prog 37, y ≤ reachBytes) :
    ∃ th room vk n UV t, v = peerV th room vk ∧ (Lit.int .i64 room).wf = true ∧ KeSl W W.heap.size vk n UV t := by
  obtain ⟨fuel, hf⟩ := h
  obtain ⟨y0, y1, y2, n, hx, hl, h0, h1, h2⟩ := trod_struct3 Try.underlying37 hf
  rw [Try.cellsPeer] at hl
  have hv := agg_of (by omega) hl
  rw [Try.cellsBool] at h0
  rw [Try.cellsInt] at h1
  rw [Try.cellsKepts] at h2
  obtain ⟨th, e0, _⟩ := DataW.trod_bool Try.underlying4 h0
  obtain ⟨room, e1, _, b1⟩ := DataW.trod_int Try.underlying3 h1
  have hd : d = .agg [y0.1, y1.1, y2.1] := congrArg Prod.fst hx
  obtain ⟨vk, m, UV, t, e2, hk⟩ := kepts_cell h2 (fun y hy => hs y (by
    rw [hd]
    simp only [DataW.weights, Try.underlying37, List.map_cons, List.map_nil, DataW.weightsEach, List.mem_append]
    exact Or.inr (Or.inr (Or.inl hy))))
  refine ⟨th, room, vk, m, UV, t, ?_, b1, hk⟩
  rw [hv]
  generalize v.cells = cs at *
  obtain ⟨l⟩ := cs
  match l, hl with
  | [u0, u1, u2], _ =>
    simp at e0 e1 e2
    subst e0 e1 e2
    rfl

end Go.Proofs.Ytmefjflponcfhae
