/- Several texts of one proof, in their order. -/
import Derived.Test.YtdhefajaekackaaPlSum3
import Derived.Test.YtdhefajaekackaaPlSum11
import Derived.Deep.Slices
import Derived.Deep.Strs
import Derived.Test.YtdhefajaekackaaPlSum6
import Derived.Test.YtdhefajaekackaaPlSum9

/- How the laws' arguments are read: versions, books that come in, within the form's own reach. -/
namespace Go.Proofs.Ytdhefajaekackaa

open Go.ChangeShapes Go.WideShapes Go.ChangeAt Go.RowKit Go.Deep
set_option linter.unusedVariables false

variable {H : Type} {enc : TypeId × Value → H} {W : World}

theorem Try.cellsVer : Try.prog.cellsOf 29 = 4 := by kernel_rfl
theorem Try.cellsVers : Try.prog.cellsOf 22 = 1 := by kernel_rfl
theorem Try.cellsBook : Try.prog.cellsOf 24 = 1 := by kernel_rfl
theorem Try.bytesVer : Try.prog.bytesOf 29 = 48 := by kernel_rfl

/-- a plan, by its cells -/
theorem plan_cells {fuel : Nat} {cs : List Value} {x : DataW H × List MemPlace} (h : DataW.trod enc Try.prog W 0 (fun _ => true) true fuel 27 cs = some x) :
    ∃ nd of sz : Int, cs = [.int .i64 nd, .int .i64 of, .int .i64 sz] := by
  obtain ⟨y0, y1, y2, n, hx, hl, h0, h1, h2⟩ := trod_struct3 Try.underlying27 h
  rw [Try.cellsPlan] at hl
  rw [Try.cellsInt] at h0 h1 h2
  obtain ⟨a, e0, _, b0⟩ := DataW.trod_int Try.underlying3 h0
  obtain ⟨b, e1, _, b1⟩ := DataW.trod_int Try.underlying3 h1
  obtain ⟨c, e2, _, b2⟩ := DataW.trod_int Try.underlying3 h2
  refine ⟨a, b, c, ?_⟩
  match cs, hl with
  | [u0, u1, u2], _ =>
    simp at e0 e1 e2
    subst e0 e1 e2
    rfl

/-- a version, by its cells -/
theorem ver_cells {fuel : Nat} {cs : List Value} {x : DataW H × List MemPlace} (h : DataW.trod enc Try.prog W 0 (fun _ => true) true fuel 29 cs = some x) (hs : ∀ y ∈ x.1.weights Try.prog 29, y ≤ reachBytes) :
    ∃ (a : Option Addr) (len cap : Nat) (X : Nat → Int) (nd of sz : Int), cs = [.slice a len cap, .int .i64 nd, .int .i64 of, .int .i64 sz] ∧ SlArg W a len cap X := by
  obtain ⟨y0, y1, n, hx, hl, h0, h1⟩ := trod_struct2 Try.underlying29 h
  rw [Try.cellsVer] at hl
  rw [Try.cellsInts] at h0
  rw [Try.cellsPlan] at h1
  have hd : x.1 = .agg [y0.1, y1.1] := congrArg Prod.fst hx
  obtain ⟨a, len, cap, X, e0, hX⟩ := isl_cell h0 (fun y hy => hs y (by
    rw [hd]
    simp only [DataW.weights, Try.underlying29, List.map_cons, List.map_nil, DataW.weightsEach, List.mem_append]
    exact Or.inl hy))
  obtain ⟨nd, of, sz, e1⟩ := plan_cells h1
  refine ⟨a, len, cap, X, nd, of, sz, ?_, hX⟩
  match cs, hl with
  | [u0, u1, u2, u3], _ =>
    simp at e0 e1
    obtain ⟨rfl, rfl, rfl⟩ := e1
    subst e0
    rfl

/-- a list of versions, by its one cell -/
theorem vers_cell {fuel : Nat} {cs : List Value} {x : DataW H × List MemPlace} (h : DataW.trod enc Try.prog W 0 (fun _ => true) true fuel 22 cs = some x) (hs : ∀ y ∈ x.1.weights Try.prog 22, y ≤ reachBytes) :
    ∃ v n PV b, cs = [v] ∧ VeSl W W.heap.size v n PV b := by
  rcases open_slice Try.underlying22 h with ⟨hcs, _⟩ | ⟨ad, len, cap, m, n, D, Pl, hcs, _, hl, hm, hmm, hx, hall⟩
  · exact ⟨_, 0, fun _ => undef, ⟨fun _ => 0, fun _ _ => 0, fun _ => 0, fun _ => 0, fun _ => 0⟩, hcs, none, 0, rfl, ⟨Nat.le_refl _, by omega⟩, Or.inl rfl⟩
  · simp only [if_true] at hmm
    subst hmm
    have hd : x.1 = .slice ((List.range len).map D) ((List.range (m - len)).map fun j => D (len + j)) := congrArg Prod.fst hx
    rw [Try.cellsVer] at hall
    have each : ∀ i, i < len → ∃ q : Value × Nat × (Nat → Int) × Int × Int × Int, W.cell? (Addr.add ad (i * 4)) = some q.1 ∧ W.cell? (Addr.add ad (i * 4 + 1)) = some (.int .i64 q.2.2.2.1) ∧ W.cell? (Addr.add ad (i * 4 + 2)) = some (.int .i64 q.2.2.2.2.1) ∧ W.cell? (Addr.add ad (i * 4 + 3)) = some (.int .i64 q.2.2.2.2.2) ∧ IntSl W W.heap.size q.1 q.2.1 q.2.2.1 := by
      intro i hi
      obtain ⟨cs', h1, h2⟩ := hall i (by omega)
      obtain ⟨_, _, hcell⟩ := World.cells?_some h1
      obtain ⟨a1, l1, c1, X1, nd, of, sz, e, hX⟩ := ver_cells h2 (fun y hy => hs y (by
        rw [hd]
        simp only [DataW.weights, Try.underlying22, List.mem_cons, List.mem_append]
        exact Or.inr (Or.inl (weightsAll_mem (d := D i) (List.mem_map.2 ⟨i, List.mem_range.2 hi, rfl⟩) hy))))
      subst e
      have e0 := hcell 0 (by omega)
      have e1 := hcell 1 (by omega)
      have e2 := hcell 2 (by omega)
      have e3 := hcell 3 (by omega)
      rw [add_add] at e0 e1 e2 e3
      exact ⟨⟨.slice a1 l1 c1, l1, X1, nd, of, sz⟩, e0, e1, e2, e3, hX.isl⟩
    obtain ⟨q, hq⟩ := choose_lt each
    have hr : (len + (m - len)) * 48 ≤ 140737488351232 := by
      have h1 := hs ((len + (m - len)) * Try.prog.bytesOf 29) (by
        rw [hd]
        simp [DataW.weights, Try.underlying22])
      rw [Try.bytesVer] at h1
      simpa [reachBytes] using h1
    refine ⟨_, len, fun i => (q i).1, ⟨fun i => (q i).2.1, fun i => (q i).2.2.1, fun i => (q i).2.2.2.1, fun i => (q i).2.2.2.2.1, fun i => (q i).2.2.2.2.2⟩, hcs, some ad, m, rfl, ⟨hl, by omega⟩, ?_⟩
    by_cases h0 : len = 0
    · exact Or.inl h0
    · obtain ⟨b, off, spot⟩ := ad
      have hspot : spot = none := by simpa [Addr.add] using World.cell?_spot (hq 0 (by omega)).1
      subst hspot
      refine Or.inr ⟨b, off, rfl, ?_, fun j hj => ?_⟩
      · have h1 := cell_lt (hq 0 (by omega)).1
        simpa [Addr.add] using h1
      · obtain ⟨c0, c1, c2, c3, hi⟩ := hq j hj
        rw [Go.WideShapes.add_plain] at c0 c1 c2 c3
        exact ⟨c0, by simpa [Nat.add_assoc] using c1, by simpa [Nat.add_assoc] using c2, by simpa [Nat.add_assoc] using c3, hi⟩

theorem book_one {v : Value} (h : ∃ cs, v = .agg cs ∧ cs.size = Try.prog.cellsOf 24) : ∃ u, v = .agg #[u] := by
  obtain ⟨cs, rfl, hs⟩ := h
  rw [Try.cellsBook] at hs
  obtain ⟨l⟩ := cs
  match l, hs with
  | [u], _ => exact ⟨u, rfl⟩

/-- a book that came in -/
theorem book_open {v : Value} {d : DataW H} {p : List MemPlace} (h : DataW.Trod enc Try.prog W 0 (fun _ => true) true 24 v d p) (hk : ∃ u, v = .agg #[u]) (hs : ∀ y ∈ d.weights Try.prog 24, y ≤ reachBytes) :
    ∃ vs n PV b, v = bookV vs ∧ VeSl W W.heap.size vs n PV b := by
  obtain ⟨fuel, hf⟩ := h
  obtain ⟨y0, n, hx, hl, h0⟩ := trod_struct1 Try.underlying24 hf
  rw [Try.cellsVers] at h0
  have hd : d = .agg [y0.1] := congrArg Prod.fst hx
  obtain ⟨vs, m, PV, b, e, hv⟩ := vers_cell h0 (fun y hy => hs y (by
    rw [hd]
    simp only [DataW.weights, Try.underlying24, List.map_cons, List.map_nil, DataW.weightsEach, List.mem_append]
    exact Or.inl hy))
  obtain ⟨u, rfl⟩ := hk
  simp [Value.cells] at e
  subst e
  exact ⟨_, m, PV, b, rfl, hv⟩

end Go.Proofs.Ytdhefajaekackaa

/- How the laws' arguments are read: kept ones, peers that come in, within the form's own reach. -/
namespace Go.Proofs.Ytdhefajaekackaa

open Go.ChangeShapes Go.WideShapes Go.ChangeAt Go.RowKit Go.Deep
set_option linter.unusedVariables false

variable {H : Type} {enc : TypeId × Value → H} {W : World}

theorem Try.cellsBool : Try.prog.cellsOf 4 = 1 := by kernel_rfl
theorem Try.cellsShr : Try.prog.cellsOf 60 = 2 := by kernel_rfl
theorem Try.cellsKept : Try.prog.cellsOf 62 = 3 := by kernel_rfl
theorem Try.cellsKepts : Try.prog.cellsOf 56 = 1 := by kernel_rfl
theorem Try.cellsPeer : Try.prog.cellsOf 58 = 3 := by kernel_rfl
theorem Try.bytesKept : Try.prog.bytesOf 62 = 40 := by kernel_rfl

/-- a share, by its cells -/
theorem shr_cells {fuel : Nat} {cs : List Value} {x : DataW H × List MemPlace} (h : DataW.trod enc Try.prog W 0 (fun _ => true) true fuel 60 cs = some x) (hs : ∀ y ∈ x.1.weights Try.prog 60, y ≤ reachBytes) :
    ∃ (N : Int) (a : Option Addr) (len cap : Nat) (X : Nat → Int), cs = [.int .i64 N, .slice a len cap] ∧ SlArg W a len cap X := by
  obtain ⟨y0, y1, n, hx, hl, h0, h1⟩ := trod_struct2 Try.underlying60 h
  rw [Try.cellsShr] at hl
  rw [Try.cellsInt] at h0
  rw [Try.cellsInts] at h1
  obtain ⟨N, e0, _, b0⟩ := DataW.trod_int Try.underlying3 h0
  have hd : x.1 = .agg [y0.1, y1.1] := congrArg Prod.fst hx
  obtain ⟨a, len, cap, X, e1, hX⟩ := isl_cell h1 (fun y hy => hs y (by
    rw [hd]
    simp only [DataW.weights, Try.underlying60, List.map_cons, List.map_nil, DataW.weightsEach, List.mem_append]
    exact Or.inr (Or.inl hy)))
  refine ⟨N, a, len, cap, X, ?_, hX⟩
  match cs, hl with
  | [u0, u1], _ =>
    simp at e0 e1
    subst e0 e1
    rfl

/-- a kept one, by its cells -/
theorem kept_cells {fuel : Nat} {cs : List Value} {x : DataW H × List MemPlace} (h : DataW.trod enc Try.prog W 0 (fun _ => true) true fuel 62 cs = some x) (hs : ∀ y ∈ x.1.weights Try.prog 62, y ≤ reachBytes) :
    ∃ (ver N : Int) (a : Option Addr) (len cap : Nat) (X : Nat → Int), cs = [.int .i64 ver, .int .i64 N, .slice a len cap] ∧ SlArg W a len cap X := by
  obtain ⟨y0, y1, n, hx, hl, h0, h1⟩ := trod_struct2 Try.underlying62 h
  rw [Try.cellsKept] at hl
  rw [Try.cellsInt] at h0
  rw [Try.cellsShr] at h1
  obtain ⟨ver, e0, _, b0⟩ := DataW.trod_int Try.underlying3 h0
  have hd : x.1 = .agg [y0.1, y1.1] := congrArg Prod.fst hx
  obtain ⟨N, a, len, cap, X, e1, hX⟩ := shr_cells h1 (fun y hy => hs y (by
    rw [hd]
    simp only [DataW.weights, Try.underlying62, List.map_cons, List.map_nil, DataW.weightsEach, List.mem_append]
    exact Or.inr (Or.inl hy)))
  refine ⟨ver, N, a, len, cap, X, ?_, hX⟩
  match cs, hl with
  | [u0, u1, u2], _ =>
    simp at e0 e1
    obtain ⟨rfl, rfl⟩ := e1
    subst e0
    rfl

/-- a list of kept ones, by its one cell -/
theorem kepts_cell {fuel : Nat} {cs : List Value} {x : DataW H × List MemPlace} (h : DataW.trod enc Try.prog W 0 (fun _ => true) true fuel 56 cs = some x) (hs : ∀ y ∈ x.1.weights Try.prog 56, y ≤ reachBytes) :
    ∃ v n UV t, cs = [v] ∧ KeSl W W.heap.size v n UV t := by
  rcases open_slice Try.underlying56 h with ⟨hcs, _⟩ | ⟨ad, len, cap, m, n, D, Pl, hcs, _, hl, hm, hmm, hx, hall⟩
  · exact ⟨_, 0, fun _ => undef, ⟨fun _ => 0, fun _ => 0, fun _ => 0, fun _ _ => 0⟩, hcs, none, 0, rfl, ⟨Nat.le_refl _, by omega⟩, Or.inl rfl⟩
  · simp only [if_true] at hmm
    subst hmm
    have hd : x.1 = .slice ((List.range len).map D) ((List.range (m - len)).map fun j => D (len + j)) := congrArg Prod.fst hx
    rw [Try.cellsKept] at hall
    have each : ∀ i, i < len → ∃ q : Int × Int × Value × Nat × (Nat → Int), W.cell? (Addr.add ad (i * 3)) = some (.int .i64 q.1) ∧ W.cell? (Addr.add ad (i * 3 + 1)) = some (.int .i64 q.2.1) ∧ W.cell? (Addr.add ad (i * 3 + 2)) = some q.2.2.1 ∧ IntSl W W.heap.size q.2.2.1 q.2.2.2.1 q.2.2.2.2 := by
      intro i hi
      obtain ⟨cs', h1, h2⟩ := hall i (by omega)
      obtain ⟨_, _, hcell⟩ := World.cells?_some h1
      obtain ⟨ver, N, a1, l1, c1, X1, e, hX⟩ := kept_cells h2 (fun y hy => hs y (by
        rw [hd]
        simp only [DataW.weights, Try.underlying56, List.mem_cons, List.mem_append]
        exact Or.inr (Or.inl (weightsAll_mem (d := D i) (List.mem_map.2 ⟨i, List.mem_range.2 hi, rfl⟩) hy))))
      subst e
      have e0 := hcell 0 (by omega)
      have e1 := hcell 1 (by omega)
      have e2 := hcell 2 (by omega)
      rw [add_add] at e0 e1 e2
      exact ⟨⟨ver, N, .slice a1 l1 c1, l1, X1⟩, e0, e1, e2, hX.isl⟩
    obtain ⟨q, hq⟩ := choose_lt each
    have hr : (len + (m - len)) * 40 ≤ 140737488351232 := by
      have h1 := hs ((len + (m - len)) * Try.prog.bytesOf 62) (by
        rw [hd]
        simp [DataW.weights, Try.underlying56])
      rw [Try.bytesKept] at h1
      simpa [reachBytes] using h1
    refine ⟨_, len, fun i => (q i).2.2.1, ⟨fun i => (q i).1, fun i => (q i).2.1, fun i => (q i).2.2.2.1, fun i => (q i).2.2.2.2⟩, hcs, some ad, m, rfl, ⟨hl, by omega⟩, ?_⟩
    by_cases h0 : len = 0
    · exact Or.inl h0
    · obtain ⟨b, off, spot⟩ := ad
      have hspot : spot = none := by simpa [Addr.add] using World.cell?_spot (hq 0 (by omega)).1
      subst hspot
      refine Or.inr ⟨b, off, rfl, ?_, fun j hj => ?_⟩
      · have h1 := cell_lt (hq 0 (by omega)).1
        simpa [Addr.add] using h1
      · obtain ⟨c0, c1, c2, hi⟩ := hq j hj
        rw [Go.WideShapes.add_plain] at c0 c1 c2
        exact ⟨c0, by simpa [Nat.add_assoc] using c1, by simpa [Nat.add_assoc] using c2, hi⟩

end Go.Proofs.Ytdhefajaekackaa

/- How the laws' arguments are read: lists of peers that come in, within the form's own reach. -/
namespace Go.Proofs.Ytdhefajaekackaa

open Go.ChangeShapes Go.WideShapes Go.ChangeAt Go.RowKit Go.Deep
set_option linter.unusedVariables false

variable {H : Type} {enc : TypeId × Value → H} {W : World}

theorem Try.bytesPeer : Try.prog.bytesOf 58 = 40 := by kernel_rfl
theorem Try.cellsPeers : Try.prog.cellsOf 73 = 1 := by kernel_rfl

/-- a peer, by its cells -/
theorem peer_cells {fuel : Nat} {cs : List Value} {x : DataW H × List MemPlace} (h : DataW.trod enc Try.prog W 0 (fun _ => true) true fuel 58 cs = some x) (hs : ∀ y ∈ x.1.weights Try.prog 58, y ≤ reachBytes) :
    ∃ (th : Bool) (room : Int) (vk : Value) (m : Nat) (UV : Nat → Value) (t : Kt), cs = [.bool th, .int .i64 room, vk] ∧ KeSl W W.heap.size vk m UV t := by
  obtain ⟨y0, y1, y2, n, hx, hl, h0, h1, h2⟩ := trod_struct3 Try.underlying58 h
  rw [Try.cellsPeer] at hl
  rw [Try.cellsBool] at h0
  rw [Try.cellsInt] at h1
  rw [Try.cellsKepts] at h2
  obtain ⟨th, e0, _⟩ := DataW.trod_bool Try.underlying4 h0
  obtain ⟨room, e1, _, b1⟩ := DataW.trod_int Try.underlying3 h1
  have hd : x.1 = .agg [y0.1, y1.1, y2.1] := congrArg Prod.fst hx
  obtain ⟨vk, m, UV, t, e2, hk⟩ := kepts_cell h2 (fun y hy => hs y (by
    rw [hd]
    simp only [DataW.weights, Try.underlying58, List.map_cons, List.map_nil, DataW.weightsEach, List.mem_append]
    exact Or.inr (Or.inr (Or.inl hy))))
  refine ⟨th, room, vk, m, UV, t, ?_, hk⟩
  match cs, hl with
  | [u0, u1, u2], _ =>
    simp at e0 e1 e2
    subst e0 e1 e2
    rfl

/-- a list of peers, by its one cell -/
theorem peers_cell {fuel : Nat} {cs : List Value} {x : DataW H × List MemPlace} (h : DataW.trod enc Try.prog W 0 (fun _ => true) true fuel 73 cs = some x) (hs : ∀ y ∈ x.1.weights Try.prog 73, y ≤ reachBytes) :
    ∃ v n KV UV P, cs = [v] ∧ PsSl W W.heap.size v n KV UV P := by
  rcases open_slice Try.underlying73 h with ⟨hcs, _⟩ | ⟨ad, len, cap, m, n, D, Pl, hcs, _, hl, hm, hmm, hx, hall⟩
  · exact ⟨_, 0, fun _ => undef, fun _ _ => undef, ⟨fun _ => false, fun _ => 0, fun _ => 0, fun _ => ⟨fun _ => 0, fun _ => 0, fun _ => 0, fun _ _ => 0⟩⟩, hcs, none, 0, rfl, ⟨Nat.le_refl _, by omega⟩, Or.inl rfl⟩
  · simp only [if_true] at hmm
    subst hmm
    have hd : x.1 = .slice ((List.range len).map D) ((List.range (m - len)).map fun j => D (len + j)) := congrArg Prod.fst hx
    rw [Try.cellsPeer] at hall
    have each : ∀ i, i < len → ∃ q : Bool × Int × Value × Nat × (Nat → Value) × Kt, W.cell? (Addr.add ad (i * 3)) = some (.bool q.1) ∧ W.cell? (Addr.add ad (i * 3 + 1)) = some (.int .i64 q.2.1) ∧ W.cell? (Addr.add ad (i * 3 + 2)) = some q.2.2.1 ∧ KeSl W W.heap.size q.2.2.1 q.2.2.2.1 q.2.2.2.2.1 q.2.2.2.2.2 := by
      intro i hi
      obtain ⟨cs', h1, h2⟩ := hall i (by omega)
      obtain ⟨_, _, hcell⟩ := World.cells?_some h1
      obtain ⟨th, room, vk, mk, UV, t, e, hX⟩ := peer_cells h2 (fun y hy => hs y (by
        rw [hd]
        simp only [DataW.weights, Try.underlying73, List.mem_cons, List.mem_append]
        exact Or.inr (Or.inl (weightsAll_mem (d := D i) (List.mem_map.2 ⟨i, List.mem_range.2 hi, rfl⟩) hy))))
      subst e
      have e0 := hcell 0 (by omega)
      have e1 := hcell 1 (by omega)
      have e2 := hcell 2 (by omega)
      rw [add_add] at e0 e1 e2
      exact ⟨⟨th, room, vk, mk, UV, t⟩, e0, e1, e2, hX⟩
    haveI : Inhabited Kt := ⟨⟨fun _ => 0, fun _ => 0, fun _ => 0, fun _ _ => 0⟩⟩
    obtain ⟨q, hq⟩ := choose_lt each
    have hr : (len + (m - len)) * 40 ≤ 140737488351232 := by
      have h1 := hs ((len + (m - len)) * Try.prog.bytesOf 58) (by
        rw [hd]
        simp [DataW.weights, Try.underlying73])
      rw [Try.bytesPeer] at h1
      simpa [reachBytes] using h1
    refine ⟨_, len, fun i => (q i).2.2.1, fun i => (q i).2.2.2.2.1, ⟨fun i => (q i).1, fun i => (q i).2.1, fun i => (q i).2.2.2.1, fun i => (q i).2.2.2.2.2⟩, hcs, some ad, m, rfl, ⟨hl, by omega⟩, ?_⟩
    by_cases h0 : len = 0
    · exact Or.inl h0
    · obtain ⟨b, off, spot⟩ := ad
      have hspot : spot = none := by simpa [Addr.add] using World.cell?_spot (hq 0 (by omega)).1
      subst hspot
      refine Or.inr ⟨b, off, rfl, ?_, fun j hj => ?_⟩
      · have h1 := cell_lt (hq 0 (by omega)).1
        simpa [Addr.add] using h1
      · obtain ⟨c0, c1, c2, hi⟩ := hq j hj
        rw [Go.WideShapes.add_plain] at c0 c1 c2
        exact ⟨c0, by simpa [Nat.add_assoc] using c1, by simpa [Nat.add_assoc] using c2, hi⟩

/-- a list of peers that came in -/
theorem peers_open {v : Value} {d : DataW H} {p : List MemPlace} (h : DataW.Trod enc Try.prog W 0 (fun _ => true) true 73 v d p) (hv : v.cells = #[v]) (hs : ∀ y ∈ d.weights Try.prog 73, y ≤ reachBytes) :
    ∃ n KV UV P, PsSl W W.heap.size v n KV UV P := by
  obtain ⟨fuel, hf⟩ := h
  obtain ⟨u, n, KV, UV, P, e, hk⟩ := peers_cell hf hs
  rw [hv] at e
  injection e with e1
  subst e1
  exact ⟨n, KV, UV, P, hk⟩

end Go.Proofs.Ytdhefajaekackaa
