/- Several texts of one proof, in their order. -/
import Derived.Test.YtjfnpjmhippdoafGreatFinds3
import Derived.Test.YtjfnpjmhippdoafGreatFinds32
import Derived.Test.YtjfnpjmhippdoafGreatFinds5

/- How the laws' arguments are read: kept ones, peers that come in, within the form's own reach. -/
namespace Go.Proofs.YtjfnpjmhippdoafGreat

open Go.ChangeShapes Go.WideShapes Go.ChangeAt Go.RowKit Go.Deep
set_option linter.unusedVariables false

variable {H : Type} {enc : TypeId × Value → H} {W : World}

theorem Tryz.cellsBool : Tryz.prog.cellsOf 4 = 1 := by kernel_rfl
theorem Tryz.cellsShr : Tryz.prog.cellsOf 48 = 2 := by kernel_rfl
theorem Tryz.cellsKept : Tryz.prog.cellsOf 50 = 3 := by kernel_rfl
theorem Tryz.cellsKepts : Tryz.prog.cellsOf 43 = 1 := by kernel_rfl
theorem Tryz.cellsPeer : Tryz.prog.cellsOf 45 = 3 := by kernel_rfl
theorem Tryz.bytesKept : Tryz.prog.bytesOf 50 = 40 := by kernel_rfl

/-- a share, by its cells -/
theorem shr_cells {fuel : Nat} {cs : List Value} {x : DataW H × List MemPlace} (h : DataW.trod enc Tryz.prog W 0 (fun _ => true) true fuel 48 cs = some x) (hs : ∀ y ∈ x.1.weights Tryz.prog 48, y ≤ reachBytes) :
    ∃ (N : Int) (a : Option Addr) (len cap : Nat) (X : Nat → Int), cs = [.int .i64 N, .slice a len cap] ∧ SlArg W a len cap X := by
  obtain ⟨y0, y1, n, hx, hl, h0, h1⟩ := trod_struct2 Tryz.underlying48 h
  rw [Tryz.cellsShr] at hl
  rw [Tryz.cellsInt] at h0
  rw [Tryz.cellsInts] at h1
  obtain ⟨N, e0, _, b0⟩ := DataW.trod_int Tryz.underlying3 h0
  have hd : x.1 = .agg [y0.1, y1.1] := congrArg Prod.fst hx
  obtain ⟨a, len, cap, X, e1, hX⟩ := isl_cell h1 (fun y hy => hs y (by
    rw [hd]
    simp only [DataW.weights, Tryz.underlying48, List.map_cons, List.map_nil, DataW.weightsEach, List.mem_append]
    exact Or.inr (Or.inl hy)))
  refine ⟨N, a, len, cap, X, ?_, hX⟩
  match cs, hl with
  | [u0, u1], _ =>
    simp at e0 e1
    subst e0 e1
    rfl

/-- a kept one, by its cells -/
theorem kept_cells {fuel : Nat} {cs : List Value} {x : DataW H × List MemPlace} (h : DataW.trod enc Tryz.prog W 0 (fun _ => true) true fuel 50 cs = some x) (hs : ∀ y ∈ x.1.weights Tryz.prog 50, y ≤ reachBytes) :
    ∃ (ver N : Int) (a : Option Addr) (len cap : Nat) (X : Nat → Int), cs = [.int .i64 ver, .int .i64 N, .slice a len cap] ∧ SlArg W a len cap X := by
  obtain ⟨y0, y1, n, hx, hl, h0, h1⟩ := trod_struct2 Tryz.underlying50 h
  rw [Tryz.cellsKept] at hl
  rw [Tryz.cellsInt] at h0
  rw [Tryz.cellsShr] at h1
  obtain ⟨ver, e0, _, b0⟩ := DataW.trod_int Tryz.underlying3 h0
  have hd : x.1 = .agg [y0.1, y1.1] := congrArg Prod.fst hx
  obtain ⟨N, a, len, cap, X, e1, hX⟩ := shr_cells h1 (fun y hy => hs y (by
    rw [hd]
    simp only [DataW.weights, Tryz.underlying50, List.map_cons, List.map_nil, DataW.weightsEach, List.mem_append]
    exact Or.inr (Or.inl hy)))
  refine ⟨ver, N, a, len, cap, X, ?_, hX⟩
  match cs, hl with
  | [u0, u1, u2], _ =>
    simp at e0 e1
    obtain ⟨rfl, rfl⟩ := e1
    subst e0
    rfl

/-- a list of kept ones, by its one cell -/
theorem kepts_cell {fuel : Nat} {cs : List Value} {x : DataW H × List MemPlace} (h : DataW.trod enc Tryz.prog W 0 (fun _ => true) true fuel 43 cs = some x) (hs : ∀ y ∈ x.1.weights Tryz.prog 43, y ≤ reachBytes) :
    ∃ v n UV t, cs = [v] ∧ KeSl W W.heap.size v n UV t := by
  rcases open_slice Tryz.underlying43 h with ⟨hcs, _⟩ | ⟨ad, len, cap, m, n, D, Pl, hcs, _, hl, hm, hmm, hx, hall⟩
  · exact ⟨_, 0, fun _ => undef, ⟨fun _ => 0, fun _ => 0, fun _ => 0, fun _ _ => 0⟩, hcs, none, 0, rfl, ⟨Nat.le_refl _, by omega⟩, Or.inl rfl⟩
  · simp only [if_true] at hmm
    subst hmm
    have hd : x.1 = .slice ((List.range len).map D) ((List.range (m - len)).map fun j => D (len + j)) := congrArg Prod.fst hx
    rw [Tryz.cellsKept] at hall
    have each : ∀ i, i < len → ∃ q : Int × Int × Value × Nat × (Nat → Int), W.cell? (Addr.add ad (i * 3)) = some (.int .i64 q.1) ∧ W.cell? (Addr.add ad (i * 3 + 1)) = some (.int .i64 q.2.1) ∧ W.cell? (Addr.add ad (i * 3 + 2)) = some q.2.2.1 ∧ IntSl W W.heap.size q.2.2.1 q.2.2.2.1 q.2.2.2.2 := by
      intro i hi
      obtain ⟨cs', h1, h2⟩ := hall i (by omega)
      obtain ⟨_, _, hcell⟩ := World.cells?_some h1
      obtain ⟨ver, N, a1, l1, c1, X1, e, hX⟩ := kept_cells h2 (fun y hy => hs y (by
        rw [hd]
        simp only [DataW.weights, Tryz.underlying43, List.mem_cons, List.mem_append]
        exact Or.inr (Or.inl (weightsAll_mem (d := D i) (List.mem_map.2 ⟨i, List.mem_range.2 hi, rfl⟩) hy))))
      subst e
      have e0 := hcell 0 (by omega)
      have e1 := hcell 1 (by omega)
      have e2 := hcell 2 (by omega)
      rw [add_add] at e0 e1 e2
      exact ⟨⟨ver, N, .slice a1 l1 c1, l1, X1⟩, e0, e1, e2, hX.isl⟩
    obtain ⟨q, hq⟩ := choose_lt each
    have hr : (len + (m - len)) * 40 ≤ 140737488351232 := by
      have h1 := hs ((len + (m - len)) * Tryz.prog.bytesOf 50) (by
        rw [hd]
        simp [DataW.weights, Tryz.underlying43])
      rw [Tryz.bytesKept] at h1
      simpa [reachBytes] using h1
    refine ⟨_, len, fun i => (q i).2.2.1, ⟨fun i => (q i).1, fun i => (q i).2.1, fun i => (q i).2.2.2.1, fun i => (q i).2.2.2.2⟩, hcs, some ad, m, rfl, ⟨hl, by omega⟩, ?_⟩
    by_cases h0 : len = 0
    · exact Or.inl h0
    · obtain ⟨b, off, spot⟩ := ad
      have hspot : spot = none := by simpa [Addr.add] using World.cell?_spot (hq 0 (by omega)).1
      subst hspot
      refine Or.inr ⟨b, off, rfl, ?_, fun j hj => ?_⟩
      · have h1 := cell_lt (hq 0 (by omega)).1
        simpa [Addr.add] using h1
      · obtain ⟨c0, c1, c2, hi⟩ := hq j hj
        rw [Go.WideShapes.add_plain] at c0 c1 c2
        exact ⟨c0, by simpa [Nat.add_assoc] using c1, by simpa [Nat.add_assoc] using c2, hi⟩

end Go.Proofs.YtjfnpjmhippdoafGreat

/- How the laws' arguments are read: lists of peers that come in, within the form's own reach. -/
namespace Go.Proofs.YtjfnpjmhippdoafGreat

open Go.ChangeShapes Go.WideShapes Go.ChangeAt Go.RowKit Go.Deep
set_option linter.unusedVariables false

variable {H : Type} {enc : TypeId × Value → H} {W : World}

theorem Tryz.bytesPeer : Tryz.prog.bytesOf 45 = 40 := by kernel_rfl
theorem Tryz.cellsPeers : Tryz.prog.cellsOf 25 = 1 := by kernel_rfl

/-- a peer, by its cells -/
theorem peer_cells {fuel : Nat} {cs : List Value} {x : DataW H × List MemPlace} (h : DataW.trod enc Tryz.prog W 0 (fun _ => true) true fuel 45 cs = some x) (hs : ∀ y ∈ x.1.weights Tryz.prog 45, y ≤ reachBytes) :
    ∃ (th : Bool) (room : Int) (vk : Value) (m : Nat) (UV : Nat → Value) (t : Kt), cs = [.bool th, .int .i64 room, vk] ∧ KeSl W W.heap.size vk m UV t := by
  obtain ⟨y0, y1, y2, n, hx, hl, h0, h1, h2⟩ := trod_struct3 Tryz.underlying45 h
  rw [Tryz.cellsPeer] at hl
  rw [Tryz.cellsBool] at h0
  rw [Tryz.cellsInt] at h1
  rw [Tryz.cellsKepts] at h2
  obtain ⟨th, e0, _⟩ := DataW.trod_bool Tryz.underlying4 h0
  obtain ⟨room, e1, _, b1⟩ := DataW.trod_int Tryz.underlying3 h1
  have hd : x.1 = .agg [y0.1, y1.1, y2.1] := congrArg Prod.fst hx
  obtain ⟨vk, m, UV, t, e2, hk⟩ := kepts_cell h2 (fun y hy => hs y (by
    rw [hd]
    simp only [DataW.weights, Tryz.underlying45, List.map_cons, List.map_nil, DataW.weightsEach, List.mem_append]
    exact Or.inr (Or.inr (Or.inl hy))))
  refine ⟨th, room, vk, m, UV, t, ?_, hk⟩
  match cs, hl with
  | [u0, u1, u2], _ =>
    simp at e0 e1 e2
    subst e0 e1 e2
    rfl

/-- a list of peers, by its one cell -/
theorem peers_cell {fuel : Nat} {cs : List Value} {x : DataW H × List MemPlace} (h : DataW.trod enc Tryz.prog W 0 (fun _ => true) true fuel 25 cs = some x) (hs : ∀ y ∈ x.1.weights Tryz.prog 25, y ≤ reachBytes) :
    ∃ v n KV UV P, cs = [v] ∧ PsSl W W.heap.size v n KV UV P := by
  rcases open_slice Tryz.underlying25 h with ⟨hcs, _⟩ | ⟨ad, len, cap, m, n, D, Pl, hcs, _, hl, hm, hmm, hx, hall⟩
  · exact ⟨_, 0, fun _ => undef, fun _ _ => undef, ⟨fun _ => false, fun _ => 0, fun _ => 0, fun _ => ⟨fun _ => 0, fun _ => 0, fun _ => 0, fun _ _ => 0⟩⟩, hcs, none, 0, rfl, ⟨Nat.le_refl _, by omega⟩, Or.inl rfl⟩
  · simp only [if_true] at hmm
    subst hmm
    have hd : x.1 = .slice ((List.range len).map D) ((List.range (m - len)).map fun j => D (len + j)) := congrArg Prod.fst hx
    rw [Tryz.cellsPeer] at hall
    have each : ∀ i, i < len → ∃ q : Bool × Int × Value × Nat × (Nat → Value) × Kt, W.cell? (Addr.add ad (i * 3)) = some (.bool q.1) ∧ W.cell? (Addr.add ad (i * 3 + 1)) = some (.int .i64 q.2.1) ∧ W.cell? (Addr.add ad (i * 3 + 2)) = some q.2.2.1 ∧ KeSl W W.heap.size q.2.2.1 q.2.2.2.1 q.2.2.2.2.1 q.2.2.2.2.2 := by
      intro i hi
      obtain ⟨cs', h1, h2⟩ := hall i (by omega)
      obtain ⟨_, _, hcell⟩ := World.cells?_some h1
      obtain ⟨th, room, vk, mk, UV, t, e, hX⟩ := peer_cells h2 (fun y hy => hs y (by
        rw [hd]
        simp only [DataW.weights, Tryz.underlying25, List.mem_cons, List.mem_append]
        exact Or.inr (Or.inl (weightsAll_mem (d := D i) (List.mem_map.2 ⟨i, List.mem_range.2 hi, rfl⟩) hy))))
      subst e
      have e0 := hcell 0 (by omega)
      have e1 := hcell 1 (by omega)
      have e2 := hcell 2 (by omega)
      rw [add_add] at e0 e1 e2
      exact ⟨⟨th, room, vk, mk, UV, t⟩, e0, e1, e2, hX⟩
    haveI : Inhabited Kt := ⟨⟨fun _ => 0, fun _ => 0, fun _ => 0, fun _ _ => 0⟩⟩
    obtain ⟨q, hq⟩ := choose_lt each
    have hr : (len + (m - len)) * 40 ≤ 140737488351232 := by
      have h1 := hs ((len + (m - len)) * Tryz.prog.bytesOf 45) (by
        rw [hd]
        simp [DataW.weights, Tryz.underlying25])
      rw [Tryz.bytesPeer] at h1
      simpa [reachBytes] using h1
    refine ⟨_, len, fun i => (q i).2.2.1, fun i => (q i).2.2.2.2.1, ⟨fun i => (q i).1, fun i => (q i).2.1, fun i => (q i).2.2.2.1, fun i => (q i).2.2.2.2.2⟩, hcs, some ad, m, rfl, ⟨hl, by omega⟩, ?_⟩
    by_cases h0 : len = 0
    · exact Or.inl h0
    · obtain ⟨b, off, spot⟩ := ad
      have hspot : spot = none := by simpa [Addr.add] using World.cell?_spot (hq 0 (by omega)).1
      subst hspot
      refine Or.inr ⟨b, off, rfl, ?_, fun j hj => ?_⟩
      · have h1 := cell_lt (hq 0 (by omega)).1
        simpa [Addr.add] using h1
      · obtain ⟨c0, c1, c2, hi⟩ := hq j hj
        rw [Go.WideShapes.add_plain] at c0 c1 c2
        exact ⟨c0, by simpa [Nat.add_assoc] using c1, by simpa [Nat.add_assoc] using c2, hi⟩

end Go.Proofs.YtjfnpjmhippdoafGreat

/- How the laws' arguments are read: meshes that come in, within the form's own reach; how long a list is, where what came in is small. -/
namespace Go.Proofs.YtjfnpjmhippdoafGreat

open Go.ChangeShapes Go.WideShapes Go.ChangeAt Go.RowKit Go.Deep
set_option linter.unusedVariables false

variable {H : Type} {enc : TypeId × Value → H} {W : World}

theorem Tryz.cellsMesh : Tryz.prog.cellsOf 27 = 2 := by kernel_rfl

/-- a book, by its one cell -/
theorem book_cell {fuel : Nat} {cs : List Value} {x : DataW H × List MemPlace} (h : DataW.trod enc Tryz.prog W 0 (fun _ => true) true fuel 24 cs = some x) (hs : ∀ y ∈ x.1.weights Tryz.prog 24, y ≤ reachBytes) :
    ∃ vs n PV b, cs = [vs] ∧ VeSl W W.heap.size vs n PV b := by
  obtain ⟨y0, n, hx, hl, h0⟩ := trod_struct1 Tryz.underlying24 h
  rw [Tryz.cellsBook] at hl
  rw [Tryz.cellsVers] at h0
  have hd : x.1 = .agg [y0.1] := congrArg Prod.fst hx
  obtain ⟨vs, m, PV, b, e, hv⟩ := vers_cell h0 (fun y hy => hs y (by
    rw [hd]
    simp only [DataW.weights, Tryz.underlying24, List.map_cons, List.map_nil, DataW.weightsEach, List.mem_append]
    exact Or.inl hy))
  refine ⟨vs, m, PV, b, ?_, hv⟩
  match cs, hl with
  | [u0], _ =>
    simp at e
    subst e
    rfl

/-- a mesh that came in -/
theorem mesh_arg {v : Value} {d : DataW H} {p : List MemPlace} (h : DataW.Trod enc Tryz.prog W 0 (fun _ => true) true 27 v d p) (hs : ∀ y ∈ d.weights Tryz.prog 27, y ≤ reachBytes) :
    ∃ vb n PV b vl np KV UV P, v = meshV vb vl ∧ VeSl W W.heap.size vb n PV b ∧ PsSl W W.heap.size vl np KV UV P := by
  obtain ⟨fuel, hf⟩ := h
  obtain ⟨y0, y1, n, hx, hl, h0, h1⟩ := trod_struct2 Tryz.underlying27 hf
  rw [Tryz.cellsMesh] at hl
  have hv := agg_of (by omega) hl
  rw [Tryz.cellsBook] at h0
  rw [Tryz.cellsPeers] at h1
  have hd : d = .agg [y0.1, y1.1] := congrArg Prod.fst hx
  obtain ⟨vb, nb, PV, b, e0, hb⟩ := book_cell h0 (fun y hy => hs y (by
    rw [hd]
    simp only [DataW.weights, Tryz.underlying27, List.map_cons, List.map_nil, DataW.weightsEach, List.mem_append]
    exact Or.inl hy))
  obtain ⟨vl, np, KV, UV, P, e1, hp⟩ := peers_cell h1 (fun y hy => hs y (by
    rw [hd]
    simp only [DataW.weights, Tryz.underlying27, List.map_cons, List.map_nil, DataW.weightsEach, List.mem_append]
    exact Or.inr (Or.inl hy)))
  refine ⟨vb, nb, PV, b, vl, np, KV, UV, P, ?_, hb, hp⟩
  rw [hv]
  generalize v.cells = cs at *
  obtain ⟨l⟩ := cs
  match l, hl with
  | [u0, u1], _ =>
    simp at e0 e1
    subst e0 e1
    rfl

end Go.Proofs.YtjfnpjmhippdoafGreat
