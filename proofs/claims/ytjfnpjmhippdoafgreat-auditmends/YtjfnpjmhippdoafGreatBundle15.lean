/- Several texts of one proof, in their order. -/
import Derived.Test.YtjfnpjmhippdoafGreatBundle2
import Derived.Test.YtjfnpjmhippdoafGreatBundle14
import Derived.Deep.Slices
import Derived.Deep.Strs
import Derived.Test.YtjfnpjmhippdoafGreatBundle4
import Derived.Test.YtjfnpjmhippdoafGreatBundle6
import Derived.Test.YtjfnpjmhippdoafGreatBundle12
import Derived.Test.YtjfnpjmhippdoafGreatBundle8
import Derived.Shelf.SlLaysF
import Derived.Shelf.SlSortCmp.NoneTotal
import Derived.Test.YtjfnpjmhippdoafGreatProg
import Derived.Test.YtjfnpjmhippdoafGreatBundle0
import Derived.Maps.Own
import Derived.Maps.OwnOps
import Derived.Maps.OwnSet

/- How the laws' arguments are read: versions, books that come in, within the form's own reach. -/
namespace Go.Proofs.YtjfnpjmhippdoafGreat

open Go.ChangeShapes Go.WideShapes Go.ChangeAt Go.RowKit Go.Deep
set_option linter.unusedVariables false

variable {H : Type} {enc : TypeId × Value → H} {W : World}

theorem Tryz.cellsVer : Tryz.prog.cellsOf 60 = 4 := by kernel_rfl
theorem Tryz.cellsVers : Tryz.prog.cellsOf 22 = 1 := by kernel_rfl
theorem Tryz.cellsBook : Tryz.prog.cellsOf 24 = 1 := by kernel_rfl
theorem Tryz.bytesVer : Tryz.prog.bytesOf 60 = 48 := by kernel_rfl

/-- a plan, by its cells -/
theorem plan_cells {fuel : Nat} {cs : List Value} {x : DataW H × List MemPlace} (h : DataW.trod enc Tryz.prog W 0 (fun _ => true) true fuel 38 cs = some x) :
    ∃ nd of sz : Int, cs = [.int .i64 nd, .int .i64 of, .int .i64 sz] := by
  obtain ⟨y0, y1, y2, n, hx, hl, h0, h1, h2⟩ := trod_struct3 Tryz.underlying38 h
  rw [Tryz.cellsPlan] at hl
  rw [Tryz.cellsInt] at h0 h1 h2
  obtain ⟨a, e0, _, b0⟩ := DataW.trod_int Tryz.underlying3 h0
  obtain ⟨b, e1, _, b1⟩ := DataW.trod_int Tryz.underlying3 h1
  obtain ⟨c, e2, _, b2⟩ := DataW.trod_int Tryz.underlying3 h2
  refine ⟨a, b, c, ?_⟩
  match cs, hl with
  | [u0, u1, u2], _ =>
    simp at e0 e1 e2
    subst e0 e1 e2
    rfl

/-- a version, by its cells -/
theorem ver_cells {fuel : Nat} {cs : List Value} {x : DataW H × List MemPlace} (h : DataW.trod enc Tryz.prog W 0 (fun _ => true) true fuel 60 cs = some x) (hs : ∀ y ∈ x.1.weights Tryz.prog 60, y ≤ reachBytes) :
    ∃ (a : Option Addr) (len cap : Nat) (X : Nat → Int) (nd of sz : Int), cs = [.slice a len cap, .int .i64 nd, .int .i64 of, .int .i64 sz] ∧ SlArg W a len cap X := by
  obtain ⟨y0, y1, n, hx, hl, h0, h1⟩ := trod_struct2 Tryz.underlying60 h
  rw [Tryz.cellsVer] at hl
  rw [Tryz.cellsInts] at h0
  rw [Tryz.cellsPlan] at h1
  have hd : x.1 = .agg [y0.1, y1.1] := congrArg Prod.fst hx
  obtain ⟨a, len, cap, X, e0, hX⟩ := isl_cell h0 (fun y hy => hs y (by
    rw [hd]
    simp only [DataW.weights, Tryz.underlying60, List.map_cons, List.map_nil, DataW.weightsEach, List.mem_append]
    exact Or.inl hy))
  obtain ⟨nd, of, sz, e1⟩ := plan_cells h1
  refine ⟨a, len, cap, X, nd, of, sz, ?_, hX⟩
  match cs, hl with
  | [u0, u1, u2, u3], _ =>
    simp at e0 e1
    obtain ⟨rfl, rfl, rfl⟩ := e1
    subst e0
    rfl

/-- a list of versions, by its one cell -/
theorem vers_cell {fuel : Nat} {cs : List Value} {x : DataW H × List MemPlace} (h : DataW.trod enc Tryz.prog W 0 (fun _ => true) true fuel 22 cs = some x) (hs : ∀ y ∈ x.1.weights Tryz.prog 22, y ≤ reachBytes) :
    ∃ v n PV b, cs = [v] ∧ VeSl W W.heap.size v n PV b := by
  rcases open_slice Tryz.underlying22 h with ⟨hcs, _⟩ | ⟨ad, len, cap, m, n, D, Pl, hcs, _, hl, hm, hmm, hx, hall⟩
  · exact ⟨_, 0, fun _ => undef, ⟨fun _ => 0, fun _ _ => 0, fun _ => 0, fun _ => 0, fun _ => 0⟩, hcs, none, 0, rfl, ⟨Nat.le_refl _, by omega⟩, Or.inl rfl⟩
  · simp only [if_true] at hmm
    subst hmm
    have hd : x.1 = .slice ((List.range len).map D) ((List.range (m - len)).map fun j => D (len + j)) := congrArg Prod.fst hx
    rw [Tryz.cellsVer] at hall
    have each : ∀ i, i < len → ∃ q : Value × Nat × (Nat → Int) × Int × Int × Int, W.cell? (Addr.add ad (i * 4)) = some q.1 ∧ W.cell? (Addr.add ad (i * 4 + 1)) = some (.int .i64 q.2.2.2.1) ∧ W.cell? (Addr.add ad (i * 4 + 2)) = some (.int .i64 q.2.2.2.2.1) ∧ W.cell? (Addr.add ad (i * 4 + 3)) = some (.int .i64 q.2.2.2.2.2) ∧ IntSl W W.heap.size q.1 q.2.1 q.2.2.1 := by
      intro i hi
      obtain ⟨cs', h1, h2⟩ := hall i (by omega)
      obtain ⟨_, _, hcell⟩ := World.cells?_some h1
      obtain ⟨a1, l1, c1, X1, nd, of, sz, e, hX⟩ := ver_cells h2 (fun y hy => hs y (by
        rw [hd]
        simp only [DataW.weights, Tryz.underlying22, List.mem_cons, List.mem_append]
        exact Or.inr (Or.inl (weightsAll_mem (d := D i) (List.mem_map.2 ⟨i, List.mem_range.2 hi, rfl⟩) hy))))
      subst e
      have e0 := hcell 0 (by omega)
      have e1 := hcell 1 (by omega)
      have e2 := hcell 2 (by omega)
      have e3 := hcell 3 (by omega)
      rw [add_add] at e0 e1 e2 e3
      exact ⟨⟨.slice a1 l1 c1, l1, X1, nd, of, sz⟩, e0, e1, e2, e3, hX.isl⟩
    obtain ⟨q, hq⟩ := choose_lt each
    have hr : (len + (m - len)) * 48 ≤ 140737488351232 := by
      have h1 := hs ((len + (m - len)) * Tryz.prog.bytesOf 60) (by
        rw [hd]
        simp [DataW.weights, Tryz.underlying22])
      rw [Tryz.bytesVer] at h1
      simpa [reachBytes] using h1
    refine ⟨_, len, fun i => (q i).1, ⟨fun i => (q i).2.1, fun i => (q i).2.2.1, fun i => (q i).2.2.2.1, fun i => (q i).2.2.2.2.1, fun i => (q i).2.2.2.2.2⟩, hcs, some ad, m, rfl, ⟨hl, by omega⟩, ?_⟩
    by_cases h0 : len = 0
    · exact Or.inl h0
    · obtain ⟨b, off, spot⟩ := ad
      have hspot : spot = none := by simpa [Addr.add] using World.cell?_spot (hq 0 (by omega)).1
      subst hspot
      refine Or.inr ⟨b, off, rfl, ?_, fun j hj => ?_⟩
      · have h1 := cell_lt (hq 0 (by omega)).1
        simpa [Addr.add] using h1
      · obtain ⟨c0, c1, c2, c3, hi⟩ := hq j hj
        rw [Go.WideShapes.add_plain] at c0 c1 c2 c3
        exact ⟨c0, by simpa [Nat.add_assoc] using c1, by simpa [Nat.add_assoc] using c2, by simpa [Nat.add_assoc] using c3, hi⟩

end Go.Proofs.YtjfnpjmhippdoafGreat

/- How the laws' arguments are read: kept ones, peers that come in, within the form's own reach. -/
namespace Go.Proofs.YtjfnpjmhippdoafGreat

open Go.ChangeShapes Go.WideShapes Go.ChangeAt Go.RowKit Go.Deep
set_option linter.unusedVariables false

variable {H : Type} {enc : TypeId × Value → H} {W : World}

theorem Tryz.cellsBool : Tryz.prog.cellsOf 4 = 1 := by kernel_rfl
theorem Tryz.cellsShr : Tryz.prog.cellsOf 48 = 2 := by kernel_rfl
theorem Tryz.cellsKept : Tryz.prog.cellsOf 50 = 3 := by kernel_rfl
theorem Tryz.cellsKepts : Tryz.prog.cellsOf 43 = 1 := by kernel_rfl
theorem Tryz.cellsPeer : Tryz.prog.cellsOf 45 = 3 := by kernel_rfl
theorem Tryz.bytesKept : Tryz.prog.bytesOf 50 = 40 := by kernel_rfl

/-- a share, by its cells -/
theorem shr_cells {fuel : Nat} {cs : List Value} {x : DataW H × List MemPlace} (h : DataW.trod enc Tryz.prog W 0 (fun _ => true) true fuel 48 cs = some x) (hs : ∀ y ∈ x.1.weights Tryz.prog 48, y ≤ reachBytes) :
    ∃ (N : Int) (a : Option Addr) (len cap : Nat) (X : Nat → Int), cs = [.int .i64 N, .slice a len cap] ∧ SlArg W a len cap X := by
  obtain ⟨y0, y1, n, hx, hl, h0, h1⟩ := trod_struct2 Tryz.underlying48 h
  rw [Tryz.cellsShr] at hl
  rw [Tryz.cellsInt] at h0
  rw [Tryz.cellsInts] at h1
  obtain ⟨N, e0, _, b0⟩ := DataW.trod_int Tryz.underlying3 h0
  have hd : x.1 = .agg [y0.1, y1.1] := congrArg Prod.fst hx
  obtain ⟨a, len, cap, X, e1, hX⟩ := isl_cell h1 (fun y hy => hs y (by
    rw [hd]
    simp only [DataW.weights, Tryz.underlying48, List.map_cons, List.map_nil, DataW.weightsEach, List.mem_append]
    exact Or.inr (Or.inl hy)))
  refine ⟨N, a, len, cap, X, ?_, hX⟩
  match cs, hl with
  | [u0, u1], _ =>
    simp at e0 e1
    subst e0 e1
    rfl

/-- a kept one, by its cells -/
theorem kept_cells {fuel : Nat} {cs : List Value} {x : DataW H × List MemPlace} (h : DataW.trod enc Tryz.prog W 0 (fun _ => true) true fuel 50 cs = some x) (hs : ∀ y ∈ x.1.weights Tryz.prog 50, y ≤ reachBytes) :
    ∃ (ver N : Int) (a : Option Addr) (len cap : Nat) (X : Nat → Int), cs = [.int .i64 ver, .int .i64 N, .slice a len cap] ∧ SlArg W a len cap X := by
  obtain ⟨y0, y1, n, hx, hl, h0, h1⟩ := trod_struct2 Tryz.underlying50 h
  rw [Tryz.cellsKept] at hl
  rw [Tryz.cellsInt] at h0
  rw [Tryz.cellsShr] at h1
  obtain ⟨ver, e0, _, b0⟩ := DataW.trod_int Tryz.underlying3 h0
  have hd : x.1 = .agg [y0.1, y1.1] := congrArg Prod.fst hx
  obtain ⟨N, a, len, cap, X, e1, hX⟩ := shr_cells h1 (fun y hy => hs y (by
    rw [hd]
    simp only [DataW.weights, Tryz.underlying50, List.map_cons, List.map_nil, DataW.weightsEach, List.mem_append]
    exact Or.inr (Or.inl hy)))
  refine ⟨ver, N, a, len, cap, X, ?_, hX⟩
  match cs, hl with
  | [u0, u1, u2], _ =>
    simp at e0 e1
    obtain ⟨rfl, rfl⟩ := e1
    subst e0
    rfl

/-- a list of kept ones, by its one cell -/
theorem kepts_cell {fuel : Nat} {cs : List Value} {x : DataW H × List MemPlace} (h : DataW.trod enc Tryz.prog W 0 (fun _ => true) true fuel 43 cs = some x) (hs : ∀ y ∈ x.1.weights Tryz.prog 43, y ≤ reachBytes) :
    ∃ v n UV t, cs = [v] ∧ KeSl W W.heap.size v n UV t := by
  rcases open_slice Tryz.underlying43 h with ⟨hcs, _⟩ | ⟨ad, len, cap, m, n, D, Pl, hcs, _, hl, hm, hmm, hx, hall⟩
  · exact ⟨_, 0, fun _ => undef, ⟨fun _ => 0, fun _ => 0, fun _ => 0, fun _ _ => 0⟩, hcs, none, 0, rfl, ⟨Nat.le_refl _, by omega⟩, Or.inl rfl⟩
  · simp only [if_true] at hmm
    subst hmm
    have hd : x.1 = .slice ((List.range len).map D) ((List.range (m - len)).map fun j => D (len + j)) := congrArg Prod.fst hx
    rw [Tryz.cellsKept] at hall
    have each : ∀ i, i < len → ∃ q : Int × Int × Value × Nat × (Nat → Int), W.cell? (Addr.add ad (i * 3)) = some (.int .i64 q.1) ∧ W.cell? (Addr.add ad (i * 3 + 1)) = some (.int .i64 q.2.1) ∧ W.cell? (Addr.add ad (i * 3 + 2)) = some q.2.2.1 ∧ IntSl W W.heap.size q.2.2.1 q.2.2.2.1 q.2.2.2.2 := by
      intro i hi
      obtain ⟨cs', h1, h2⟩ := hall i (by omega)
      obtain ⟨_, _, hcell⟩ := World.cells?_some h1
      obtain ⟨ver, N, a1, l1, c1, X1, e, hX⟩ := kept_cells h2 (fun y hy => hs y (by
        rw [hd]
        simp only [DataW.weights, Tryz.underlying43, List.mem_cons, List.mem_append]
        exact Or.inr (Or.inl (weightsAll_mem (d := D i) (List.mem_map.2 ⟨i, List.mem_range.2 hi, rfl⟩) hy))))
      subst e
      have e0 := hcell 0 (by omega)
      have e1 := hcell 1 (by omega)
      have e2 := hcell 2 (by omega)
      rw [add_add] at e0 e1 e2
      exact ⟨⟨ver, N, .slice a1 l1 c1, l1, X1⟩, e0, e1, e2, hX.isl⟩
    obtain ⟨q, hq⟩ := choose_lt each
    have hr : (len + (m - len)) * 40 ≤ 140737488351232 := by
      have h1 := hs ((len + (m - len)) * Tryz.prog.bytesOf 50) (by
        rw [hd]
        simp [DataW.weights, Tryz.underlying43])
      rw [Tryz.bytesKept] at h1
      simpa [reachBytes] using h1
    refine ⟨_, len, fun i => (q i).2.2.1, ⟨fun i => (q i).1, fun i => (q i).2.1, fun i => (q i).2.2.2.1, fun i => (q i).2.2.2.2⟩, hcs, some ad, m, rfl, ⟨hl, by omega⟩, ?_⟩
    by_cases h0 : len = 0
    · exact Or.inl h0
    · obtain ⟨b, off, spot⟩ := ad
      have hspot : spot = none := by simpa [Addr.add] using World.cell?_spot (hq 0 (by omega)).1
      subst hspot
      refine Or.inr ⟨b, off, rfl, ?_, fun j hj => ?_⟩
      · have h1 := cell_lt (hq 0 (by omega)).1
        simpa [Addr.add] using h1
      · obtain ⟨c0, c1, c2, hi⟩ := hq j hj
        rw [Go.WideShapes.add_plain] at c0 c1 c2
        exact ⟨c0, by simpa [Nat.add_assoc] using c1, by simpa [Nat.add_assoc] using c2, hi⟩

end Go.Proofs.YtjfnpjmhippdoafGreat

/- How the laws' arguments are read: lists of peers that come in, within the form's own reach. -/
namespace Go.Proofs.YtjfnpjmhippdoafGreat

open Go.ChangeShapes Go.WideShapes Go.ChangeAt Go.RowKit Go.Deep
set_option linter.unusedVariables false

variable {H : Type} {enc : TypeId × Value → H} {W : World}

theorem Tryz.bytesPeer : Tryz.prog.bytesOf 45 = 40 := by kernel_rfl
theorem Tryz.cellsPeers : Tryz.prog.cellsOf 25 = 1 := by kernel_rfl

/-- a peer, by its cells -/
theorem peer_cells {fuel : Nat} {cs : List Value} {x : DataW H × List MemPlace} (h : DataW.trod enc Tryz.prog W 0 (fun _ => true) true fuel 45 cs = some x) (hs : ∀ y ∈ x.1.weights Tryz.prog 45, y ≤ reachBytes) :
    ∃ (th : Bool) (room : Int) (vk : Value) (m : Nat) (UV : Nat → Value) (t : Kt), cs = [.bool th, .int .i64 room, vk] ∧ KeSl W W.heap.size vk m UV t := by
  obtain ⟨y0, y1, y2, n, hx, hl, h0, h1, h2⟩ := trod_struct3 Tryz.underlying45 h
  rw [Tryz.cellsPeer] at hl
  rw [Tryz.cellsBool] at h0
  rw [Tryz.cellsInt] at h1
  rw [Tryz.cellsKepts] at h2
  obtain ⟨th, e0, _⟩ := DataW.trod_bool Tryz.underlying4 h0
  obtain ⟨room, e1, _, b1⟩ := DataW.trod_int Tryz.underlying3 h1
  have hd : x.1 = .agg [y0.1, y1.1, y2.1] := congrArg Prod.fst hx
  obtain ⟨vk, m, UV, t, e2, hk⟩ := kepts_cell h2 (fun y hy => hs y (by
    rw [hd]
    simp only [DataW.weights, Tryz.underlying45, List.map_cons, List.map_nil, DataW.weightsEach, List.mem_append]
    exact Or.inr (Or.inr (Or.inl hy))))
  refine ⟨th, room, vk, m, UV, t, ?_, hk⟩
  match cs, hl with
  | [u0, u1, u2], _ =>
    simp at e0 e1 e2
    subst e0 e1 e2
    rfl

/-- a list of peers, by its one cell -/
theorem peers_cell {fuel : Nat} {cs : List Value} {x : DataW H × List MemPlace} (h : DataW.trod enc Tryz.prog W 0 (fun _ => true) true fuel 25 cs = some x) (hs : ∀ y ∈ x.1.weights Tryz.prog 25, y ≤ reachBytes) :
    ∃ v n KV UV P, cs = [v] ∧ PsSl W W.heap.size v n KV UV P := by
  rcases open_slice Tryz.underlying25 h with ⟨hcs, _⟩ | ⟨ad, len, cap, m, n, D, Pl, hcs, _, hl, hm, hmm, hx, hall⟩
  · exact ⟨_, 0, fun _ => undef, fun _ _ => undef, ⟨fun _ => false, fun _ => 0, fun _ => 0, fun _ => ⟨fun _ => 0, fun _ => 0, fun _ => 0, fun _ _ => 0⟩⟩, hcs, none, 0, rfl, ⟨Nat.le_refl _, by omega⟩, Or.inl rfl⟩
  · simp only [if_true] at hmm
    subst hmm
    have hd : x.1 = .slice ((List.range len).map D) ((List.range (m - len)).map fun j => D (len + j)) := congrArg Prod.fst hx
    rw [Tryz.cellsPeer] at hall
    have each : ∀ i, i < len → ∃ q : Bool × Int × Value × Nat × (Nat → Value) × Kt, W.cell? (Addr.add ad (i * 3)) = some (.bool q.1) ∧ W.cell? (Addr.add ad (i * 3 + 1)) = some (.int .i64 q.2.1) ∧ W.cell? (Addr.add ad (i * 3 + 2)) = some q.2.2.1 ∧ KeSl W W.heap.size q.2.2.1 q.2.2.2.1 q.2.2.2.2.1 q.2.2.2.2.2 := by
      intro i hi
      obtain ⟨cs', h1, h2⟩ := hall i (by omega)
      obtain ⟨_, _, hcell⟩ := World.cells?_some h1
      obtain ⟨th, room, vk, mk, UV, t, e, hX⟩ := peer_cells h2 (fun y hy => hs y (by
        rw [hd]
        simp only [DataW.weights, Tryz.underlying25, List.mem_cons, List.mem_append]
        exact Or.inr (Or.inl (weightsAll_mem (d := D i) (List.mem_map.2 ⟨i, List.mem_range.2 hi, rfl⟩) hy))))
      subst e
      have e0 := hcell 0 (by omega)
      have e1 := hcell 1 (by omega)
      have e2 := hcell 2 (by omega)
      rw [add_add] at e0 e1 e2
      exact ⟨⟨th, room, vk, mk, UV, t⟩, e0, e1, e2, hX⟩
    haveI : Inhabited Kt := ⟨⟨fun _ => 0, fun _ => 0, fun _ => 0, fun _ _ => 0⟩⟩
    obtain ⟨q, hq⟩ := choose_lt each
    have hr : (len + (m - len)) * 40 ≤ 140737488351232 := by
      have h1 := hs ((len + (m - len)) * Tryz.prog.bytesOf 45) (by
        rw [hd]
        simp [DataW.weights, Tryz.underlying25])
      rw [Tryz.bytesPeer] at h1
      simpa [reachBytes] using h1
    refine ⟨_, len, fun i => (q i).2.2.1, fun i => (q i).2.2.2.2.1, ⟨fun i => (q i).1, fun i => (q i).2.1, fun i => (q i).2.2.2.1, fun i => (q i).2.2.2.2.2⟩, hcs, some ad, m, rfl, ⟨hl, by omega⟩, ?_⟩
    by_cases h0 : len = 0
    · exact Or.inl h0
    · obtain ⟨b, off, spot⟩ := ad
      have hspot : spot = none := by simpa [Addr.add] using World.cell?_spot (hq 0 (by omega)).1
      subst hspot
      refine Or.inr ⟨b, off, rfl, ?_, fun j hj => ?_⟩
      · have h1 := cell_lt (hq 0 (by omega)).1
        simpa [Addr.add] using h1
      · obtain ⟨c0, c1, c2, hi⟩ := hq j hj
        rw [Go.WideShapes.add_plain] at c0 c1 c2
        exact ⟨c0, by simpa [Nat.add_assoc] using c1, by simpa [Nat.add_assoc] using c2, hi⟩

end Go.Proofs.YtjfnpjmhippdoafGreat

/- How the laws' arguments are read: meshes that come in, within the form's own reach; how long a list is, where what came in is small. -/
namespace Go.Proofs.YtjfnpjmhippdoafGreat

open Go.ChangeShapes Go.WideShapes Go.ChangeAt Go.RowKit Go.Deep
set_option linter.unusedVariables false

variable {H : Type} {enc : TypeId × Value → H} {W : World}

theorem Tryz.cellsMesh : Tryz.prog.cellsOf 27 = 2 := by kernel_rfl

/-- a book, by its one cell -/
theorem book_cell {fuel : Nat} {cs : List Value} {x : DataW H × List MemPlace} (h : DataW.trod enc Tryz.prog W 0 (fun _ => true) true fuel 24 cs = some x) (hs : ∀ y ∈ x.1.weights Tryz.prog 24, y ≤ reachBytes) :
    ∃ vs n PV b, cs = [vs] ∧ VeSl W W.heap.size vs n PV b := by
  obtain ⟨y0, n, hx, hl, h0⟩ := trod_struct1 Tryz.underlying24 h
  rw [Tryz.cellsBook] at hl
  rw [Tryz.cellsVers] at h0
  have hd : x.1 = .agg [y0.1] := congrArg Prod.fst hx
  obtain ⟨vs, m, PV, b, e, hv⟩ := vers_cell h0 (fun y hy => hs y (by
    rw [hd]
    simp only [DataW.weights, Tryz.underlying24, List.map_cons, List.map_nil, DataW.weightsEach, List.mem_append]
    exact Or.inl hy))
  refine ⟨vs, m, PV, b, ?_, hv⟩
  match cs, hl with
  | [u0], _ =>
    simp at e
    subst e
    rfl

/-- a mesh that came in -/
theorem mesh_arg {v : Value} {d : DataW H} {p : List MemPlace} (h : DataW.Trod enc Tryz.prog W 0 (fun _ => true) true 27 v d p) (hs : ∀ y ∈ d.weights Tryz.prog 27, y ≤ reachBytes) :
    ∃ vb n PV b vl np KV UV P, v = meshV vb vl ∧ VeSl W W.heap.size vb n PV b ∧ PsSl W W.heap.size vl np KV UV P := by
  obtain ⟨fuel, hf⟩ := h
  obtain ⟨y0, y1, n, hx, hl, h0, h1⟩ := trod_struct2 Tryz.underlying27 hf
  rw [Tryz.cellsMesh] at hl
  have hv := agg_of (by omega) hl
  rw [Tryz.cellsBook] at h0
  rw [Tryz.cellsPeers] at h1
  have hd : d = .agg [y0.1, y1.1] := congrArg Prod.fst hx
  obtain ⟨vb, nb, PV, b, e0, hb⟩ := book_cell h0 (fun y hy => hs y (by
    rw [hd]
    simp only [DataW.weights, Tryz.underlying27, List.map_cons, List.map_nil, DataW.weightsEach, List.mem_append]
    exact Or.inl hy))
  obtain ⟨vl, np, KV, UV, P, e1, hp⟩ := peers_cell h1 (fun y hy => hs y (by
    rw [hd]
    simp only [DataW.weights, Tryz.underlying27, List.map_cons, List.map_nil, DataW.weightsEach, List.mem_append]
    exact Or.inr (Or.inl hy)))
  refine ⟨vb, nb, PV, b, vl, np, KV, UV, P, ?_, hb, hp⟩
  rw [hv]
  generalize v.cells = cs at *
  obtain ⟨l⟩ := cs
  match l, hl with
  | [u0, u1], _ =>
    simp at e0 e1
    subst e0 e1
    rfl

end Go.Proofs.YtjfnpjmhippdoafGreat

/- The shares that are there, one peer after the other, and what is counted of them. -/
namespace Go.Proofs.YtjfnpjmhippdoafGreat

open Go.RowKit CurveMath
set_option linter.unusedVariables false

theorem flatS_eqv {n : Nat} {N N' : Nat → Int} {V V' : Nat → Value} (h : ∀ j, j < n → N j = N' j ∧ V j = V' j) : flatS n N V = flatS n N' V' := by
  unfold flatS
  refine List.map_congr_left fun i hi => ?_
  have hi2 := List.mem_range.1 hi
  obtain ⟨h1, h2⟩ := h (i / 2) (by omega)
  unfold cellS
  rw [h1, h2]

theorem flatS_snoc (P : Ps) (UV : Nat → Nat → Value) (l : List (Nat × Nat)) (k i : Nat) : flatS (l ++ [(k, i)]).length (nL P (l ++ [(k, i)])) (vaL UV (l ++ [(k, i)])) = flatS l.length (nL P l) (vaL UV l) ++ [.int .i64 ((P.t k).N i), UV k i] := by
  rw [List.length_append, show [(k, i)].length = 1 from rfl, flatS_succ]
  have e1 : nL P (l ++ [(k, i)]) l.length = (P.t k).N i := by unfold nL; rw [getD_new]
  have e2 : vaL UV (l ++ [(k, i)]) l.length = UV k i := by unfold vaL; rw [getD_new]
  rw [e1, e2]
  congr 1
  exact flatS_eqv fun j hj => by unfold nL vaL; rw [getD_old _ _ _ hj]; exact ⟨rfl, rfl⟩

theorem seenN_snoc (P : Ps) (l : List (Nat × Nat)) (k i : Nat) (N : Int) : seenN P (l ++ [(k, i)]) N = (seenN P l N || decide ((P.t k).N i = N)) := by
  unfold seenN
  rw [List.any_append]
  simp

/-- a block of another kind is not that of the list -/
theorem row_ne {wr : World} {base : Nat} {e : TypeId} {size n : Nat} {v : Value} {xs : List Value} {g : Nat} {cs : Array Value} {T : TypeId} {fz : Nat × Nat} (h : wr.ownsRow base e size v n xs) (hb : wr.heap[g]? = some (.cells cs T fz)) (hT : T ≠ e) : some g ≠ v.ownBlock := by
  obtain ⟨_, h2⟩ := h
  rcases h2 with ⟨rfl, _⟩ | ⟨g', cap, cur, rfl, _, hh, _⟩
  · intro e; cases e
  · intro e
    injection e with e
    subst e
    rw [hb] at hh
    injection hh with hh
    injection hh with _ h3 _
    exact hT h3

theorem cells_pr (w : World) (N : Int) (v : Value) (T : TypeId) : ∀ j u, ([.int .i64 N, v] : List Value)[j]? = some u → (w.alloc (.cells #[.int .i64 N, v] T)).cell? (Addr.add ⟨w.heap.size, 0, none⟩ j) = some u := by
  intro j u hj
  rw [Addr.add_lit]
  match j, hj with
  | 0, hj => simp at hj; subst hj; exact cell_at (heap_alloc_new _ _) rfl
  | 1, hj => simp at hj; subst hj; exact cell_at (heap_alloc_new _ _) rfl

theorem rest_err {w w' : World} {n : Nat} {b : Bk} {np : Nat} {P : Ps} {k c : Int} (hb : Below w.heap.size w w') (hc : verM n b np P k = c) (h0 : c ≠ 0) : RestPost w n b np P k (.returned (.tuple #[.slice none 0 0, .slice none 0 0, .int .i64 c])) w' := by
  have h1 : rsE n b np P k = c := by unfold rsE; rw [hc, if_neg h0]
  have h2 : rsB n b np P k = [] := by unfold rsB; rw [hc, if_neg h0]
  refine ⟨hb, .slice none 0 0, .slice none 0 0, 0, by rw [h1], by rw [h1, if_neg h0]; rfl, ⟨none, 0, rfl, ⟨Nat.le_refl _, by omega⟩, Or.inl rfl⟩, ?_⟩
  rw [h2]
  exact ⟨none, 0, rfl, ⟨Nat.le_refl _, by simp⟩, Or.inl rfl⟩

theorem rest_of {w w1 w' : World} {n : Nat} {b : Bk} {np : Nat} {P : Ps} {k : Int} {e : Ending} (hb : Below w.heap.size w w1) (hv : verM n b np P k = 0) (h : MostPost w1 (b.nd k.toNat) (b.of k.toNat) (b.sz k.toNat) (thereL P k np).length (nT P (thereL P k np)) (lT P (thereL P k np)) (xT P (thereL P k np)) e w') : RestPost w n b np P k e w' := by
  obtain ⟨h1, r, bb, m, h2, h3, h4, h5⟩ := h
  refine ⟨hb.trans (h1.mono hb.size), r, bb, m, ?_, ?_, h4, ?_⟩
  · unfold rsE; rw [if_pos hv]; exact h2
  · unfold rsE; rw [if_pos hv]; exact h3
  · unfold rsB; rw [if_pos hv]; exact h5

/-- a number more is counted; the list of those seen stays or grows -/
theorem seen_hit {P : Ps} {l l' : List (Nat × Nat)} {c : Int → Int} {M k i : Nat} {N : Int} (h : ∀ x, 0 ≤ c x ∧ c x ≤ (M : Int)) (hc : ∀ x, c x = 0 ↔ seenN P l x = false) (hN : (P.t k).N i = N) (hl : l' = if (!seenN P l N) = true then l ++ [(k, i)] else l) :
    (∀ x, 0 ≤ (if x = N then c N + 1 else c x) ∧ (if x = N then c N + 1 else c x) ≤ ((M + 1 : Nat) : Int)) ∧ ∀ x, (if x = N then c N + 1 else c x) = 0 ↔ seenN P l' x = false := by
  have hcN := h N
  refine ⟨fun x => ?_, fun x => ?_⟩
  · have := h x
    by_cases e : x = N
    · rw [if_pos e]; omega
    · rw [if_neg e]; omega
  · by_cases e : x = N
    · subst e
      rw [if_pos rfl]
      constructor
      · intro h9; omega
      · intro h9
        exfalso
        rw [hl] at h9
        cases hs : seenN P l x with
        | true => rw [hs, Bool.not_true, if_neg (by decide), hs] at h9; cases h9
        | false => rw [hs, Bool.not_false, if_pos rfl, seenN_snoc, hN, decide_eq_true rfl, Bool.or_true] at h9; cases h9
    · rw [if_neg e, hc x, hl]
      cases hs : seenN P l N with
      | true => rw [Bool.not_true, if_neg (by decide)]
      | false => rw [Bool.not_false, if_pos rfl, seenN_snoc, hN, decide_eq_false (fun h => e h.symm), Bool.or_false]

/-- .. of a list of numbers -/
theorem nums_hit {T : List Int} {c : Int → Int} {M : Nat} {N : Int} (h : ∀ x, 0 ≤ c x ∧ c x ≤ (M : Int)) (hc : ∀ x, c x = 0 ↔ T.contains x = false) :
    (∀ x, 0 ≤ (if x = N then c N + 1 else c x) ∧ (if x = N then c N + 1 else c x) ≤ ((M + 1 : Nat) : Int)) ∧ ∀ x, (if x = N then c N + 1 else c x) = 0 ↔ (T ++ [N]).contains x = false := by
  have hcN := h N
  refine ⟨fun x => ?_, fun x => ?_⟩
  · have := h x
    by_cases e : x = N
    · rw [if_pos e]; omega
    · rw [if_neg e]; omega
  · by_cases e : x = N
    · subst e
      rw [if_pos rfl]
      constructor
      · intro h9; omega
      · intro h9; simp at h9
    · rw [if_neg e, hc x]
      simp [e]

/-- the first f peers' shares, one peer more -/
theorem thAll_has {n : Nat} {b : Bk} {np : Nat} {P : Ps} (h : MeshR n b np P) (ver : Int) {k : Nat} (hk : k < np) : thAll P ver (k + 1) = if (hasK P ver k && !seenN P (thAll P ver k) (numK P ver k)) = true then thAll P ver k ++ [(k, atK P ver k)] else thAll P ver k := by
  rw [thAll_succ]
  exact thRow_has (fun i j hij hj => (h.peer k hk).rise i j hij hj) _

theorem thAll_len {n : Nat} {b : Bk} {np : Nat} {P : Ps} (h : MeshR n b np P) (ver : Int) : ∀ k, k ≤ np → (thAll P ver k).length ≤ k := by
  intro k
  induction k with
  | zero => intro _; exact Nat.le_refl _
  | succ k ih =>
    intro hk
    have := ih (by omega)
    rw [thAll_has h ver (by omega)]
    split
    · rw [List.length_append]; simp; omega
    · omega

/-- what a version was restored to can be split -/
theorem split_ok {d m s : Nat} {D : Nat → Int} (hp : planOk (d : Int) (m : Int) (s : Int) = true) (hD : ∀ j, 0 ≤ D j ∧ D j ≤ 30) : splitE (d : Int) (m : Int) (s : Int) s D = 0 := by
  unfold splitE
  rw [if_pos hp, if_pos rfl, if_pos]
  unfold numsB
  refine decide_eq_true fun j _ => ?_
  have := hD j
  unfold isNum
  simp
  omega

end Go.Proofs.YtjfnpjmhippdoafGreat

/- What chapter 9's reference answers: the shares of a version that are there. -/
namespace Go.Proofs.YtjfnpjmhippdoafGreat

open Go.RowKit
set_option linter.unusedVariables false

/-- the box, who was seen, and the list -/
structure ThInv (w wr : World) (vb vl : Value) (P : Ps) (UV : Nat → Nat → Value) (l s : List (Nat × Nat)) (vo : Value) : Prop where
  below : Below w.heap.size w wr
  box : wr.heap[w.heap.size]? = some (.cells #[vb, vl] 27 (0, 0))
  seen : ∃ cs : Array Value, wr.heap[w.heap.size + 1]? = some (.cells cs 65 (0, 0)) ∧ cs.size = 8 ∧ ∀ q, q < 8 → cs[q]? = some (.bool (seenN P s q))
  row : wr.ownsRow (w.heap.size + 2) 48 2 vo l.length (flatS l.length (nL P l) (vaL UV l))

section

variable {w wr w' : World} {vb vl : Value} {P : Ps} {UV : Nat → Nat → Value} {l s : List (Nat × Nat)} {vo : Value}

theorem ThInv.up (h : ThInv w wr vb vl P UV l s vo) (hb : Below wr.heap.size wr w') : ThInv w w' vb vl P UV l s vo := by
  obtain ⟨cs, h1, h2, h3⟩ := h.seen
  exact ⟨h.below.trans (hb.mono h.below.size), stayB h.box hb, ⟨cs, stayB h1 hb, h2, h3⟩, owns_below h.row hb⟩

theorem ThInv.mark (h : ThInv w wr vb vl P UV l s vo) {k i q : Nat} (hq : q < 8) (hN : (P.t k).N i = (q : Int)) : ThInv w (wr.setCell ⟨w.heap.size + 1, q, none⟩ (.bool true)) vb vl P UV l (s ++ [(k, i)]) vo := by
  obtain ⟨cs, h1, h2, h3⟩ := h.seen
  refine ⟨h.below.setCell (p := ⟨w.heap.size + 1, q, none⟩) (by show w.heap.size ≤ w.heap.size + 1; omega) _, ?_, ⟨cs.set! q (.bool true), ?_, by simpa using h2, fun x hx => ?_⟩, ?_⟩
  · rw [Below.heap_setCell _ _ _ _ (by show w.heap.size ≠ w.heap.size + 1; omega)]; exact h.box
  · simp [World.setCell, Array.getElem?_modify, h1]
  · rw [seenN_snoc, hN]
    by_cases e : x = q
    · subst e
      simp [h2, hx]
    · have e2 : ¬ (q : Int) = (x : Int) := by omega
      rw [decide_eq_false e2, Bool.or_false, ← h3 x hx]
      simp [Ne.symm e]
  · exact ownsRow_setCell_below h.row (by show w.heap.size + 1 < w.heap.size + 2; omega) _

theorem ThInv.push (h : ThInv w wr vb vl P UV l s vo) {k i : Nat} {v1 : Value} {o : Obj} (ho : w'.ownsRow (w.heap.size + 2) 48 2 v1 (l.length + 1) (flatS l.length (nL P l) (vaL UV l) ++ [.int .i64 ((P.t k).N i), UV k i])) (hg : (wr.alloc o).grownBy w' vo.ownBlock) : ThInv w w' vb vl P UV (l ++ [(k, i)]) s v1 := by
  have hA := h.up (below_alloc wr o)
  obtain ⟨cs, h1, h2, h3⟩ := hA.seen
  refine ⟨hA.below.grown hg hA.below.size (fun g hgg => Nat.le_trans (by omega) (hA.row.lt g hgg).1), ?_, ⟨cs, ?_, h2, h3⟩, ?_⟩
  · rw [hg.block _ (Array.getElem?_eq_some_iff.1 hA.box).1 (row_ne hA.row hA.box (by decide))]; exact hA.box
  · rw [hg.block _ (Array.getElem?_eq_some_iff.1 h1).1 (row_ne hA.row h1 (by decide))]; exact h1
  · rw [flatS_snoc, List.length_append]; exact ho

end

set_option maxHeartbeats 8000000 in
set_option maxRecDepth 10000 in
theorem there_any (vb vl : Value) (np : Nat) (KV : Nat → Value) (UV : Nat → Nat → Value) (P : Ps) (ver : Int) (w : World) (hvb : ∃ a n c, vb = .slice a n c) (hl : PsSl w w.heap.size vl np KV UV P) (hn : np ≤ 8) (hm : ∀ k, k < np → P.m k ≤ 20) (hN : ∀ k i, k < np → i < P.m k → 0 ≤ (P.t k).N i ∧ (P.t k).N i < 8) :
    Calls Tryz.prog 29 #[meshV vb vl, .int .i64 ver] w fun e w' => Below w.heap.size w w' ∧ ∃ vo, e = .returned vo ∧ ShSl w' w'.heap.size vo (thereL P ver np).length (nL P (thereL P ver np)) (vaL UV (thereL P ver np)) (lL P (thereL P ver np)) (xL P (thereL P ver np)) := by
  obtain ⟨ab, nb, cb, rfl⟩ := hvb
  have HL := hid hl
  have HM := hid hm
  have HN := hid hN
  obtain ⟨al, cl, rfl, _, _⟩ := hl
  obtain ⟨ii, hii, hz0, hz1, hz2⟩ := info_parts Tryz.infoShare
  have hb0 := ((Below.refl w.heap.size w).alloc (Nat.le_refl _) (.cells #[.slice ab nb cb, .slice al np cl] 27)).alloc (by simp) (.cells #[.bool false, .bool false, .bool false, .bool false, .bool false, .bool false, .bool false, .bool false] 65)
  have k0 := heap_two_old w (.cells #[.slice ab nb cb, .slice al np cl] 27) (.cells #[.bool false, .bool false, .bool false, .bool false, .bool false, .bool false, .bool false, .bool false] 65)
  have k1 := heap_two_new w (.cells #[.slice ab nb cb, .slice al np cl] 27) (.cells #[.bool false, .bool false, .bool false, .bool false, .bool false, .bool false, .bool false, .bool false] 65)
  have J0 : Hid (ThInv w _ (.slice ab nb cb) (.slice al np cl) P UV (thAll P ver 0) (thAll P ver 0) (.slice none 0 0)) := ⟨hb0, k0, ⟨_, k1, rfl, fun q hq => by
    match q, hq with
    | 0, _ => rfl
    | 1, _ => rfl
    | 2, _ => rfl
    | 3, _ => rfl
    | 4, _ => rfl
    | 5, _ => rfl
    | 6, _ => rfl
    | 7, _ => rfl⟩, World.ownsRow_nil _ _ _ _⟩
  have c1 := (two_at k0).2
  have HLen : Hid (∀ f, f ≤ np → (thAll P ver f).length ≤ 8) := fun f hf => once_len (thAll_ok P ver np f hf).once (fun x hx => by
    obtain ⟨h1, h2, _⟩ := (thAll_ok P ver np f hf).at_ x hx
    exact HN.out x.1 x.2 h1 h2)
  have HLen2 : Hid (∀ k f, k < np → f ≤ P.m k → (thRow P ver k (thAll P ver k) f).length ≤ 8) := fun k f hk hf => once_len ((thAll_ok P ver np k (by omega)).row hk f hf).once (fun x hx => by
    obtain ⟨h1, h2, _⟩ := ((thAll_ok P ver np k (by omega)).row hk f hf).at_ x hx
    exact HN.out x.1 x.2 h1 h2)
  clear hb0 k0 k1 hm hN
  unfold meshV thereL
  go_enter Tryz.func29, Tryz.ntmps29
  go_wp2
  clear c1
  go_loopw [5, 14] (fun vo kv wr => ∃ k : Nat, k ≤ np ∧ kv = .int .i64 k ∧ Hid (ThInv w wr (.slice ab nb cb) (.slice al np cl) P UV (thAll P ver k) (thAll P ver k) vo)) (fun _ kv _ => np - (intOf kv).toNat)
  case atStart => exact ⟨0, Nat.zero_le _, rfl, J0⟩
  case round =>
    obtain ⟨k, hk, rfl, J⟩ := hrel
    by_cases hlt : k < np
    · have hki : (k : Int) < (np : Int) := by omega
      obtain ⟨bl, off, rfl, hbl, g0, g1, g2, g3⟩ := (HL.out.up J.out.below).at hlt
      have G3 := hid g3
      obtain ⟨ak, ck, hke, _, _⟩ := g3
      rw [hke] at g2 G3
      have hbA := below_alloc wr (.cells #[.bool (P.th k), .int .i64 (P.rm k), .slice ak (P.m k) ck] 45)
      have kp := heap_alloc_new wr (.cells #[.bool (P.th k), .int .i64 (P.rm k), .slice ak (P.m k) ck] 45)
      have JA := hid (J.out.up hbA)
      have KP := hid kp
      have HKe : Hid (∀ u, Below w.heap.size w u → KeSl u u.heap.size (.slice ak (P.m k) ck) (P.m k) (UV k) (P.t k)) := fun u hbu => by
        obtain ⟨_, _, _, _, _, _, _, h3⟩ := (HL.out.up hbu).at hlt
        rw [hke] at h3
        exact h3
      have hm20 := HM.out k hlt
      go_wp2
      obtain ⟨W1, hW1⟩ : ∃ u, wr.alloc (.cells #[.bool (P.th k), .int .i64 (P.rm k), .slice ak (P.m k) ck] 45) = u := ⟨_, rfl⟩
      rw [hW1] at JA KP ⊢
      obtain ⟨bp, hbp⟩ : ∃ g, wr.heap.size = g := ⟨_, rfl⟩
      rw [hbp] at KP ⊢
      clear g0 g1 g2 hbA kp hke hW1 hbp hbl J G3
      obtain ⟨w0, hw0⟩ : ∃ w0, wr = w0 := ⟨_, rfl⟩
      subst hw0
      go_loopw [5, 21] (fun vo iv wz => ∃ i : Nat, i ≤ P.m k ∧ iv = .int .i64 i ∧ Hid (ThInv w wz (.slice ab nb cb) (.slice (some ⟨bl, off, none⟩) np cl) P UV (thRow P ver k (thAll P ver k) i) (thRow P ver k (thAll P ver k) i) vo) ∧ Hid (wz.heap[bp]? = some (.cells #[.bool (P.th k), .int .i64 (P.rm k), .slice ak (P.m k) ck] 45 (0, 0)))) (fun _ iv _ => P.m k - (intOf iv).toNat)
      case atStart => exact ⟨0, Nat.zero_le _, rfl, JA, KP⟩
      case round =>
        obtain ⟨i, hi, rfl, JZ, KZ⟩ := hrel
        by_cases hil : i < P.m k
        · have hii2 : (i : Int) < (P.m k : Int) := by omega
          obtain ⟨b2, o2, rfl, _, x0, x1, x2, x3⟩ := (HKe.out wr JZ.out.below).at hil
          obtain ⟨au, cu, hue, _, _⟩ := x3
          rw [hue] at x2
          have hbB := below_alloc wr (.cells #[.int .i64 ((P.t k).V i), .int .i64 ((P.t k).N i), .slice au ((P.t k).L i) cu] 50)
          have JB := hid (JZ.out.up hbB)
          have KB := hid (stayB KZ.out hbB)
          obtain ⟨p0, p1, p2⟩ := three_at KB.out
          have hNq := HN.out k i hlt hil
          have hst := thRow_succ P ver k (thAll P ver k) i
          have hln := HLen2.out k i hlt (by omega)
          obtain ⟨l, hl9⟩ : ∃ l, thRow P ver k (thAll P ver k) i = l := ⟨_, rfl⟩
          rw [hl9] at hst JB hln
          obtain ⟨q, hq⟩ : ∃ q : Nat, (P.t k).N i = q := ⟨((P.t k).N i).toNat, by omega⟩
          have hq8 : q < 8 := by omega
          have hqi : (q : Int) < 8 := by omega
          obtain ⟨cs, s1, s2, s3⟩ := JB.out.seen
          have sc := cell_at (i := q) s1 (s3 q hq8)
          have sf := frozen_at (i := q) s1
          unfold thStep isTh at hst
          rw [hq] at hst x1 JB KB p0 p1 p2 sc sf
          obtain ⟨x, hxx⟩ : ∃ x, (P.t k).V i = x := ⟨_, rfl⟩
          rw [hxx] at hst x0 JB KB p0 p1 p2 sc sf
          obtain ⟨sn, hsn⟩ : ∃ b, seenN P l (q : Int) = b := ⟨_, rfl⟩
          rw [hsn] at hst sc
          obtain ⟨tk, htk⟩ : ∃ b, P.th k = b := ⟨_, rfl⟩
          rw [htk] at hst p0
          have HQ := hid hq
          have HU := hid hue
          clear hbB s1 s2 s3 hxx hsn hue hl9 hq htk
          cases tk with
          | false =>
            rw [Bool.false_and, Bool.false_and, if_neg (by decide)] at hst
            have HSt := hid hst
            clear hst
            go_wp2
            go_roundw
            case rel => exact ⟨i + 1, by omega, by go_num, by rw [HSt.out]; exact JB.out, KB⟩
            case measure => simp only [intOf]; omega
          | true =>
            rw [Bool.true_and] at hst
            by_cases hxv : x = ver
            · have hxb : (x == ver) = true := by rw [beq_iff_eq]; exact hxv
              rw [decide_eq_true hxv, Bool.true_and] at hst
              clear hxv
              cases sn with
              | true =>
                rw [Bool.not_true, if_neg (by decide)] at hst
                have HSt := hid hst
                clear hst
                go_wp2
                go_roundw
                case rel => exact ⟨i + 1, by omega, by go_num, by rw [HSt.out]; exact JB.out, KB⟩
                case measure => simp only [intOf]; omega
              | false =>
                rw [Bool.not_false, if_pos rfl] at hst
                have HSt := hid hst
                clear hst
                have hsl : w.heap.size + 1 < wr.heap.size := by
                  obtain ⟨cs, s1, _⟩ := JZ.out.seen
                  exact (Array.getElem?_eq_some_iff.1 s1).1
                have jc := JB.out.mark hq8 HQ.out
                have y0 := heap_alloc_new wr (.cells #[.int .i64 x, .int .i64 (q : Int), .slice au ((P.t k).L i) cu] 50)
                have y1 : ((wr.alloc (.cells #[.int .i64 x, .int .i64 (q : Int), .slice au ((P.t k).L i) cu] 50)).setCell ⟨w.heap.size + 1, q, none⟩ (.bool true)).heap[wr.heap.size]? = _ := (Below.heap_setCell _ _ _ _ (by show wr.heap.size ≠ w.heap.size + 1; omega)).trans y0
                have hpl : bp < wr.heap.size := (Array.getElem?_eq_some_iff.1 KZ.out).1
                have hpn : bp ≠ w.heap.size + 1 := fun e => by
                  obtain ⟨cs, s1, _⟩ := JZ.out.seen
                  have h9 := KZ.out
                  rw [e, s1] at h9
                  injection h9 with h9
                  injection h9 with _ h9 _
                  exact absurd h9 (by decide)
                have y2 : ((wr.alloc (.cells #[.int .i64 x, .int .i64 (q : Int), .slice au ((P.t k).L i) cu] 50)).setCell ⟨w.heap.size + 1, q, none⟩ (.bool true)).heap[bp]? = _ := (Below.heap_setCell _ _ _ _ hpn).trans KB.out
                obtain ⟨WC, hWC⟩ : ∃ u, (wr.alloc (.cells #[.int .i64 x, .int .i64 (q : Int), .slice au ((P.t k).L i) cu] 50)).setCell ⟨w.heap.size + 1, q, none⟩ (.bool true) = u := ⟨_, rfl⟩
                rw [hWC] at jc y1 y2
                have JC := hid jc
                have Y2 := hid y2
                obtain ⟨z0, z1, z2⟩ := three_at y1
                have hge : w.heap.size + 2 ≤ WC.heap.size := by
                  obtain ⟨cs, s1, _⟩ := JC.out.seen
                  have := (Array.getElem?_eq_some_iff.1 s1).1
                  omega
                clear jc y0 y1 y2
                go_wp2_with (at_builtin; go_must (refine wpList_append_own _ rfl (.tmp 45) (.tmp 48) 56 rfl (w.heap.size + 2) 48 ii (.agg #[.int .i64 0, .slice none 0 0]) 2 32 Tryz.underlying56 hii hz0 hz1 hz2 rfl (by decide) _ _ _ rfl (World.ownsRow.alloc JC.out.row _) ⟨_, 0, none⟩ 1 1 [.int .i64 (q : Int), .slice au ((P.t k).L i) cu] rfl rfl (cells_pr _ _ _ _) (by intro u hu; simp at hu; rcases hu with rfl | rfl <;> rfl) (by unfold maxLen; omega) (by omega) (by simp; omega) ?_; intro v1 w6 ho6 hg6 _; have HO6 := hid ho6; have HG6 := hid hg6; clear ho6 hg6))
                have hd : (P.t k).N i = (q : Int) := HQ.out
                have J6 := hid (JC.out.push (k := k) (i := i) (by rw [hd, HU.out]; exact HO6.out) HG6.out)
                have jA := JC.out.up (below_alloc WC (.cells #[.int .i64 (q : Int), .slice au ((P.t k).L i) cu] 48))
                have K6 : Hid (w6.heap[bp]? = some (.cells #[.bool (P.th k), .int .i64 (P.rm k), .slice (some ⟨b2, o2, none⟩) (P.m k) ck] 45 (0, 0))) := by
                  have h8 := stayB Y2.out (below_alloc WC (.cells #[.int .i64 (q : Int), .slice au ((P.t k).L i) cu] 48))
                  show _ = _
                  rw [HG6.out.block _ (Array.getElem?_eq_some_iff.1 h8).1 (row_ne jA.row h8 (by decide))]
                  exact h8
                clear HO6 HG6 jA hd
                go_roundw
                case rel => exact ⟨i + 1, by omega, by go_num, by rw [HSt.out]; exact J6.out, K6⟩
                case measure => simp only [intOf]; omega
            · have hxb : (x == ver) = false := by rw [beq_eq_false_iff_ne]; exact hxv
              rw [decide_eq_false hxv, Bool.false_and, if_neg (by decide)] at hst
              have HSt := hid hst
              clear hst hxv
              go_wp2
              go_roundw
              case rel => exact ⟨i + 1, by omega, by go_num, by rw [HSt.out]; exact JB.out, KB⟩
              case measure => simp only [intOf]; omega
        · have hie : P.m k = i := by omega
          have hil2 : ¬ (i : Int) < (P.m k : Int) := by omega
          have hal : thAll P ver (k + 1) = thRow P ver k (thAll P ver k) i := by rw [thAll_succ, hie]
          have HAl := hid hal
          clear hal
          go_wp2
          go_roundw
          case rel => exact ⟨k + 1, by omega, by go_num, by rw [HAl.out]; exact JZ.out⟩
          case measure => simp only [intOf]; omega
    · have hke : np = k := by omega
      subst hke
      have hlen := HLen.out np (Nat.le_refl _)
      have hsl : ShSl wr wr.heap.size u5 (thAll P ver np).length (nL P (thAll P ver np)) (vaL UV (thAll P ver np)) (lL P (thAll P ver np)) (xL P (thAll P ver np)) := by
        refine OwnS.shl (w0 := w) ⟨owns_base J.out.row (by omega), J.out.below⟩ (by omega) fun j hj => ?_
        obtain ⟨h1, h2, _⟩ := (thAll_ok P ver np np (Nat.le_refl _)).at_ ((thAll P ver np).getD j (0, 0)) (by rw [List.getD_eq_getElem?_getD, List.getElem?_eq_getElem hj]; exact List.getElem_mem hj)
        exact (HL.out.up J.out.below).ints h1 h2
      have HS := hid hsl
      clear hsl
      go_wp2
      go_ret
      exact ⟨J.out.below, _, rfl, HS.out⟩

end Go.Proofs.YtjfnpjmhippdoafGreat

/- Contracts of the library as they lie at this program: laid by the guide's own command, in plain words. -/
namespace Go.Proofs

open Go.Shelf
def Tryz.sortLists_ren : Go.Shelf.Ren := ⟨fun | 6 => 82 | 15 => 37 | 14 => 120 | 28 => 68 | 29 => 69 | 20 => 133 | 21 => 134 | 22 => 135 | 23 => 136 | 24 => 137 | 25 => 138 | 26 => 139 | 27 => 140 | 46 => 146 | 47 => 103 | 48 => 104 | 49 => 147 | 50 => 148 | 57 => 151 | n => n, fun | 22 => 126 | 24 => 28 | 25 => 128 | 3 => 3 | 39 => 79 | 0 => 0 | 53 => 109 | 55 => 111 | 4 => 4 | 46 => 101 | 45 => 100 | 50 => 106 | 5 => 5 | 9 => 9 | 66 => 141 | 70 => 145 | 76 => 160 | 77 => 161 | n => n, fun | n => n⟩
theorem Tryz.sortLists : Go.Proofs.SlLaysF.n6 Tryz.prog Tryz.sortLists_ren := {
  mixed := by kernel_rfl
  f6 := ⟨Tryz.f82.name, by decide, Tryz.func82.trans (congrArg some (by kernel_rfl))⟩
  f14 := ⟨Tryz.f120.name, by decide, Tryz.func120.trans (congrArg some (by kernel_rfl))⟩
  f15 := Tryz.func37.trans (congrArg some (by kernel_rfl))
  f20 := ⟨Tryz.f133.name, by decide, Tryz.func133.trans (congrArg some (by kernel_rfl))⟩
  f21 := ⟨Tryz.f134.name, by decide, Tryz.func134.trans (congrArg some (by kernel_rfl))⟩
  f22 := ⟨Tryz.f135.name, by decide, Tryz.func135.trans (congrArg some (by kernel_rfl))⟩
  f23 := ⟨Tryz.f136.name, by decide, Tryz.func136.trans (congrArg some (by kernel_rfl))⟩
  f24 := ⟨Tryz.f137.name, by decide, Tryz.func137.trans (congrArg some (by kernel_rfl))⟩
  f25 := ⟨Tryz.f138.name, by decide, Tryz.func138.trans (congrArg some (by kernel_rfl))⟩
  f26 := ⟨Tryz.f139.name, by decide, Tryz.func139.trans (congrArg some (by kernel_rfl))⟩
  f27 := ⟨Tryz.f140.name, by decide, Tryz.func140.trans (congrArg some (by kernel_rfl))⟩
  f28 := Tryz.func68.trans (congrArg some (by kernel_rfl))
  f29 := Tryz.func69.trans (congrArg some (by kernel_rfl))
  f46 := ⟨Tryz.f146.name, by decide, Tryz.func146.trans (congrArg some (by kernel_rfl))⟩
  f47 := Tryz.func103.trans (congrArg some (by kernel_rfl))
  f48 := Tryz.func104.trans (congrArg some (by kernel_rfl))
  f49 := ⟨Tryz.f147.name, by decide, Tryz.func147.trans (congrArg some (by kernel_rfl))⟩
  f50 := ⟨Tryz.f148.name, by decide, Tryz.func148.trans (congrArg some (by kernel_rfl))⟩
  f57 := ⟨Tryz.f151.name, by decide, Tryz.func151.trans (congrArg some (by kernel_rfl))⟩
  t0 := Tryz.underlying0
  a0 := Tryz.isAgg0
  z0 := Tryz.sizeOf0
  v0 := Tryz.zeroValue0
  t3 := Tryz.underlying3
  a3 := Tryz.isAgg3
  z3 := Tryz.sizeOf3
  v3 := Tryz.zeroValue3
  t4 := Tryz.underlying4
  a4 := Tryz.isAgg4
  z4 := Tryz.sizeOf4
  v4 := Tryz.zeroValue4
  t5 := Tryz.underlying5
  a5 := Tryz.isAgg5
  z5 := Tryz.sizeOf5
  v5 := Tryz.zeroValue5
  t9 := Tryz.underlying9
  a9 := Tryz.isAgg9
  z9 := Tryz.sizeOf9
  v9 := Tryz.zeroValue9
  t22 := Tryz.underlying126
  a22 := Tryz.isAgg126
  z22 := Tryz.sizeOf126
  v22 := Tryz.zeroValue126
  a24 := Tryz.isAgg28
  z24 := Tryz.sizeOf28
  t25 := Tryz.underlying128
  a25 := Tryz.isAgg128
  z25 := Tryz.sizeOf128
  v25 := Tryz.zeroValue128
  t39 := Tryz.underlying79
  a39 := Tryz.isAgg79
  z39 := Tryz.sizeOf79
  v39 := Tryz.zeroValue79
  t45 := Tryz.underlying100
  a45 := Tryz.isAgg100
  z45 := Tryz.sizeOf100
  v45 := Tryz.zeroValue100
  t46 := Tryz.underlying101
  a46 := Tryz.isAgg101
  z46 := Tryz.sizeOf101
  v46 := Tryz.zeroValue101
  t50 := Tryz.underlying106
  a50 := Tryz.isAgg106
  z50 := Tryz.sizeOf106
  v50 := Tryz.zeroValue106
  t53 := Tryz.underlying109
  a53 := Tryz.isAgg109
  z53 := Tryz.sizeOf109
  v53 := Tryz.zeroValue109
  t55 := Tryz.underlying111
  a55 := Tryz.isAgg111
  z55 := Tryz.sizeOf111
  v55 := Tryz.zeroValue111
  t66 := Tryz.underlying141
  a66 := Tryz.isAgg141
  z66 := Tryz.sizeOf141
  v66 := Tryz.zeroValue141
  t70 := Tryz.underlying145
  a70 := Tryz.isAgg145
  z70 := Tryz.sizeOf145
  v70 := Tryz.zeroValue145
  t76 := Tryz.underlying160
  a76 := Tryz.isAgg160
  z76 := Tryz.sizeOf160
  v76 := Tryz.zeroValue160
  t77 := Tryz.underlying161
  a77 := Tryz.isAgg161
  z77 := Tryz.sizeOf161
  v77 := Tryz.zeroValue161 }

end Go.Proofs

/- What package share answers of a plan, of a share, and of two: Check, Long, One, Same. -/
namespace Go.Proofs.YtjfnpjmhippdoafGreat

open Go.RowKit CurveMath
set_option linter.unusedVariables false

end Go.Proofs.YtjfnpjmhippdoafGreat

/- A map of the numbers that were seen: has it this one? Plain: it speaks of no program. -/
namespace Go.Proofs.YtjfnpjmhippdoafGreat

open Go.RowKit Go.Maps
set_option linter.unusedVariables false

/-- the first k of X, each with u -/
def setX {H : Type} (u : DataW H) (X : Nat → Int) (k : Nat) : DataW H := setOf u ((List.range k).map fun j => Lit.int .i64 (X j))

theorem setX_zero {H : Type} (u : DataW H) (X : Nat → Int) : setX u X 0 = .map [] := rfl

theorem setX_succ {H : Type} (u : DataW H) (X : Nat → Int) (k : Nat) : setX u X (k + 1) = (setX u X k).put (.int .i64 (X k)) u := by
  unfold setX
  rw [List.range_succ, List.map_append]
  exact setOf_snoc u _ _

theorem isMap_setX {H : Type} (u : DataW H) (X : Nat → Int) (k : Nat) : IsMap (setX u X k) := by
  induction k with
  | zero => rw [setX_zero]; exact isMap_empty
  | succ k ih => rw [setX_succ]; exact ih.put _ _

theorem hasB_succ (X : Nat → Int) (k : Nat) (v : Int) (h : X k ≠ v) : hasB X (k + 1) v = hasB X k v := by
  rw [Bool.eq_iff_iff, hasB_iff, hasB_iff]
  constructor
  · rintro ⟨j, hj, e⟩
    by_cases hjk : j = k
    · subst hjk; exact absurd e h
    · exact ⟨j, by omega, e⟩
  · rintro ⟨j, hj, e⟩; exact ⟨j, by omega, e⟩

theorem atKey_setX {H : Type} (u : DataW H) (X : Nat → Int) (k : Nat) (v : Int) (z : DataW H) : (setX u X k).atKey (.int .i64 v) z = if hasB X k v = true then u else z := by
  induction k with
  | zero => rfl
  | succ k ih =>
    rw [setX_succ]
    by_cases h : X k = v
    · subst h
      rw [atKey_put_same (isMap_setX u X k) (by simp [WideAt.IsKeyLit]), if_pos ((hasB_iff X (k + 1) (X k)).2 ⟨k, by omega, rfl⟩)]
    · rw [atKey_put_other (fun e => h (by injection e with _ e2; exact e2.symm)), ih, hasB_succ X k v h]

end Go.Proofs.YtjfnpjmhippdoafGreat
