/- Several texts of one proof, in their order. -/
import Derived.Test.YtdhefajaekackaaPrSum6
import Derived.Test.YtdhefajaekackaaPrSum12
import Derived.Test.YtdhefajaekackaaPrSum1
import Derived.Deep.Strs
import Derived.Deep.Slices
import Derived.Test.YtdhefajaekackaaPrSum4

/- Boxes that stay: books, peers, kept ones. -/
namespace Go.Proofs.Ytdhefajaekackaa

open Go.RowKit
set_option linter.unusedVariables false

theorem heap_four (w : World) (o1 o2 o3 o4 : Obj) : ((((w.alloc o1).alloc o2).alloc o3).alloc o4).heap[w.heap.size]? = some o1 ∧ ((((w.alloc o1).alloc o2).alloc o3).alloc o4).heap[w.heap.size + 1]? = some o2 ∧ ((((w.alloc o1).alloc o2).alloc o3).alloc o4).heap[w.heap.size + 2]? = some o3 ∧ ((((w.alloc o1).alloc o2).alloc o3).alloc o4).heap[w.heap.size + 3]? = some o4 := by
  refine ⟨?_, ?_, ?_, ?_⟩
  · rw [Below.heap_alloc _ _ _ (by simp <;> omega), Below.heap_alloc _ _ _ (by simp <;> omega), Below.heap_alloc _ _ _ (by simp)]; exact heap_alloc_new _ _
  · rw [Below.heap_alloc _ _ _ (by simp <;> omega), Below.heap_alloc _ _ _ (by simp)]
    have := heap_alloc_new (w.alloc o1) o2
    simpa using this
  · rw [Below.heap_alloc _ _ _ (by simp)]
    have := heap_alloc_new ((w.alloc o1).alloc o2) o3
    simpa using this
  · have := heap_alloc_new (((w.alloc o1).alloc o2).alloc o3) o4
    simpa using this

/-- block g holds this peer -/
def PrAt (w : World) (g : Nat) (th : Bool) (room : Int) (a : Option Addr) (m c : Nat) (UV : Nat → Value) (t : Kt) : Prop :=
  w.heap[g]? = some (.cells #[.bool th, .int .i64 room, .slice a m c] 58 (0, 0)) ∧ KeSl w w.heap.size (.slice a m c) m UV t

theorem PrAt.up {w w' : World} {g : Nat} {th : Bool} {room : Int} {a : Option Addr} {m c : Nat} {UV : Nat → Value} {t : Kt} (h : PrAt w g th room a m c UV t) (hb : Below w.heap.size w w') : PrAt w' g th room a m c UV t := ⟨stayB h.1 hb, h.2.up hb⟩

theorem PrAt.cells {w : World} {g : Nat} {th : Bool} {room : Int} {a : Option Addr} {m c : Nat} {UV : Nat → Value} {t : Kt} (h : PrAt w g th room a m c UV t) : w.cell? ⟨g, 0, none⟩ = some (.bool th) ∧ w.cell? ⟨g, 1, none⟩ = some (.int .i64 room) ∧ w.cell? ⟨g, 2, none⟩ = some (.slice a m c) := three_at h.1

theorem PrAt.box {w : World} {th : Bool} {room : Int} {a : Option Addr} {m c : Nat} {UV : Nat → Value} {t : Kt} (h : KeSl w w.heap.size (.slice a m c) m UV t) : PrAt (w.alloc (.cells #[.bool th, .int .i64 room, .slice a m c] 58)) w.heap.size th room a m c UV t := ⟨heap_alloc_new _ _, h.up (below_alloc _ _)⟩

/-- block g holds this book -/
def BkAt (w : World) (g : Nat) (a : Option Addr) (n c : Nat) (PV : Nat → Value) (b : Bk) : Prop :=
  w.heap[g]? = some (.cells #[.slice a n c] 24 (0, 0)) ∧ VeSl w w.heap.size (.slice a n c) n PV b

theorem BkAt.up {w w' : World} {g : Nat} {a : Option Addr} {n c : Nat} {PV : Nat → Value} {b : Bk} (h : BkAt w g a n c PV b) (hb : Below w.heap.size w w') : BkAt w' g a n c PV b := ⟨stayB h.1 hb, h.2.up hb⟩

theorem BkAt.cell {w : World} {g : Nat} {a : Option Addr} {n c : Nat} {PV : Nat → Value} {b : Bk} (h : BkAt w g a n c PV b) : w.cell? ⟨g, 0, none⟩ = some (.slice a n c) := cell_at h.1 rfl

/-- block g holds this kept one -/
def KpAt (w : World) (g : Nat) (ver N : Int) (a : Option Addr) (l c : Nat) (X : Nat → Int) : Prop :=
  w.heap[g]? = some (.cells #[.int .i64 ver, .int .i64 N, .slice a l c] 62 (0, 0)) ∧ IntSl w w.heap.size (.slice a l c) l X

theorem KpAt.up {w w' : World} {g : Nat} {ver N : Int} {a : Option Addr} {l c : Nat} {X : Nat → Int} (h : KpAt w g ver N a l c X) (hb : Below w.heap.size w w') : KpAt w' g ver N a l c X := ⟨stayB h.1 hb, h.2.up hb⟩

theorem KpAt.cells {w : World} {g : Nat} {ver N : Int} {a : Option Addr} {l c : Nat} {X : Nat → Int} (h : KpAt w g ver N a l c X) : w.cell? ⟨g, 0, none⟩ = some (.int .i64 ver) ∧ w.cell? ⟨g, 1, none⟩ = some (.int .i64 N) ∧ w.cell? ⟨g, 2, none⟩ = some (.slice a l c) := three_at h.1

/-- one of those that are kept -/
theorem KeSl.at {w : World} {B : Nat} {a : Option Addr} {m c : Nat} {UV : Nat → Value} {t : Kt} (h : KeSl w B (.slice a m c) m UV t) {i : Nat} (hi : i < m) :
    ∃ bl off, a = some ⟨bl, off, none⟩ ∧ m ≤ c ∧ w.cell? ⟨bl, off + i * 3, none⟩ = some (.int .i64 (t.V i)) ∧ w.cell? ⟨bl, off + i * 3 + 1, none⟩ = some (.int .i64 (t.N i)) ∧ w.cell? ⟨bl, off + i * 3 + 2, none⟩ = some (UV i) ∧ IntSl w B (UV i) (t.L i) (t.X i) := by
  obtain ⟨ad, cap, he, ⟨h0, _⟩, h2⟩ := h
  injection he with e1 _ e3
  subst e1 e3
  rcases h2 with h2 | ⟨bl, off, rfl, _, h5⟩
  · omega
  · obtain ⟨g1, g2, g3, g4⟩ := h5 i hi
    exact ⟨bl, off, rfl, h0, g1, g2, g3, g4⟩

end Go.Proofs.Ytdhefajaekackaa

/- Kit of chapter 7's laws: boxes that stay. -/
namespace Go.Proofs.Ytdhefajaekackaa

open Go.RowKit
set_option linter.unusedVariables false

theorem keptB_nil (t u : Kt) : keptB 0 0 t u = true := rfl

/-- what Keep comes to is one thing, as a peer -/
theorem keepsTo_alike {n : Nat} {b : Bk} {th : Bool} {room : Int} {m : Nat} {t : Kt} {ver N : Int} {L : Nat} {X : Nat → Int} {e1 e2 : Int} {h1 h2 : Bool} {r1 r2 : Int} {m1 m2 : Nat} {t1 t2 : Kt} (g1 : KeepsTo n b th room m t ver N L X e1 h1 r1 m1 t1) (g2 : KeepsTo n b th room m t ver N L X e2 h2 r2 m2 t2) :
    e1 = e2 ∧ peerB h1 h2 r1 r2 m1 m2 t1 t2 = true := by
  obtain ⟨h1, rfl, rfl, rfl, h5⟩ := keepsTo_uniq g1 g2
  refine ⟨h1, ?_⟩
  rcases h5 with h5 | rfl
  · subst h5; unfold peerB; rw [keptB_nil]; simp
  · exact peerB_refl _ _ _ _

end Go.Proofs.Ytdhefajaekackaa

/- How the laws' arguments are read: plans, lists of ints inside of others. -/
namespace Go.Proofs.Ytdhefajaekackaa

open Go.ChangeShapes Go.WideShapes Go.ChangeAt Go.RowKit Go.Deep
set_option linter.unusedVariables false

variable {H : Type} {enc : TypeId × Value → H} {W : World}

theorem Try.cellsInts : Try.prog.cellsOf 25 = 1 := by kernel_rfl
theorem Try.cellsPlan : Try.prog.cellsOf 27 = 3 := by kernel_rfl

theorem agg_of {v : Value} {n : Nat} (hn : n ≠ 1) (h : v.cells.toList.length = n) : v = .agg v.cells := by
  cases v <;> first | rfl | (simp [Value.cells] at h; omega)

/-- a list of ints, by its one cell -/
theorem isl_cell {fuel : Nat} {cs : List Value} {x : DataW H × List MemPlace} (h : DataW.trod enc Try.prog W 0 (fun _ => true) true fuel 25 cs = some x) (hs : ∀ y ∈ x.1.weights Try.prog 25, y ≤ reachBytes) :
    ∃ a len cap X, cs = [.slice a len cap] ∧ SlArg W a len cap X := by
  have key : ∃ a len cap, cs = [.slice a len cap] := by
    rcases open_ints Try.underlying25 Try.underlying3 Try.cellsInt h with ⟨hcs, _⟩ | ⟨x, l, c, zs, hcs, _⟩
    · exact ⟨_, _, _, hcs⟩
    · exact ⟨_, _, _, hcs⟩
  obtain ⟨a, len, cap, rfl⟩ := key
  obtain ⟨X, hX⟩ := slArg_open (enc := enc) (W := W) (a := a) (len := len) (cap := cap) (d := x.1) (p := x.2) Try.underlying25 ⟨fuel, by simpa [Value.cells] using h⟩ (fun elems spare hd => by
    refine hs _ ?_
    rw [hd]
    simp [DataW.weights, Try.underlying25])
  exact ⟨a, len, cap, X, rfl, hX⟩

theorem weightsAll_mem {P : Program} {e : TypeId} {l : List (DataW H)} {d : DataW H} (h : d ∈ l) {y : Nat} (hy : y ∈ d.weights P e) : y ∈ DataW.weightsAll P e l := by
  induction l with
  | nil => cases h
  | cons x l ih =>
    simp only [DataW.weightsAll, List.mem_append]
    rcases List.mem_cons.1 h with rfl | h
    · exact Or.inl hy
    · exact Or.inr (ih h)

end Go.Proofs.Ytdhefajaekackaa

/- How the laws' arguments are read: versions, books that come in, within the form's own reach. -/
namespace Go.Proofs.Ytdhefajaekackaa

open Go.ChangeShapes Go.WideShapes Go.ChangeAt Go.RowKit Go.Deep
set_option linter.unusedVariables false

variable {H : Type} {enc : TypeId × Value → H} {W : World}

theorem Try.cellsVer : Try.prog.cellsOf 29 = 4 := by kernel_rfl
theorem Try.cellsVers : Try.prog.cellsOf 22 = 1 := by kernel_rfl
theorem Try.cellsBook : Try.prog.cellsOf 24 = 1 := by kernel_rfl
theorem Try.bytesVer : Try.prog.bytesOf 29 = 48 := by kernel_rfl

/-- a plan, by its cells -/
theorem plan_cells {fuel : Nat} {cs : List Value} {x : DataW H × List MemPlace} (h : DataW.trod enc Try.prog W 0 (fun _ => true) true fuel 27 cs = some x) :
    ∃ nd of sz : Int, cs = [.int .i64 nd, .int .i64 of, .int .i64 sz] := by
  obtain ⟨y0, y1, y2, n, hx, hl, h0, h1, h2⟩ := trod_struct3 Try.underlying27 h
  rw [Try.cellsPlan] at hl
  rw [Try.cellsInt] at h0 h1 h2
  obtain ⟨a, e0, _, b0⟩ := DataW.trod_int Try.underlying3 h0
  obtain ⟨b, e1, _, b1⟩ := DataW.trod_int Try.underlying3 h1
  obtain ⟨c, e2, _, b2⟩ := DataW.trod_int Try.underlying3 h2
  refine ⟨a, b, c, ?_⟩
  match cs, hl with
  | [u0, u1, u2], _ =>
    simp at e0 e1 e2
    subst e0 e1 e2
    rfl

/-- a version, by its cells -/
theorem ver_cells {fuel : Nat} {cs : List Value} {x : DataW H × List MemPlace} (h : DataW.trod enc Try.prog W 0 (fun _ => true) true fuel 29 cs = some x) (hs : ∀ y ∈ x.1.weights Try.prog 29, y ≤ reachBytes) :
    ∃ (a : Option Addr) (len cap : Nat) (X : Nat → Int) (nd of sz : Int), cs = [.slice a len cap, .int .i64 nd, .int .i64 of, .int .i64 sz] ∧ SlArg W a len cap X := by
  obtain ⟨y0, y1, n, hx, hl, h0, h1⟩ := trod_struct2 Try.underlying29 h
  rw [Try.cellsVer] at hl
  rw [Try.cellsInts] at h0
  rw [Try.cellsPlan] at h1
  have hd : x.1 = .agg [y0.1, y1.1] := congrArg Prod.fst hx
  obtain ⟨a, len, cap, X, e0, hX⟩ := isl_cell h0 (fun y hy => hs y (by
    rw [hd]
    simp only [DataW.weights, Try.underlying29, List.map_cons, List.map_nil, DataW.weightsEach, List.mem_append]
    exact Or.inl hy))
  obtain ⟨nd, of, sz, e1⟩ := plan_cells h1
  refine ⟨a, len, cap, X, nd, of, sz, ?_, hX⟩
  match cs, hl with
  | [u0, u1, u2, u3], _ =>
    simp at e0 e1
    obtain ⟨rfl, rfl, rfl⟩ := e1
    subst e0
    rfl

/-- a list of versions, by its one cell -/
theorem vers_cell {fuel : Nat} {cs : List Value} {x : DataW H × List MemPlace} (h : DataW.trod enc Try.prog W 0 (fun _ => true) true fuel 22 cs = some x) (hs : ∀ y ∈ x.1.weights Try.prog 22, y ≤ reachBytes) :
    ∃ v n PV b, cs = [v] ∧ VeSl W W.heap.size v n PV b := by
  rcases open_slice Try.underlying22 h with ⟨hcs, _⟩ | ⟨ad, len, cap, m, n, D, Pl, hcs, _, hl, hm, hmm, hx, hall⟩
  · exact ⟨_, 0, fun _ => undef, ⟨fun _ => 0, fun _ _ => 0, fun _ => 0, fun _ => 0, fun _ => 0⟩, hcs, none, 0, rfl, ⟨Nat.le_refl _, by omega⟩, Or.inl rfl⟩
  · simp only [if_true] at hmm
    subst hmm
    have hd : x.1 = .slice ((List.range len).map D) ((List.range (m - len)).map fun j => D (len + j)) := congrArg Prod.fst hx
    rw [Try.cellsVer] at hall
    have each : ∀ i, i < len → ∃ q : Value × Nat × (Nat → Int) × Int × Int × Int, W.cell? (Addr.add ad (i * 4)) = some q.1 ∧ W.cell? (Addr.add ad (i * 4 + 1)) = some (.int .i64 q.2.2.2.1) ∧ W.cell? (Addr.add ad (i * 4 + 2)) = some (.int .i64 q.2.2.2.2.1) ∧ W.cell? (Addr.add ad (i * 4 + 3)) = some (.int .i64 q.2.2.2.2.2) ∧ IntSl W W.heap.size q.1 q.2.1 q.2.2.1 := by
      intro i hi
      obtain ⟨cs', h1, h2⟩ := hall i (by omega)
      obtain ⟨_, _, hcell⟩ := World.cells?_some h1
      obtain ⟨a1, l1, c1, X1, nd, of, sz, e, hX⟩ := ver_cells h2 (fun y hy => hs y (by
        rw [hd]
        simp only [DataW.weights, Try.underlying22, List.mem_cons, List.mem_append]
        exact Or.inr (Or.inl (weightsAll_mem (d := D i) (List.mem_map.2 ⟨i, List.mem_range.2 hi, rfl⟩) hy))))
      subst e
      have e0 := hcell 0 (by omega)
      have e1 := hcell 1 (by omega)
      have e2 := hcell 2 (by omega)
      have e3 := hcell 3 (by omega)
      rw [add_add] at e0 e1 e2 e3
      exact ⟨⟨.slice a1 l1 c1, l1, X1, nd, of, sz⟩, e0, e1, e2, e3, hX.isl⟩
    obtain ⟨q, hq⟩ := choose_lt each
    have hr : (len + (m - len)) * 48 ≤ 140737488351232 := by
      have h1 := hs ((len + (m - len)) * Try.prog.bytesOf 29) (by
        rw [hd]
        simp [DataW.weights, Try.underlying22])
      rw [Try.bytesVer] at h1
      simpa [reachBytes] using h1
    refine ⟨_, len, fun i => (q i).1, ⟨fun i => (q i).2.1, fun i => (q i).2.2.1, fun i => (q i).2.2.2.1, fun i => (q i).2.2.2.2.1, fun i => (q i).2.2.2.2.2⟩, hcs, some ad, m, rfl, ⟨hl, by omega⟩, ?_⟩
    by_cases h0 : len = 0
    · exact Or.inl h0
    · obtain ⟨b, off, spot⟩ := ad
      have hspot : spot = none := by simpa [Addr.add] using World.cell?_spot (hq 0 (by omega)).1
      subst hspot
      refine Or.inr ⟨b, off, rfl, ?_, fun j hj => ?_⟩
      · have h1 := cell_lt (hq 0 (by omega)).1
        simpa [Addr.add] using h1
      · obtain ⟨c0, c1, c2, c3, hi⟩ := hq j hj
        rw [Go.WideShapes.add_plain] at c0 c1 c2 c3
        exact ⟨c0, by simpa [Nat.add_assoc] using c1, by simpa [Nat.add_assoc] using c2, by simpa [Nat.add_assoc] using c3, hi⟩

theorem book_one {v : Value} (h : ∃ cs, v = .agg cs ∧ cs.size = Try.prog.cellsOf 24) : ∃ u, v = .agg #[u] := by
  obtain ⟨cs, rfl, hs⟩ := h
  rw [Try.cellsBook] at hs
  obtain ⟨l⟩ := cs
  match l, hs with
  | [u], _ => exact ⟨u, rfl⟩

/-- a book that came in -/
theorem book_open {v : Value} {d : DataW H} {p : List MemPlace} (h : DataW.Trod enc Try.prog W 0 (fun _ => true) true 24 v d p) (hk : ∃ u, v = .agg #[u]) (hs : ∀ y ∈ d.weights Try.prog 24, y ≤ reachBytes) :
    ∃ vs n PV b, v = bookV vs ∧ VeSl W W.heap.size vs n PV b := by
  obtain ⟨fuel, hf⟩ := h
  obtain ⟨y0, n, hx, hl, h0⟩ := trod_struct1 Try.underlying24 hf
  rw [Try.cellsVers] at h0
  have hd : d = .agg [y0.1] := congrArg Prod.fst hx
  obtain ⟨vs, m, PV, b, e, hv⟩ := vers_cell h0 (fun y hy => hs y (by
    rw [hd]
    simp only [DataW.weights, Try.underlying24, List.map_cons, List.map_nil, DataW.weightsEach, List.mem_append]
    exact Or.inl hy))
  obtain ⟨u, rfl⟩ := hk
  simp [Value.cells] at e
  subst e
  exact ⟨_, m, PV, b, rfl, hv⟩

end Go.Proofs.Ytdhefajaekackaa

/- How the laws' arguments are read: kept ones, peers that come in, within the form's own reach. -/
namespace Go.Proofs.Ytdhefajaekackaa

open Go.ChangeShapes Go.WideShapes Go.ChangeAt Go.RowKit Go.Deep
set_option linter.unusedVariables false

variable {H : Type} {enc : TypeId × Value → H} {W : World}

theorem Try.cellsBool : Try.prog.cellsOf 4 = 1 := by kernel_rfl
theorem Try.cellsShr : Try.prog.cellsOf 60 = 2 := by kernel_rfl
theorem Try.cellsKept : Try.prog.cellsOf 62 = 3 := by kernel_rfl
theorem Try.cellsKepts : Try.prog.cellsOf 56 = 1 := by kernel_rfl
theorem Try.cellsPeer : Try.prog.cellsOf 58 = 3 := by kernel_rfl
theorem Try.bytesKept : Try.prog.bytesOf 62 = 40 := by kernel_rfl

/-- a share, by its cells -/
theorem shr_cells {fuel : Nat} {cs : List Value} {x : DataW H × List MemPlace} (h : DataW.trod enc Try.prog W 0 (fun _ => true) true fuel 60 cs = some x) (hs : ∀ y ∈ x.1.weights Try.prog 60, y ≤ reachBytes) :
    ∃ (N : Int) (a : Option Addr) (len cap : Nat) (X : Nat → Int), cs = [.int .i64 N, .slice a len cap] ∧ SlArg W a len cap X := by
  obtain ⟨y0, y1, n, hx, hl, h0, h1⟩ := trod_struct2 Try.underlying60 h
  rw [Try.cellsShr] at hl
  rw [Try.cellsInt] at h0
  rw [Try.cellsInts] at h1
  obtain ⟨N, e0, _, b0⟩ := DataW.trod_int Try.underlying3 h0
  have hd : x.1 = .agg [y0.1, y1.1] := congrArg Prod.fst hx
  obtain ⟨a, len, cap, X, e1, hX⟩ := isl_cell h1 (fun y hy => hs y (by
    rw [hd]
    simp only [DataW.weights, Try.underlying60, List.map_cons, List.map_nil, DataW.weightsEach, List.mem_append]
    exact Or.inr (Or.inl hy)))
  refine ⟨N, a, len, cap, X, ?_, hX⟩
  match cs, hl with
  | [u0, u1], _ =>
    simp at e0 e1
    subst e0 e1
    rfl

/-- a kept one, by its cells -/
theorem kept_cells {fuel : Nat} {cs : List Value} {x : DataW H × List MemPlace} (h : DataW.trod enc Try.prog W 0 (fun _ => true) true fuel 62 cs = some x) (hs : ∀ y ∈ x.1.weights Try.prog 62, y ≤ reachBytes) :
    ∃ (ver N : Int) (a : Option Addr) (len cap : Nat) (X : Nat → Int), cs = [.int .i64 ver, .int .i64 N, .slice a len cap] ∧ SlArg W a len cap X := by
  obtain ⟨y0, y1, n, hx, hl, h0, h1⟩ := trod_struct2 Try.underlying62 h
  rw [Try.cellsKept] at hl
  rw [Try.cellsInt] at h0
  rw [Try.cellsShr] at h1
  obtain ⟨ver, e0, _, b0⟩ := DataW.trod_int Try.underlying3 h0
  have hd : x.1 = .agg [y0.1, y1.1] := congrArg Prod.fst hx
  obtain ⟨N, a, len, cap, X, e1, hX⟩ := shr_cells h1 (fun y hy => hs y (by
    rw [hd]
    simp only [DataW.weights, Try.underlying62, List.map_cons, List.map_nil, DataW.weightsEach, List.mem_append]
    exact Or.inr (Or.inl hy)))
  refine ⟨ver, N, a, len, cap, X, ?_, hX⟩
  match cs, hl with
  | [u0, u1, u2], _ =>
    simp at e0 e1
    obtain ⟨rfl, rfl⟩ := e1
    subst e0
    rfl

/-- a kept one that came in -/
theorem kept_open {v : Value} {d : DataW H} {p : List MemPlace} (h : DataW.Trod enc Try.prog W 0 (fun _ => true) true 62 v d p) (hs : ∀ y ∈ d.weights Try.prog 62, y ≤ reachBytes) :
    ∃ (ver N : Int) (a : Option Addr) (len cap : Nat) (X : Nat → Int), v = keptV ver N (.slice a len cap) ∧ SlArg W a len cap X := by
  obtain ⟨fuel, hf⟩ := h
  obtain ⟨ver, N, a, len, cap, X, e, hX⟩ := kept_cells hf hs
  have hv := agg_of (n := 3) (by omega) (by rw [e]; rfl)
  refine ⟨ver, N, a, len, cap, X, ?_, hX⟩
  rw [hv]
  generalize v.cells = cs at *
  obtain ⟨l⟩ := cs
  have e' : l = _ := e
  subst e'
  rfl

/-- a list of kept ones, by its one cell -/
theorem kepts_cell {fuel : Nat} {cs : List Value} {x : DataW H × List MemPlace} (h : DataW.trod enc Try.prog W 0 (fun _ => true) true fuel 56 cs = some x) (hs : ∀ y ∈ x.1.weights Try.prog 56, y ≤ reachBytes) :
    ∃ v n UV t, cs = [v] ∧ KeSl W W.heap.size v n UV t := by
  rcases open_slice Try.underlying56 h with ⟨hcs, _⟩ | ⟨ad, len, cap, m, n, D, Pl, hcs, _, hl, hm, hmm, hx, hall⟩
  · exact ⟨_, 0, fun _ => undef, ⟨fun _ => 0, fun _ => 0, fun _ => 0, fun _ _ => 0⟩, hcs, none, 0, rfl, ⟨Nat.le_refl _, by omega⟩, Or.inl rfl⟩
  · simp only [if_true] at hmm
    subst hmm
    have hd : x.1 = .slice ((List.range len).map D) ((List.range (m - len)).map fun j => D (len + j)) := congrArg Prod.fst hx
    rw [Try.cellsKept] at hall
    have each : ∀ i, i < len → ∃ q : Int × Int × Value × Nat × (Nat → Int), W.cell? (Addr.add ad (i * 3)) = some (.int .i64 q.1) ∧ W.cell? (Addr.add ad (i * 3 + 1)) = some (.int .i64 q.2.1) ∧ W.cell? (Addr.add ad (i * 3 + 2)) = some q.2.2.1 ∧ IntSl W W.heap.size q.2.2.1 q.2.2.2.1 q.2.2.2.2 := by
      intro i hi
      obtain ⟨cs', h1, h2⟩ := hall i (by omega)
      obtain ⟨_, _, hcell⟩ := World.cells?_some h1
      obtain ⟨ver, N, a1, l1, c1, X1, e, hX⟩ := kept_cells h2 (fun y hy => hs y (by
        rw [hd]
        simp only [DataW.weights, Try.underlying56, List.mem_cons, List.mem_append]
        exact Or.inr (Or.inl (weightsAll_mem (d := D i) (List.mem_map.2 ⟨i, List.mem_range.2 hi, rfl⟩) hy))))
      subst e
      have e0 := hcell 0 (by omega)
      have e1 := hcell 1 (by omega)
      have e2 := hcell 2 (by omega)
      rw [add_add] at e0 e1 e2
      exact ⟨⟨ver, N, .slice a1 l1 c1, l1, X1⟩, e0, e1, e2, hX.isl⟩
    obtain ⟨q, hq⟩ := choose_lt each
    have hr : (len + (m - len)) * 40 ≤ 140737488351232 := by
      have h1 := hs ((len + (m - len)) * Try.prog.bytesOf 62) (by
        rw [hd]
        simp [DataW.weights, Try.underlying56])
      rw [Try.bytesKept] at h1
      simpa [reachBytes] using h1
    refine ⟨_, len, fun i => (q i).2.2.1, ⟨fun i => (q i).1, fun i => (q i).2.1, fun i => (q i).2.2.2.1, fun i => (q i).2.2.2.2⟩, hcs, some ad, m, rfl, ⟨hl, by omega⟩, ?_⟩
    by_cases h0 : len = 0
    · exact Or.inl h0
    · obtain ⟨b, off, spot⟩ := ad
      have hspot : spot = none := by simpa [Addr.add] using World.cell?_spot (hq 0 (by omega)).1
      subst hspot
      refine Or.inr ⟨b, off, rfl, ?_, fun j hj => ?_⟩
      · have h1 := cell_lt (hq 0 (by omega)).1
        simpa [Addr.add] using h1
      · obtain ⟨c0, c1, c2, hi⟩ := hq j hj
        rw [Go.WideShapes.add_plain] at c0 c1 c2
        exact ⟨c0, by simpa [Nat.add_assoc] using c1, by simpa [Nat.add_assoc] using c2, hi⟩

/-- a peer that came in -/
theorem peer_open {v : Value} {d : DataW H} {p : List MemPlace} (h : DataW.Trod enc Try.prog W 0 (fun _ => true) true 58 v d p) (hs : ∀ y ∈ d.weights Try.prog 58, y ≤ reachBytes) :
    ∃ th room vk n UV t, v = peerV th room vk ∧ (Lit.int .i64 room).wf = true ∧ KeSl W W.heap.size vk n UV t := by
  obtain ⟨fuel, hf⟩ := h
  obtain ⟨y0, y1, y2, n, hx, hl, h0, h1, h2⟩ := trod_struct3 Try.underlying58 hf
  rw [Try.cellsPeer] at hl
  have hv := agg_of (by omega) hl
  rw [Try.cellsBool] at h0
  rw [Try.cellsInt] at h1
  rw [Try.cellsKepts] at h2
  obtain ⟨th, e0, _⟩ := DataW.trod_bool Try.underlying4 h0
  obtain ⟨room, e1, _, b1⟩ := DataW.trod_int Try.underlying3 h1
  have hd : d = .agg [y0.1, y1.1, y2.1] := congrArg Prod.fst hx
  obtain ⟨vk, m, UV, t, e2, hk⟩ := kepts_cell h2 (fun y hy => hs y (by
    rw [hd]
    simp only [DataW.weights, Try.underlying58, List.map_cons, List.map_nil, DataW.weightsEach, List.mem_append]
    exact Or.inr (Or.inr (Or.inl hy))))
  refine ⟨th, room, vk, m, UV, t, ?_, b1, hk⟩
  rw [hv]
  generalize v.cells = cs at *
  obtain ⟨l⟩ := cs
  match l, hl with
  | [u0, u1, u2], _ =>
    simp at e0 e1 e2
    subst e0 e1 e2
    rfl

end Go.Proofs.Ytdhefajaekackaa
