/- Several texts of one proof, in their order. -/
import Derived.Test.YtdhefajaekackaaKnSum2
import Derived.Deep.Strs
import Derived.Test.YtdhefajaekackaaKnSum3
import Derived.Deep.Slices
import Derived.Test.YtdhefajaekackaaKnSum16

/- How the laws' arguments are read: plans, lists of ints inside of others. -/
namespace Go.Proofs.Ytdhefajaekackaa

open Go.ChangeShapes Go.WideShapes Go.ChangeAt Go.RowKit Go.Deep
set_option linter.unusedVariables false

variable {H : Type} {enc : TypeId × Value → H} {W : World}

theorem Try.cellsInts : Try.prog.cellsOf 25 = 1 := by kernel_rfl
theorem Try.cellsPlan : Try.prog.cellsOf 27 = 3 := by kernel_rfl

theorem agg_of {v : Value} {n : Nat} (hn : n ≠ 1) (h : v.cells.toList.length = n) : v = .agg v.cells := by
  cases v <;> first | rfl | (simp [Value.cells] at h; omega)

/-- a plan that came in -/
theorem plan_open {v : Value} {d : DataW H} {p : List MemPlace} (h : DataW.Trod enc Try.prog W 0 (fun _ => true) true 27 v d p) :
    ∃ nd of sz : Int, v = planV nd of sz ∧ (Lit.int .i64 nd).wf = true ∧ (Lit.int .i64 of).wf = true ∧ (Lit.int .i64 sz).wf = true := by
  obtain ⟨fuel, hf⟩ := h
  obtain ⟨y0, y1, y2, n, hx, hl, h0, h1, h2⟩ := trod_struct3 Try.underlying27 hf
  rw [Try.cellsPlan] at hl
  have hv := agg_of (by omega) hl
  rw [Try.cellsInt] at h0 h1 h2
  obtain ⟨a, e0, _, b0⟩ := DataW.trod_int Try.underlying3 h0
  obtain ⟨b, e1, _, b1⟩ := DataW.trod_int Try.underlying3 h1
  obtain ⟨c, e2, _, b2⟩ := DataW.trod_int Try.underlying3 h2
  refine ⟨a, b, c, ?_, b0, b1, b2⟩
  rw [hv]
  generalize v.cells = cs at *
  obtain ⟨l⟩ := cs
  match l, hl with
  | [u0, u1, u2], _ =>
    simp at e0 e1 e2
    subst e0 e1 e2
    rfl

/-- a list of ints, by its one cell -/
theorem isl_cell {fuel : Nat} {cs : List Value} {x : DataW H × List MemPlace} (h : DataW.trod enc Try.prog W 0 (fun _ => true) true fuel 25 cs = some x) (hs : ∀ y ∈ x.1.weights Try.prog 25, y ≤ reachBytes) :
    ∃ a len cap X, cs = [.slice a len cap] ∧ SlArg W a len cap X := by
  have key : ∃ a len cap, cs = [.slice a len cap] := by
    rcases open_ints Try.underlying25 Try.underlying3 Try.cellsInt h with ⟨hcs, _⟩ | ⟨x, l, c, zs, hcs, _⟩
    · exact ⟨_, _, _, hcs⟩
    · exact ⟨_, _, _, hcs⟩
  obtain ⟨a, len, cap, rfl⟩ := key
  obtain ⟨X, hX⟩ := slArg_open (enc := enc) (W := W) (a := a) (len := len) (cap := cap) (d := x.1) (p := x.2) Try.underlying25 ⟨fuel, by simpa [Value.cells] using h⟩ (fun elems spare hd => by
    refine hs _ ?_
    rw [hd]
    simp [DataW.weights, Try.underlying25])
  exact ⟨a, len, cap, X, rfl, hX⟩

theorem weightsAll_mem {P : Program} {e : TypeId} {l : List (DataW H)} {d : DataW H} (h : d ∈ l) {y : Nat} (hy : y ∈ d.weights P e) : y ∈ DataW.weightsAll P e l := by
  induction l with
  | nil => cases h
  | cons x l ih =>
    simp only [DataW.weightsAll, List.mem_append]
    rcases List.mem_cons.1 h with rfl | h
    · exact Or.inl hy
    · exact Or.inr (ih h)

end Go.Proofs.Ytdhefajaekackaa

/- How the laws' arguments are read: versions, books that come in, within the form's own reach. -/
namespace Go.Proofs.Ytdhefajaekackaa

open Go.ChangeShapes Go.WideShapes Go.ChangeAt Go.RowKit Go.Deep
set_option linter.unusedVariables false

variable {H : Type} {enc : TypeId × Value → H} {W : World}

theorem Try.cellsVer : Try.prog.cellsOf 29 = 4 := by kernel_rfl
theorem Try.cellsVers : Try.prog.cellsOf 22 = 1 := by kernel_rfl
theorem Try.cellsBook : Try.prog.cellsOf 24 = 1 := by kernel_rfl
theorem Try.bytesVer : Try.prog.bytesOf 29 = 48 := by kernel_rfl

/-- a plan, by its cells -/
theorem plan_cells {fuel : Nat} {cs : List Value} {x : DataW H × List MemPlace} (h : DataW.trod enc Try.prog W 0 (fun _ => true) true fuel 27 cs = some x) :
    ∃ nd of sz : Int, cs = [.int .i64 nd, .int .i64 of, .int .i64 sz] := by
  obtain ⟨y0, y1, y2, n, hx, hl, h0, h1, h2⟩ := trod_struct3 Try.underlying27 h
  rw [Try.cellsPlan] at hl
  rw [Try.cellsInt] at h0 h1 h2
  obtain ⟨a, e0, _, b0⟩ := DataW.trod_int Try.underlying3 h0
  obtain ⟨b, e1, _, b1⟩ := DataW.trod_int Try.underlying3 h1
  obtain ⟨c, e2, _, b2⟩ := DataW.trod_int Try.underlying3 h2
  refine ⟨a, b, c, ?_⟩
  match cs, hl with
  | [u0, u1, u2], _ =>
    simp at e0 e1 e2
    subst e0 e1 e2
    rfl

/-- a version, by its cells -/
theorem ver_cells {fuel : Nat} {cs : List Value} {x : DataW H × List MemPlace} (h : DataW.trod enc Try.prog W 0 (fun _ => true) true fuel 29 cs = some x) (hs : ∀ y ∈ x.1.weights Try.prog 29, y ≤ reachBytes) :
    ∃ (a : Option Addr) (len cap : Nat) (X : Nat → Int) (nd of sz : Int), cs = [.slice a len cap, .int .i64 nd, .int .i64 of, .int .i64 sz] ∧ SlArg W a len cap X := by
  obtain ⟨y0, y1, n, hx, hl, h0, h1⟩ := trod_struct2 Try.underlying29 h
  rw [Try.cellsVer] at hl
  rw [Try.cellsInts] at h0
  rw [Try.cellsPlan] at h1
  have hd : x.1 = .agg [y0.1, y1.1] := congrArg Prod.fst hx
  obtain ⟨a, len, cap, X, e0, hX⟩ := isl_cell h0 (fun y hy => hs y (by
    rw [hd]
    simp only [DataW.weights, Try.underlying29, List.map_cons, List.map_nil, DataW.weightsEach, List.mem_append]
    exact Or.inl hy))
  obtain ⟨nd, of, sz, e1⟩ := plan_cells h1
  refine ⟨a, len, cap, X, nd, of, sz, ?_, hX⟩
  match cs, hl with
  | [u0, u1, u2, u3], _ =>
    simp at e0 e1
    obtain ⟨rfl, rfl, rfl⟩ := e1
    subst e0
    rfl

/-- a list of versions, by its one cell -/
theorem vers_cell {fuel : Nat} {cs : List Value} {x : DataW H × List MemPlace} (h : DataW.trod enc Try.prog W 0 (fun _ => true) true fuel 22 cs = some x) (hs : ∀ y ∈ x.1.weights Try.prog 22, y ≤ reachBytes) :
    ∃ v n PV b, cs = [v] ∧ VeSl W W.heap.size v n PV b := by
  rcases open_slice Try.underlying22 h with ⟨hcs, _⟩ | ⟨ad, len, cap, m, n, D, Pl, hcs, _, hl, hm, hmm, hx, hall⟩
  · exact ⟨_, 0, fun _ => undef, ⟨fun _ => 0, fun _ _ => 0, fun _ => 0, fun _ => 0, fun _ => 0⟩, hcs, none, 0, rfl, ⟨Nat.le_refl _, by omega⟩, Or.inl rfl⟩
  · simp only [if_true] at hmm
    subst hmm
    have hd : x.1 = .slice ((List.range len).map D) ((List.range (m - len)).map fun j => D (len + j)) := congrArg Prod.fst hx
    rw [Try.cellsVer] at hall
    have each : ∀ i, i < len → ∃ q : Value × Nat × (Nat → Int) × Int × Int × Int, W.cell? (Addr.add ad (i * 4)) = some q.1 ∧ W.cell? (Addr.add ad (i * 4 + 1)) = some (.int .i64 q.2.2.2.1) ∧ W.cell? (Addr.add ad (i * 4 + 2)) = some (.int .i64 q.2.2.2.2.1) ∧ W.cell? (Addr.add ad (i * 4 + 3)) = some (.int .i64 q.2.2.2.2.2) ∧ IntSl W W.heap.size q.1 q.2.1 q.2.2.1 := by
      intro i hi
      obtain ⟨cs', h1, h2⟩ := hall i (by omega)
      obtain ⟨_, _, hcell⟩ := World.cells?_some h1
      obtain ⟨a1, l1, c1, X1, nd, of, sz, e, hX⟩ := ver_cells h2 (fun y hy => hs y (by
        rw [hd]
        simp only [DataW.weights, Try.underlying22, List.mem_cons, List.mem_append]
        exact Or.inr (Or.inl (weightsAll_mem (d := D i) (List.mem_map.2 ⟨i, List.mem_range.2 hi, rfl⟩) hy))))
      subst e
      have e0 := hcell 0 (by omega)
      have e1 := hcell 1 (by omega)
      have e2 := hcell 2 (by omega)
      have e3 := hcell 3 (by omega)
      rw [add_add] at e0 e1 e2 e3
      exact ⟨⟨.slice a1 l1 c1, l1, X1, nd, of, sz⟩, e0, e1, e2, e3, hX.isl⟩
    obtain ⟨q, hq⟩ := choose_lt each
    have hr : (len + (m - len)) * 48 ≤ 140737488351232 := by
      have h1 := hs ((len + (m - len)) * Try.prog.bytesOf 29) (by
        rw [hd]
        simp [DataW.weights, Try.underlying22])
      rw [Try.bytesVer] at h1
      simpa [reachBytes] using h1
    refine ⟨_, len, fun i => (q i).1, ⟨fun i => (q i).2.1, fun i => (q i).2.2.1, fun i => (q i).2.2.2.1, fun i => (q i).2.2.2.2.1, fun i => (q i).2.2.2.2.2⟩, hcs, some ad, m, rfl, ⟨hl, by omega⟩, ?_⟩
    by_cases h0 : len = 0
    · exact Or.inl h0
    · obtain ⟨b, off, spot⟩ := ad
      have hspot : spot = none := by simpa [Addr.add] using World.cell?_spot (hq 0 (by omega)).1
      subst hspot
      refine Or.inr ⟨b, off, rfl, ?_, fun j hj => ?_⟩
      · have h1 := cell_lt (hq 0 (by omega)).1
        simpa [Addr.add] using h1
      · obtain ⟨c0, c1, c2, c3, hi⟩ := hq j hj
        rw [Go.WideShapes.add_plain] at c0 c1 c2 c3
        exact ⟨c0, by simpa [Nat.add_assoc] using c1, by simpa [Nat.add_assoc] using c2, by simpa [Nat.add_assoc] using c3, hi⟩

theorem book_one {v : Value} (h : ∃ cs, v = .agg cs ∧ cs.size = Try.prog.cellsOf 24) : ∃ u, v = .agg #[u] := by
  obtain ⟨cs, rfl, hs⟩ := h
  rw [Try.cellsBook] at hs
  obtain ⟨l⟩ := cs
  match l, hs with
  | [u], _ => exact ⟨u, rfl⟩

/-- a book that came in -/
theorem book_open {v : Value} {d : DataW H} {p : List MemPlace} (h : DataW.Trod enc Try.prog W 0 (fun _ => true) true 24 v d p) (hk : ∃ u, v = .agg #[u]) (hs : ∀ y ∈ d.weights Try.prog 24, y ≤ reachBytes) :
    ∃ vs n PV b, v = bookV vs ∧ VeSl W W.heap.size vs n PV b := by
  obtain ⟨fuel, hf⟩ := h
  obtain ⟨y0, n, hx, hl, h0⟩ := trod_struct1 Try.underlying24 hf
  rw [Try.cellsVers] at h0
  have hd : d = .agg [y0.1] := congrArg Prod.fst hx
  obtain ⟨vs, m, PV, b, e, hv⟩ := vers_cell h0 (fun y hy => hs y (by
    rw [hd]
    simp only [DataW.weights, Try.underlying24, List.map_cons, List.map_nil, DataW.weightsEach, List.mem_append]
    exact Or.inl hy))
  obtain ⟨u, rfl⟩ := hk
  simp [Value.cells] at e
  subst e
  exact ⟨_, m, PV, b, rfl, hv⟩

end Go.Proofs.Ytdhefajaekackaa

/- Where two versions come together, picked in two steps. Plain: it speaks of no program. -/
namespace Go.Proofs.Ytdhefajaekackaa

open Go.RowKit
set_option linter.unusedVariables false

theorem take_next (l : List Int) {j : Nat} (h : j < l.length) : l.take (j + 1) = l.take j ++ [l.getD j 0] := by
  rw [List.take_add_one, List.getD_eq_getElem?_getD, List.getElem?_eq_getElem h]
  rfl

theorem filt_next (p : Int → Bool) (l : List Int) {j : Nat} (h : j < l.length) {x : Int} (hx : l.getD j 0 = x) : (l.take (j + 1)).filter p = (l.take j).filter p ++ (if p x = true then [x] else []) := by
  rw [take_next l h, List.filter_append, hx]
  cases hp : p x <;> simp [hp]

theorem filt_len (p : Int → Bool) (l : List Int) (j : Nat) : ((l.take j).filter p).length ≤ j := by
  refine Nat.le_trans (List.length_filter_le _ _) ?_
  rw [List.length_take]
  omega

theorem pickL_filter (p : Nat → Bool) (q : Int → Bool) (n : Nat) : (pickL p n).filter q = pickL (fun x => p x && q (x : Int)) n := by
  unfold pickL
  rw [List.filter_map, List.filter_filter]
  congr 1
  refine List.filter_congr fun x _ => ?_
  exact Bool.and_comm _ _

section

variable {n : Nat} {b : Bk}

theorem bhL_pick (hE : Elder n b) {k : Nat} (hk : k < n) : bhL b k = pickL (fR b k) n := by
  rw [bhL_rea hE hk (p := fR b k) (fun x _ => fR_iff hE hk)]
  refine (pickL_more (j := k + 1) (m := n) (by omega) (fun x h1 h2 => ?_)).symm
  cases h : fR b k x with
  | false => rfl
  | true => have := ((fR_iff hE hk).1 h).le hE hk; omega

/-- is it among these? -/
def amB (l : List Int) (x : Int) : Bool := hasB (fun t => l.getD t 0) l.length x

theorem amB_iff {l : List Int} {x : Int} : amB l x = true ↔ x ∈ l := getD_mem

/-- those that are behind both -/
def bothL (b : Bk) (n i j : Nat) : List Int := pickL (inB b i j) n

theorem both_pick (hE : Elder n b) {i j : Nat} (hi : i < n) (hj : j < n) : (bhL b i).filter (amB (bhL b j)) = bothL b n i j := by
  rw [bhL_pick hE hi, pickL_filter]
  refine pickL_congr fun x hx => ?_
  unfold inB
  congr 1
  rw [Bool.eq_iff_iff, amB_iff, mem_bhL hE hj, fR_iff hE hj]
  constructor
  · rintro ⟨y, e, h⟩
    obtain rfl : x = y := by omega
    exact h
  · intro h; exact ⟨x, rfl, h⟩

/-- does another one of these come from it? -/
def pasB (b : Bk) (l : List Int) (x : Int) : Bool := anyB (fun t => decide (l.getD t 0 ≠ x) && fR b (l.getD t 0).toNat x.toNat) l.length 0

theorem pasB_iff {l : List Int} {x : Int} : pasB b l x = true ↔ ∃ y, y ∈ l ∧ y ≠ x ∧ fR b y.toNat x.toNat = true := by
  unfold pasB
  rw [anyB_iff]
  constructor
  · rintro ⟨t, _, h2, h3⟩
    rw [Bool.and_eq_true, decide_eq_true_iff] at h3
    exact ⟨_, getD_mem.1 ((hasB_iff _ _ _).2 ⟨t, by omega, rfl⟩), h3.1, h3.2⟩
  · rintro ⟨y, hy, h1, h2⟩
    obtain ⟨t, ht, e⟩ := (hasB_iff _ _ _).1 (getD_mem.2 hy)
    refine ⟨t, Nat.zero_le _, by omega, ?_⟩
    have e2 : l.getD t 0 = y := e
    rw [e2, Bool.and_eq_true, decide_eq_true_iff]
    exact ⟨h1, h2⟩

theorem mem_bothL (hE : Elder n b) {i j : Nat} (hi : i < n) (hj : j < n) {x : Int} : x ∈ bothL b n i j ↔ ∃ k : Nat, x = k ∧ k < n ∧ Rea b i k ∧ Rea b j k := by
  unfold bothL
  rw [mem_pickL]
  constructor
  · rintro ⟨k, h1, h2, e⟩; exact ⟨k, e, h1, (inB_iff hE hi hj).1 h2⟩
  · rintro ⟨k, e, h1, h2⟩; exact ⟨k, h1, (inB_iff hE hi hj).2 h2, e⟩

theorem com_pick (hE : Elder n b) {i j : Nat} (hi : i < n) (hj : j < n) : (bothL b n i j).filter (fun x => !pasB b (bothL b n i j) x) = comL b n i j := by
  have hp : ∀ x : Nat, x < n → (pasB b (bothL b n i j) (x : Int) = true ↔ ∃ o, o ≠ x ∧ Rea b i o ∧ Rea b j o ∧ Rea b o x) := fun x hx => by
    rw [pasB_iff]
    constructor
    · rintro ⟨y, hy, h1, h2⟩
      obtain ⟨o, rfl, ho, h3, h4⟩ := (mem_bothL hE hi hj).1 hy
      rw [Int.toNat_natCast, Int.toNat_natCast] at h2
      exact ⟨o, by omega, h3, h4, (fR_iff hE ho).1 h2⟩
    · rintro ⟨o, h1, h2, h3, h4⟩
      have ho : o < n := by have := h2.le hE hi; omega
      exact ⟨(o : Int), (mem_bothL hE hi hj).2 ⟨o, rfl, ho, h2, h3⟩, by omega, by rw [Int.toNat_natCast, Int.toNat_natCast]; exact (fR_iff hE ho).2 h4⟩
  unfold comL
  conv => lhs; unfold bothL
  rw [pickL_filter]
  refine pickL_congr fun x hx => ?_
  rw [Bool.eq_iff_iff, Bool.and_eq_true, Bool.not_eq_true', Bool.eq_false_iff, inB_iff hE hi hj, topB_iff hE hi hj]
  have h := hp x hx
  unfold bothL at h
  rw [Ne, h]
  constructor
  · rintro ⟨h1, h2⟩
    exact ⟨h1, fun o ho a c d => h2 ⟨o, ho, a, c, d⟩⟩
  · rintro ⟨h1, h2⟩
    exact ⟨h1, fun ⟨o, ho, a, c, d⟩ => h2 o ho a c d⟩

/-- one of both is where they come together just where the other one comes from it -/
theorem amB_left (hE : Elder n b) {i j : Nat} (hi : i < n) (hj : j < n) : amB (comL b n i j) (i : Int) = fR b j i := by
  rw [Bool.eq_iff_iff, amB_iff, mem_comL hE hi hj, fR_iff hE hj]
  constructor
  · rintro ⟨k, e, h, _⟩
    obtain rfl : i = k := by omega
    exact h.2
  · intro h
    refine ⟨i, rfl, ⟨Rea.refl _, h⟩, fun o ho h1 _ h3 => ho ?_⟩
    have := h1.le hE hi
    exact Rea.anti hE (by omega) h3 h1

theorem amB_right (hE : Elder n b) {i j : Nat} (hi : i < n) (hj : j < n) : amB (comL b n i j) (j : Int) = fR b i j := by
  rw [← comL_comm hE hi hj]
  exact amB_left hE hj hi

theorem bothL_lt {i j : Nat} {x : Int} (h : x ∈ bothL b n i j) : ∃ k : Nat, x = k ∧ k < n := by
  unfold bothL at h
  obtain ⟨k, h1, _, e⟩ := mem_pickL.1 h
  exact ⟨k, e, h1⟩

end

end Go.Proofs.Ytdhefajaekackaa
