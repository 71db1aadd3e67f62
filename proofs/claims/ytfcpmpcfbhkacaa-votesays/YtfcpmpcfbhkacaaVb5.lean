/- Several texts of one proof, in their order. -/
import Derived.Test.YtfcpmpcfbhkacaaVb0
import Derived.Test.YtfcpmpcfbhkacaaVb4
import Derived.Laws.OwnMore
import Derived.OwnWalk
import Derived.Laws.Rows

/- Slices of ints, plans: what is read of them; lists of ints that a call makes itself, made whole or grown one by one. -/
namespace Go.Proofs.Ytfcpmpcfbhkacaa

open Go.RowKit
set_option linter.unusedVariables false

/-- a row of n ints of the call's own, at the head of block g -/
structure Row (w0 wr : World) (g n : Nat) (C : Nat → Int) : Prop where
  below : Below w0.heap.size w0 wr
  ge : w0.heap.size ≤ g
  cell : ∀ j, j < n → wr.cell? ⟨g, j, none⟩ = some (.int .i64 (C j))
  free : ∀ j, j < n → wr.frozen? ⟨g, j, none⟩ = false

theorem Row.drewN {w0 wr : World} {g n : Nat} {C : Nat → Int} (h : Row w0 wr g n C) (m : Nat) : Row w0 (wr.drewN m) g n C :=
  ⟨h.below.trans ⟨rfl, rfl, rfl, Nat.le_refl _, fun _ _ => rfl⟩, h.ge, h.cell, h.free⟩

theorem Row.set {w0 wr : World} {g n : Nat} {C : Nat → Int} (h : Row w0 wr g n C) (i : Nat) (hi : i < n) (v : Int) : Row w0 (wr.setCell ⟨g, i, none⟩ (.int .i64 v)) g n (fun j => if j = i then v else C j) := by
  refine ⟨Below.setCell h.below h.ge _, h.ge, fun j hj => ?_, fun j hj => by rw [World.frozen?_setCell]; exact h.free j hj⟩
  by_cases hji : j = i
  · subst hji
    simp only [if_true]
    exact World.cell?_setCell_same _ _ _ (h.cell j hj)
  · simp only [if_neg hji]
    rw [World.cell?_setCell_other _ _ _ _ (by intro e; injection e with _ e2; exact hji e2.symm)]
    exact h.cell j hj

/-- a row that was made and filled is such a row -/
theorem Row.of_owns {w0 wr : World} {e : TypeId} {v : Value} {n : Nat} {xs : List Value} {C : Nat → Int} (hn : 1 ≤ n) (h : wr.ownsRow w0.heap.size e 1 v n xs) (hb : Below w0.heap.size w0 wr)
    (hx : ∀ j, j < n → xs[j]? = some (.int .i64 (C j))) : ∃ g cap, v = .slice (some ⟨g, 0, none⟩) n cap ∧ n ≤ cap ∧ Row w0 wr g n C := by
  obtain ⟨hl, h2⟩ := h
  rcases h2 with ⟨_, h0⟩ | ⟨g, cap, cur, hv, hg, hh, hc1, hc2, hsz, hcur⟩
  · omega
  · refine ⟨g, cap, hv, hc1, hb, hg, fun j hj => ?_, fun j hj => ?_⟩
    · have h3 := hx j hj
      rw [← hcur] at h3
      have h4 : cur[j]? = some (.int .i64 (C j)) := by
        rw [List.getElem?_take] at h3
        rw [if_pos (by omega)] at h3
        simpa using h3
      simp [World.cell?, hh, h4]
    · simp [World.frozen?, hh]

theorem SlArg.isl {w : World} {a : Option Addr} {len cap : Nat} {X : Nat → Int} (h : SlArg w a len cap X) : IntSl w w.heap.size (.slice a len cap) len X :=
  ⟨a, cap, rfl, ⟨h.le, by have := h.le; have := h.reach; omega⟩, h.cells⟩

theorem IntSl.up {w w' : World} {v : Value} {n : Nat} {X : Nat → Int} (h : IntSl w w.heap.size v n X) (hb : Below w.heap.size w w') : IntSl w' w'.heap.size v n X :=
  (h.below hb).mono hb.size

theorem heap_two_old (w : World) (o1 o2 : Obj) : ((w.alloc o1).alloc o2).heap[w.heap.size]? = some o1 := by
  rw [Below.heap_alloc _ _ _ (by simp)]
  exact heap_alloc_new _ _

theorem heap_two_new (w : World) (o1 o2 : Obj) : ((w.alloc o1).alloc o2).heap[w.heap.size + 1]? = some o2 := by
  have h := heap_alloc_new (w.alloc o1) o2
  simpa using h

theorem Try.infoInt : (Try.prog.info? 3).map (fun i => (i.zero, i.size, i.bytes)) = some (some (.int .i64 0), 1, 8) := by kernel_rfl

theorem IntSl.congr {w : World} {B : Nat} {v : Value} {n : Nat} {X Y : Nat → Int} (h : IntSl w B v n X) (e : ∀ j, j < n → X j = Y j) : IntSl w B v n Y := by
  obtain ⟨ad, cap, h1, h0, h2⟩ := h
  refine ⟨ad, cap, h1, h0, ?_⟩
  rcases h2 with h2 | ⟨b, off, h3, h4, h5⟩
  · exact Or.inl h2
  · exact Or.inr ⟨b, off, h3, h4, fun j hj => by rw [h5 j hj, e j hj]⟩

theorem Row.isl {w0 wr : World} {g n cap : Nat} {C : Nat → Int} (h : Row w0 wr g n C) (hc : n ≤ cap) (hr : n * 8 ≤ 140737488351232) : IntSl wr wr.heap.size (.slice (some ⟨g, 0, none⟩) n cap) n C := by
  refine ⟨_, _, rfl, ⟨hc, hr⟩, ?_⟩
  by_cases h0 : n = 0
  · exact Or.inl h0
  · exact Or.inr ⟨g, 0, rfl, cell_lt (h.cell 0 (by omega)), fun j hj => by rw [Nat.zero_add]; exact h.cell j hj⟩

theorem Row.congr {w0 wr : World} {g n : Nat} {C D : Nat → Int} (h : Row w0 wr g n C) (e : ∀ j, j < n → C j = D j) : Row w0 wr g n D :=
  ⟨h.below, h.ge, fun j hj => by rw [h.cell j hj, e j hj], h.free⟩

/-- a store into another block leaves a row as it was -/
theorem Row.other {w0 wr : World} {g n : Nat} {C : Nat → Int} (h : Row w0 wr g n C) {a : Addr} (ha : a.block ≠ g) (hb : w0.heap.size ≤ a.block) (u : Value) : Row w0 (wr.setCell a u) g n C := by
  refine ⟨Below.setCell h.below hb _, h.ge, fun j hj => ?_, fun j hj => by rw [World.frozen?_setCell]; exact h.free j hj⟩
  rw [World.cell?_setCell_other _ _ _ _ (by intro e; rw [e] at ha; exact ha rfl)]
  exact h.cell j hj

/-- a world that grew, and is as it was below: rows stay -/
theorem Row.trans {w0 wr w2 : World} {g n : Nat} {C : Nat → Int} (h : Row w0 wr g n C) (hb : Below wr.heap.size wr w2) : Row w0 w2 g n C := by
  refine ⟨h.below.trans (hb.mono h.below.size), h.ge, fun j hj => ?_, fun j hj => ?_⟩
  · have hl := cell_lt (h.cell j hj)
    rw [hb.cell hl]
    exact h.cell j hj
  · have hl := cell_lt (h.cell j hj)
    rw [hb.frozen hl]
    exact h.free j hj

theorem below_of_grown {w w' : World} (h : w.grownBy w' none) : Below w.heap.size w w' :=
  (Below.refl _ _).grown h (Nat.le_refl _) (fun k hk => by cases hk)

/-- what 'make' leaves -/
theorem row_made {w w' : World} {n : Nat} (ho : w'.ownsRow w.heap.size 3 1 (.slice (some ⟨w.heap.size, 0, none⟩) n n) n (madeCells (Value.int .i64 0).cells (n * 1)).toList) (hg : w.grownBy w' none) :
    Row w w' w.heap.size n (fun _ => 0) := by
  by_cases h0 : n = 0
  · subst h0
    exact ⟨below_of_grown hg, Nat.le_refl _, fun j hj => by omega, fun j hj => by omega⟩
  · obtain ⟨g, cap, hv, _, hr⟩ := Row.of_owns (C := fun _ => 0) (by omega) ho (below_of_grown hg) (fun j hj => by
      have e : (Value.int .i64 0).cells = #[Value.int .i64 0] := rfl
      rw [e, toList_madeCells_one]
      simp [hj])
    injection hv with h1 h2 h3
    injection h1 with h4
    injection h4 with h5
    rw [h5]
    exact hr

/-- an own slice, nil or not, that has grown to n ints -/
def OwnI (w0 wr : World) (v : Value) (n : Nat) (C : Nat → Int) : Prop := wr.ownsRow w0.heap.size 3 1 v n ((List.range n).map fun j => Value.int .i64 (C j)) ∧ Below w0.heap.size w0 wr

theorem OwnI.nil (w : World) (C : Nat → Int) : OwnI w w (.slice none 0 0) 0 C := ⟨World.ownsRow_nil _ _ _ _, Below.refl _ _⟩

theorem OwnI.row {w0 wr : World} {v : Value} {n : Nat} {C : Nat → Int} (h : OwnI w0 wr v n C) (hn : 1 ≤ n) : ∃ g cap, v = .slice (some ⟨g, 0, none⟩) n cap ∧ n ≤ cap ∧ Row w0 wr g n C :=
  Row.of_owns hn h.1 h.2 (fun j hj => by simp [hj])

theorem OwnI.push {w0 wr w1 : World} {v v' : Value} {k : Nat} {C : Nat → Int} {x : Int} (h : OwnI w0 wr v k C) (o : Obj) (q : Nat)
    (ho : w1.ownsRow w0.heap.size 3 1 v' (k + 1) (((List.range k).map fun j => Value.int .i64 (C j)) ++ [.int .i64 x])) (hg : ((wr.drewN q).alloc o).grownBy w1 v.ownBlock) (hx : C k = x) : OwnI w0 w1 v' (k + 1) C := by
  refine ⟨?_, ?_⟩
  · rw [List.range_succ, List.map_append]
    simp only [List.map_cons, List.map_nil, hx]
    exact ho
  · have hb : Below w0.heap.size w0 ((wr.drewN q).alloc o) := by
      have h1 : Below w0.heap.size w0 (wr.drewN q) := h.2.trans ⟨rfl, rfl, rfl, Nat.le_refl _, fun _ _ => rfl⟩
      exact h1.alloc h1.size o
    refine hb.grown hg hb.size (fun j hj => ?_)
    obtain ⟨_, h2⟩ := h.1
    rcases h2 with ⟨rfl, _⟩ | ⟨g, cap, cur, rfl, hge, _⟩
    · cases hj
    · simp only [Value.ownBlock, Option.some.injEq] at hj
      omega

theorem OwnI.owns {w0 wr : World} {v : Value} {k : Nat} {C : Nat → Int} (h : OwnI w0 wr v k C) (o : Obj) (q : Nat) : ((wr.drewN q).alloc o).ownsRow w0.heap.size 3 1 v k ((List.range k).map fun j => Value.int .i64 (C j)) :=
  World.ownsRow.alloc (w := wr.drewN q) h.1 o

theorem newCell (w : World) (x : Int) (T : TypeId) : ∀ j u, ([Value.int .i64 x] : List Value)[j]? = some u → (w.alloc (.cells #[.int .i64 x] T)).cell? (Addr.add ⟨w.heap.size, 0, none⟩ j) = some u := by
  intro j u hj
  match j, hj with
  | 0, hj => simp at hj; subst hj; simp [Addr.add]

theorem oneCell (x : Int) : ∀ u ∈ ([Value.int .i64 x] : List Value), u.oneCell' = true := by
  intro u hu
  simp at hu
  subst hu
  rfl

/-- a plan, as a value -/
def planV (nd of sz : Int) : Value := .agg #[.int .i64 nd, .int .i64 of, .int .i64 sz]
/-- a share, as a value -/
def shareV (N : Int) (V : Value) : Value := .agg #[.int .i64 N, V]

def planOk (nd of sz : Int) : Bool := decide ((1 ≤ nd ∧ nd ≤ 4) ∧ (nd ≤ of ∧ of ≤ 8) ∧ (1 ≤ sz ∧ sz ≤ 24))
def chkP (nd of sz : Int) : Int := if planOk nd of sz = true then 0 else 2
/-- size by need, made whole upwards -/
def rowsN (nd sz : Int) : Nat := ((sz + nd - 1) / nd).toNat
def longP (nd of sz : Int) : Int := if planOk nd of sz = true then (rowsN nd sz : Int) else 0

/-- are two lists alike? -/
def eqB (n m : Nat) (X Y : Nat → Int) : Bool := decide (n = m ∧ ∀ j, j < n → X j = Y j)

/-- a list that lies at block B or above -/
def Above (B : Nat) (v : Value) : Prop := ∀ ad n c, v = .slice (some ad) n c → B ≤ ad.block

theorem IntSl.set {w : World} {B bs : Nat} {v : Value} {n : Nat} {X : Nat → Int} (h : IntSl w B v n X) (ha : Above (bs + 1) v) (o : Nat) (u : Value) : IntSl (w.setCell ⟨bs, o, none⟩ u) B v n X := by
  obtain ⟨ad, cap, rfl, h0, h2⟩ := h
  refine ⟨ad, cap, rfl, h0, ?_⟩
  rcases h2 with h2 | ⟨b, off, rfl, h4, h5⟩
  · exact Or.inl h2
  · have hb : bs + 1 ≤ b := ha _ _ _ rfl
    exact Or.inr ⟨b, off, rfl, h4, fun j hj => by rw [World.cell?_setCell_other _ _ _ _ (by intro e; injection e with e1; omega)]; exact h5 j hj⟩

/-- slices.Equal of two lists of ints -/
theorem equal_isl {w : World} {v1 v2 : Value} {n m : Nat} {X Y : Nat → Int} {B : Nat} (h1 : IntSl w B v1 n X) (h2 : IntSl w B v2 m Y) :
    Calls Try.prog 26 #[v1, v2] w fun e w' => e = .returned (.bool (eqB n m X Y)) ∧ ∃ k, w' = w.drewN k := by
  obtain ⟨a1, c1, rfl, ⟨hc1, hr1⟩, hx⟩ := h1
  obtain ⟨a2, c2, rfl, ⟨hc2, hr2⟩, hy⟩ := h2
  by_cases hnm : n = m
  · subst hnm
    rcases hx with h0 | ⟨b1, o1, rfl, _, hx⟩
    · subst h0
      have e : eqB 0 0 X Y = true := decide_eq_true ⟨rfl, fun j hj => by omega⟩
      rw [e]
      refine (Try.slices_Equal_int_empty a1 a2 c1 0 c2 w (by omega)).mono ?_
      rintro e w' ⟨he, hw⟩
      exact ⟨by rw [he]; rfl, 0, by rw [hw]; rfl⟩
    · rcases hy with h0 | ⟨b2, o2, rfl, _, hy⟩
      · subst h0
        have e : eqB 0 0 X Y = true := decide_eq_true ⟨rfl, fun j hj => by omega⟩
        rw [e]
        refine (Try.slices_Equal_int_empty (some ⟨b1, o1, none⟩) a2 c1 0 c2 w (by omega)).mono ?_
        rintro e w' ⟨he, hw⟩
        exact ⟨by rw [he]; rfl, 0, by rw [hw]; rfl⟩
      · refine (Try.slices_Equal_int b1 o1 n c1 b2 o2 n c2 ((List.range n).map X) ((List.range n).map Y) w (by simp) (by simp) (by omega) (by omega) (fun j hj => ?_) (fun j hj => ?_)).mono ?_
        · have hj' : j < n := by simpa using hj
          rw [hx j hj']
          simp [hj']
        · have hj' : j < n := by simpa using hj
          rw [hy j hj']
          simp [hj']
        · rintro e w' ⟨he, hw⟩
          refine ⟨?_, hw⟩
          rw [he]
          have e2 : (((List.range n).map X).take n == ((List.range n).map Y).take n) = eqB n n X Y := by
            have h1 : ((List.range n).map X).take n = (List.range n).map X := List.take_of_length_le (by simp)
            have h2 : ((List.range n).map Y).take n = (List.range n).map Y := List.take_of_length_le (by simp)
            rw [h1, h2, Bool.eq_iff_iff]
            simp only [beq_iff_eq, eqB, decide_eq_true_eq, true_and]
            constructor
            · intro h j hj
              have h3 := congrArg (fun l => l[j]?) h
              simpa [hj] using h3
            · intro h
              exact List.map_congr_left fun j hj => h j (List.mem_range.1 hj)
          rw [e2]
  · have e : eqB n m X Y = false := decide_eq_false (fun h => hnm h.1)
    rw [e]
    refine (Try.slices_Equal_int_lens a1 a2 n c1 m c2 w hnm).mono ?_
    rintro e w' ⟨he, hw⟩
    exact ⟨he, 0, by rw [hw]; rfl⟩

theorem below_alloc (w : World) (o : Obj) : Below w.heap.size w (w.alloc o) := (Below.refl _ _).alloc (Nat.le_refl _) _

theorem cell_at {w : World} {b i : Nat} {cs : Array Value} {T : TypeId} {v : Value} (hh : w.heap[b]? = some (.cells cs T)) (h : cs[i]? = some v) : w.cell? ⟨b, i, none⟩ = some v := by
  simp [World.cell?, hh, h]

/-- a list of ints that was just written out -/
theorem isl_new (w : World) (l : List Int) (T : TypeId) (h : l.length ≤ 1000) : IntSl (w.alloc (.cells (l.map (Value.int .i64)).toArray T)) (w.alloc (.cells (l.map (Value.int .i64)).toArray T)).heap.size (.slice (some ⟨w.heap.size, 0, none⟩) l.length l.length) l.length (fun j => l.getD j 0) :=
  intSl_lit (heap_alloc_new _ _) rfl (by simp) h

theorem IntSl.alloc {w : World} {v : Value} {n : Nat} {X : Nat → Int} (h : IntSl w w.heap.size v n X) (o : Obj) : IntSl (w.alloc o) (w.alloc o).heap.size v n X := h.up (below_alloc w o)

theorem isl_new' (w : World) (s : Nat) (hs : w.heap.size = s) (l : List Int) (T : TypeId) (h : l.length ≤ 1000) : IntSl (w.alloc (.cells (l.map (Value.int .i64)).toArray T)) (w.alloc (.cells (l.map (Value.int .i64)).toArray T)).heap.size (.slice (some ⟨s, 0, none⟩) l.length l.length) l.length (fun j => l.getD j 0) := by
  subst hs
  exact isl_new w l T h

theorem planOk_spec {nd of sz : Int} (h : planOk nd of sz = true) : (1 ≤ nd ∧ nd ≤ 4) ∧ (nd ≤ of ∧ of ≤ 8) ∧ (1 ≤ sz ∧ sz ≤ 24) := by
  unfold planOk at h
  exact of_decide_eq_true h

/-- rows of whole numbers -/
theorem rowsN_bd {nd sz : Int} (h1 : 1 ≤ nd ∧ nd ≤ 4) (h2 : 1 ≤ sz ∧ sz ≤ 24) : sz ≤ rowsN nd sz * nd ∧ ((rowsN nd sz : Int) - 1) * nd < sz ∧ 1 ≤ rowsN nd sz ∧ rowsN nd sz ≤ 24 ∧ rowsN nd sz * nd ≤ 27 := by
  unfold rowsN
  rcases (show nd = 1 ∨ nd = 2 ∨ nd = 3 ∨ nd = 4 by omega) with rfl | rfl | rfl | rfl <;> omega

theorem frozen_at {w : World} {b i : Nat} {cs : Array Value} {T : TypeId} (hh : w.heap[b]? = some (.cells cs T)) : w.frozen? ⟨b, i, none⟩ = false := by
  simp [World.frozen?, hh]

/-- a list that was made, whole -/
theorem made_block {w' : World} {B g n : Nat} (ho : w'.ownsRow B 3 1 (.slice (some ⟨g, 0, none⟩) n n) n (madeCells (Value.int .i64 0).cells (n * 1)).toList) :
    w'.heap[g]? = some (.cells (List.replicate n (Value.int .i64 0)).toArray 3 (0, 0)) := by
  obtain ⟨hl, h2⟩ := ho
  rcases h2 with ⟨h1, _⟩ | ⟨g', cap, cur, hv, _, hh, hc1, hc2, hsz, hcur⟩
  · cases h1
  · injection hv with e1 _ e3
    injection e1 with e1
    injection e1 with e1
    subst e1 e3
    have e : (Value.int .i64 0).cells = #[Value.int .i64 0] := rfl
    rw [e, toList_madeCells_one, List.take_of_length_le (by simp [hsz])] at hcur
    rw [hh]
    congr 2
    rw [← Array.toArray_toList (xs := cur), hcur]
    simp

theorem Try.sizeInt : (Try.prog.info? 3).map (·.size) = some 1 := by kernel_rfl

end Go.Proofs.Ytfcpmpcfbhkacaa
