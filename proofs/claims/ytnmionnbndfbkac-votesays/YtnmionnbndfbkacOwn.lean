/- Slices of ints that a call makes itself: made whole, or grown one by one. -/
import Derived.Test.YtnmionnbndfbkacCurveSpec
import Derived.Laws.OwnMore
import Derived.OwnWalk
namespace Go.Proofs.Ytnmionnbndfbkac
open Go.RowKit CurveMath
set_option linter.unusedVariables false

theorem Try.infoInt : (Try.prog.info? 3).map (fun i => (i.zero, i.size, i.bytes)) = some (some (.int .i64 0), 1, 8) := by kernel_rfl

theorem IntSl.congr {w : World} {B : Nat} {v : Value} {n : Nat} {X Y : Nat → Int} (h : IntSl w B v n X) (e : ∀ j, j < n → X j = Y j) : IntSl w B v n Y := by
  obtain ⟨ad, cap, h1, h0, h2⟩ := h
  refine ⟨ad, cap, h1, h0, ?_⟩
  rcases h2 with h2 | ⟨b, off, h3, h4, h5⟩
  · exact Or.inl h2
  · exact Or.inr ⟨b, off, h3, h4, fun j hj => by rw [h5 j hj, e j hj]⟩

theorem Row.isl {w0 wr : World} {g n cap : Nat} {C : Nat → Int} (h : Row w0 wr g n C) (hc : n ≤ cap) (hr : n * 8 ≤ 140737488351232) : IntSl wr wr.heap.size (.slice (some ⟨g, 0, none⟩) n cap) n C := by
  refine ⟨_, _, rfl, ⟨hc, hr⟩, ?_⟩
  by_cases h0 : n = 0
  · exact Or.inl h0
  · exact Or.inr ⟨g, 0, rfl, cell_lt (h.cell 0 (by omega)), fun j hj => by rw [Nat.zero_add]; exact h.cell j hj⟩

theorem Row.congr {w0 wr : World} {g n : Nat} {C D : Nat → Int} (h : Row w0 wr g n C) (e : ∀ j, j < n → C j = D j) : Row w0 wr g n D :=
  ⟨h.below, h.ge, fun j hj => by rw [h.cell j hj, e j hj], h.free⟩

/-- a store into another block leaves a row as it was -/
theorem Row.other {w0 wr : World} {g n : Nat} {C : Nat → Int} (h : Row w0 wr g n C) {a : Addr} (ha : a.block ≠ g) (hb : w0.heap.size ≤ a.block) (u : Value) : Row w0 (wr.setCell a u) g n C := by
  refine ⟨Below.setCell h.below hb _, h.ge, fun j hj => ?_, fun j hj => by rw [World.frozen?_setCell]; exact h.free j hj⟩
  rw [World.cell?_setCell_other _ _ _ _ (by intro e; rw [e] at ha; exact ha rfl)]
  exact h.cell j hj

/-- a world that grew, and is as it was below: rows stay -/
theorem Row.trans {w0 wr w2 : World} {g n : Nat} {C : Nat → Int} (h : Row w0 wr g n C) (hb : Below wr.heap.size wr w2) : Row w0 w2 g n C := by
  refine ⟨h.below.trans (hb.mono h.below.size), h.ge, fun j hj => ?_, fun j hj => ?_⟩
  · have hl := cell_lt (h.cell j hj)
    rw [hb.cell hl]
    exact h.cell j hj
  · have hl := cell_lt (h.cell j hj)
    rw [hb.frozen hl]
    exact h.free j hj

theorem below_of_grown {w w' : World} (h : w.grownBy w' none) : Below w.heap.size w w' :=
  (Below.refl _ _).grown h (Nat.le_refl _) (fun k hk => by cases hk)

/-- what 'make' leaves -/
theorem row_made {w w' : World} {n : Nat} (ho : w'.ownsRow w.heap.size 3 1 (.slice (some ⟨w.heap.size, 0, none⟩) n n) n (madeCells (Value.int .i64 0).cells (n * 1)).toList) (hg : w.grownBy w' none) :
    Row w w' w.heap.size n (fun _ => 0) := by
  by_cases h0 : n = 0
  · subst h0
    exact ⟨below_of_grown hg, Nat.le_refl _, fun j hj => by omega, fun j hj => by omega⟩
  · obtain ⟨g, cap, hv, _, hr⟩ := Row.of_owns (C := fun _ => 0) (by omega) ho (below_of_grown hg) (fun j hj => by
      have e : (Value.int .i64 0).cells = #[Value.int .i64 0] := rfl
      rw [e, toList_madeCells_one]
      simp [hj])
    injection hv with h1 h2 h3
    injection h1 with h4
    injection h4 with h5
    rw [h5]
    exact hr

/-- one curve alone goes through points in order -/
theorem crvF_uniq {n m : Nat} {X Y : Nat → Int} (h : Good n m X Y) (f : F → F) (hf : Deg n f) (hp : ∀ j, j < n → f (toF (X j)) = toF (Y j)) (t : Int) : crvF n X Y t = f (toF t) := by
  unfold crvF
  exact Deg.uniq (newt_deg _ _ n h.injF) hf h.injF (fun i hi => by rw [newt_at _ _ n h.injF i hi]; exact (hp i hi).symm) (toF t)

theorem crv_uniq {n m : Nat} {X Y : Nat → Int} (h : Good n m X Y) (f : F → F) (hf : Deg n f) (hp : ∀ j, j < n → f (toF (X j)) = toF (Y j)) (t v : Int) (hv : 0 ≤ v ∧ v ≤ 30) (e : toF v = f (toF t)) : crv n X Y t = v :=
  (crv_of n X Y t v hv (by rw [crvF_uniq h f hf hp t]; exact e)).symm

theorem below_setCells_own {B b : Nat} {a : World} (hb : B ≤ b) (vs : List Value) : ∀ (o : Nat) (w : World), Below B a w → Below B a (w.setCells b o vs) := by
  induction vs with
  | nil => intro o w h; exact h
  | cons v r ih => intro o w h; exact ih (o + 1) _ (h.setCell (p := ⟨b, o, none⟩) hb v)

theorem Row.setOther {w0 wr : World} {g n : Nat} {C : Nat → Int} (h : Row w0 wr g n C) {b : Nat} (hne : b ≠ g) (hb : w0.heap.size ≤ b) (o : Nat) (vs : List Value) : Row w0 (wr.setCells b o vs) g n C := by
  refine ⟨below_setCells_own hb vs o wr h.below, h.ge, fun j hj => ?_, fun j hj => by rw [World.frozen?_setCells]; exact h.free j hj⟩
  rw [World.cell?_setCells_out b vs o wr _ (fun e _ => absurd e.symm hne)]
  exact h.cell j hj

/-- an own slice, nil or not, that has grown to n ints -/
def OwnI (w0 wr : World) (v : Value) (n : Nat) (C : Nat → Int) : Prop := wr.ownsRow w0.heap.size 3 1 v n ((List.range n).map fun j => Value.int .i64 (C j)) ∧ Below w0.heap.size w0 wr

theorem OwnI.nil (w : World) (C : Nat → Int) : OwnI w w (.slice none 0 0) 0 C := ⟨World.ownsRow_nil _ _ _ _, Below.refl _ _⟩

theorem OwnI.row {w0 wr : World} {v : Value} {n : Nat} {C : Nat → Int} (h : OwnI w0 wr v n C) (hn : 1 ≤ n) : ∃ g cap, v = .slice (some ⟨g, 0, none⟩) n cap ∧ n ≤ cap ∧ Row w0 wr g n C :=
  Row.of_owns hn h.1 h.2 (fun j hj => by simp [hj])

theorem OwnI.push {w0 wr w1 : World} {v v' : Value} {k : Nat} {C : Nat → Int} {x : Int} (h : OwnI w0 wr v k C) (o : Obj) (q : Nat)
    (ho : w1.ownsRow w0.heap.size 3 1 v' (k + 1) (((List.range k).map fun j => Value.int .i64 (C j)) ++ [.int .i64 x])) (hg : ((wr.drewN q).alloc o).grownBy w1 v.ownBlock) (hx : C k = x) : OwnI w0 w1 v' (k + 1) C := by
  refine ⟨?_, ?_⟩
  · rw [List.range_succ, List.map_append]
    simp only [List.map_cons, List.map_nil, hx]
    exact ho
  · have hb : Below w0.heap.size w0 ((wr.drewN q).alloc o) := by
      have h1 : Below w0.heap.size w0 (wr.drewN q) := h.2.trans ⟨rfl, rfl, rfl, Nat.le_refl _, fun _ _ => rfl⟩
      exact h1.alloc h1.size o
    refine hb.grown hg hb.size (fun j hj => ?_)
    obtain ⟨_, h2⟩ := h.1
    rcases h2 with ⟨rfl, _⟩ | ⟨g, cap, cur, rfl, hge, _⟩
    · cases hj
    · simp only [Value.ownBlock, Option.some.injEq] at hj
      omega

theorem OwnI.owns {w0 wr : World} {v : Value} {k : Nat} {C : Nat → Int} (h : OwnI w0 wr v k C) (o : Obj) (q : Nat) : ((wr.drewN q).alloc o).ownsRow w0.heap.size 3 1 v k ((List.range k).map fun j => Value.int .i64 (C j)) :=
  World.ownsRow.alloc (w := wr.drewN q) h.1 o

theorem newCell (w : World) (x : Int) (T : TypeId) : ∀ j u, ([Value.int .i64 x] : List Value)[j]? = some u → (w.alloc (.cells #[.int .i64 x] T)).cell? (Addr.add ⟨w.heap.size, 0, none⟩ j) = some u := by
  intro j u hj
  match j, hj with
  | 0, hj => simp at hj; subst hj; simp [Addr.add]

theorem oneCell (x : Int) : ∀ u ∈ ([Value.int .i64 x] : List Value), u.oneCell' = true := by
  intro u hu
  simp at hu
  subst hu
  rfl

end Go.Proofs.Ytnmionnbndfbkac
