/- Several texts of one proof, in their order. -/
import Derived.Test.YtajmnlhfnhbleaaGreatTSum0
import Derived.Laws.OwnMore
import Derived.OwnWalk
import Derived.Laws.Rows
import Derived.Test.YtajmnlhfnhbleaaGreatRows
import Derived.WalkKit
import Derived.WalkSpells
import Derived.Handy
import Derived.StillTail
import Derived.Deep.Quiet
import Derived.Deep.QuietTactic
import Derived.BigQuiet

namespace Go.Proofs.YtajmnlhfnhbleaaGreat

open Go.RowKit
set_option linter.unusedVariables false

structure Row (w0 wr : World) (g n : Nat) (C : Nat → Int) : Prop where
  below : Below w0.heap.size w0 wr
  ge : w0.heap.size ≤ g
  cell : ∀ j, j < n → wr.cell? ⟨g, j, none⟩ = some (.int .i64 (C j))
  free : ∀ j, j < n → wr.frozen? ⟨g, j, none⟩ = false

theorem Row.of_owns {w0 wr : World} {e : TypeId} {v : Value} {n : Nat} {xs : List Value} {C : Nat → Int} (hn : 1 ≤ n) (h : wr.ownsRow w0.heap.size e 1 v n xs) (hb : Below w0.heap.size w0 wr)
    (hx : ∀ j, j < n → xs[j]? = some (.int .i64 (C j))) : ∃ g cap, v = .slice (some ⟨g, 0, none⟩) n cap ∧ n ≤ cap ∧ Row w0 wr g n C := by
  obtain ⟨hl, h2⟩ := h
  rcases h2 with ⟨_, h0⟩ | ⟨g, cap, cur, hv, hg, hh, hc1, hc2, hsz, hcur⟩
  · omega
  · refine ⟨g, cap, hv, hc1, hb, hg, fun j hj => ?_, fun j hj => ?_⟩
    · have h3 := hx j hj
      rw [← hcur] at h3
      have h4 : cur[j]? = some (.int .i64 (C j)) := by
        rw [List.getElem?_take] at h3
        rw [if_pos (by omega)] at h3
        simpa using h3
      simp [World.cell?, hh, h4]
    · simp [World.frozen?, hh]

theorem SlArg.isl {w : World} {a : Option Addr} {len cap : Nat} {X : Nat → Int} (h : SlArg w a len cap X) : IntSl w w.heap.size (.slice a len cap) len X :=
  ⟨a, cap, rfl, ⟨h.le, by have := h.le; have := h.reach; omega⟩, h.cells⟩

theorem IntSl.up {w w' : World} {v : Value} {n : Nat} {X : Nat → Int} (h : IntSl w w.heap.size v n X) (hb : Below w.heap.size w w') : IntSl w' w'.heap.size v n X :=
  (h.below hb).mono hb.size

theorem heap_two_old (w : World) (o1 o2 : Obj) : ((w.alloc o1).alloc o2).heap[w.heap.size]? = some o1 := by
  rw [Below.heap_alloc _ _ _ (by simp)]
  exact heap_alloc_new _ _

theorem heap_two_new (w : World) (o1 o2 : Obj) : ((w.alloc o1).alloc o2).heap[w.heap.size + 1]? = some o2 := by
  have h := heap_alloc_new (w.alloc o1) o2
  simpa using h

theorem Tryz.infoInt : (Tryz.prog.info? 3).map (fun i => (i.zero, i.size, i.bytes)) = some (some (.int .i64 0), 1, 8) := by kernel_rfl

theorem IntSl.congr {w : World} {B : Nat} {v : Value} {n : Nat} {X Y : Nat → Int} (h : IntSl w B v n X) (e : ∀ j, j < n → X j = Y j) : IntSl w B v n Y := by
  obtain ⟨ad, cap, h1, h0, h2⟩ := h
  refine ⟨ad, cap, h1, h0, ?_⟩
  rcases h2 with h2 | ⟨b, off, h3, h4, h5⟩
  · exact Or.inl h2
  · exact Or.inr ⟨b, off, h3, h4, fun j hj => by rw [h5 j hj, e j hj]⟩

theorem Row.isl {w0 wr : World} {g n cap : Nat} {C : Nat → Int} (h : Row w0 wr g n C) (hc : n ≤ cap) (hr : n * 8 ≤ 140737488351232) : IntSl wr wr.heap.size (.slice (some ⟨g, 0, none⟩) n cap) n C := by
  refine ⟨_, _, rfl, ⟨hc, hr⟩, ?_⟩
  by_cases h0 : n = 0
  · exact Or.inl h0
  · exact Or.inr ⟨g, 0, rfl, cell_lt (h.cell 0 (by omega)), fun j hj => by rw [Nat.zero_add]; exact h.cell j hj⟩

theorem below_of_grown {w w' : World} (h : w.grownBy w' none) : Below w.heap.size w w' :=
  (Below.refl _ _).grown h (Nat.le_refl _) (fun k hk => by cases hk)

theorem row_made {w w' : World} {n : Nat} (ho : w'.ownsRow w.heap.size 3 1 (.slice (some ⟨w.heap.size, 0, none⟩) n n) n (madeCells (Value.int .i64 0).cells (n * 1)).toList) (hg : w.grownBy w' none) :
    Row w w' w.heap.size n (fun _ => 0) := by
  by_cases h0 : n = 0
  · subst h0
    exact ⟨below_of_grown hg, Nat.le_refl _, fun j hj => by omega, fun j hj => by omega⟩
  · obtain ⟨g, cap, hv, _, hr⟩ := Row.of_owns (C := fun _ => 0) (by omega) ho (below_of_grown hg) (fun j hj => by
      have e : (Value.int .i64 0).cells = #[Value.int .i64 0] := rfl
      rw [e, toList_madeCells_one]
      simp [hj])
    injection hv with h1 h2 h3
    injection h1 with h4
    injection h4 with h5
    rw [h5]
    exact hr

def OwnI (w0 wr : World) (v : Value) (n : Nat) (C : Nat → Int) : Prop := wr.ownsRow w0.heap.size 3 1 v n ((List.range n).map fun j => Value.int .i64 (C j)) ∧ Below w0.heap.size w0 wr

theorem OwnI.nil (w : World) (C : Nat → Int) : OwnI w w (.slice none 0 0) 0 C := ⟨World.ownsRow_nil _ _ _ _, Below.refl _ _⟩

theorem OwnI.row {w0 wr : World} {v : Value} {n : Nat} {C : Nat → Int} (h : OwnI w0 wr v n C) (hn : 1 ≤ n) : ∃ g cap, v = .slice (some ⟨g, 0, none⟩) n cap ∧ n ≤ cap ∧ Row w0 wr g n C :=
  Row.of_owns hn h.1 h.2 (fun j hj => by simp [hj])

theorem OwnI.push {w0 wr w1 : World} {v v' : Value} {k : Nat} {C : Nat → Int} {x : Int} (h : OwnI w0 wr v k C) (o : Obj) (q : Nat)
    (ho : w1.ownsRow w0.heap.size 3 1 v' (k + 1) (((List.range k).map fun j => Value.int .i64 (C j)) ++ [.int .i64 x])) (hg : ((wr.drewN q).alloc o).grownBy w1 v.ownBlock) (hx : C k = x) : OwnI w0 w1 v' (k + 1) C := by
  refine ⟨?_, ?_⟩
  · rw [List.range_succ, List.map_append]
    simp only [List.map_cons, List.map_nil, hx]
    exact ho
  · have hb : Below w0.heap.size w0 ((wr.drewN q).alloc o) := by
      have h1 : Below w0.heap.size w0 (wr.drewN q) := h.2.trans ⟨rfl, rfl, rfl, Nat.le_refl _, fun _ _ => rfl⟩
      exact h1.alloc h1.size o
    refine hb.grown hg hb.size (fun j hj => ?_)
    obtain ⟨_, h2⟩ := h.1
    rcases h2 with ⟨rfl, _⟩ | ⟨g, cap, cur, rfl, hge, _⟩
    · cases hj
    · simp only [Value.ownBlock, Option.some.injEq] at hj
      omega

theorem OwnI.owns {w0 wr : World} {v : Value} {k : Nat} {C : Nat → Int} (h : OwnI w0 wr v k C) (o : Obj) (q : Nat) : ((wr.drewN q).alloc o).ownsRow w0.heap.size 3 1 v k ((List.range k).map fun j => Value.int .i64 (C j)) :=
  World.ownsRow.alloc (w := wr.drewN q) h.1 o

theorem newCell (w : World) (x : Int) (T : TypeId) : ∀ j u, ([Value.int .i64 x] : List Value)[j]? = some u → (w.alloc (.cells #[.int .i64 x] T)).cell? (Addr.add ⟨w.heap.size, 0, none⟩ j) = some u := by
  intro j u hj
  match j, hj with
  | 0, hj => simp at hj; subst hj; simp [Addr.add]

theorem oneCell (x : Int) : ∀ u ∈ ([Value.int .i64 x] : List Value), u.oneCell' = true := by
  intro u hu
  simp at hu
  subst hu
  rfl

def planV (nd of sz : Int) : Value := .agg #[.int .i64 nd, .int .i64 of, .int .i64 sz]
def shareV (N : Int) (V : Value) : Value := .agg #[.int .i64 N, V]

def planOk (nd of sz : Int) : Bool := decide ((1 ≤ nd ∧ nd ≤ 4) ∧ (nd ≤ of ∧ of ≤ 8) ∧ (1 ≤ sz ∧ sz ≤ 24))
def chkP (nd of sz : Int) : Int := if planOk nd of sz = true then 0 else 2
def rowsN (nd sz : Int) : Nat := ((sz + nd - 1) / nd).toNat
def longP (nd of sz : Int) : Int := if planOk nd of sz = true then (rowsN nd sz : Int) else 0

def eqB (n m : Nat) (X Y : Nat → Int) : Bool := decide (n = m ∧ ∀ j, j < n → X j = Y j)

def Above (B : Nat) (v : Value) : Prop := ∀ ad n c, v = .slice (some ad) n c → B ≤ ad.block

theorem Above.mono' {B B' : Nat} {v : Value} (h : Above B v) (hb : B' ≤ B) : Above B' v := fun ad n c e => Nat.le_trans hb (h ad n c e)

theorem IntSl.set {w : World} {B bs : Nat} {v : Value} {n : Nat} {X : Nat → Int} (h : IntSl w B v n X) (ha : Above (bs + 1) v) (o : Nat) (u : Value) : IntSl (w.setCell ⟨bs, o, none⟩ u) B v n X := by
  obtain ⟨ad, cap, rfl, h0, h2⟩ := h
  refine ⟨ad, cap, rfl, h0, ?_⟩
  rcases h2 with h2 | ⟨b, off, rfl, h4, h5⟩
  · exact Or.inl h2
  · have hb : bs + 1 ≤ b := ha _ _ _ rfl
    exact Or.inr ⟨b, off, rfl, h4, fun j hj => by rw [World.cell?_setCell_other _ _ _ _ (by intro e; injection e with e1; omega)]; exact h5 j hj⟩

theorem equal_isl {w : World} {v1 v2 : Value} {n m : Nat} {X Y : Nat → Int} {B : Nat} (h1 : IntSl w B v1 n X) (h2 : IntSl w B v2 m Y) :
    Calls Tryz.prog 32 #[v1, v2] w fun e w' => e = .returned (.bool (eqB n m X Y)) ∧ ∃ k, w' = w.drewN k := by
  obtain ⟨a1, c1, rfl, ⟨hc1, hr1⟩, hx⟩ := h1
  obtain ⟨a2, c2, rfl, ⟨hc2, hr2⟩, hy⟩ := h2
  by_cases hnm : n = m
  · subst hnm
    rcases hx with h0 | ⟨b1, o1, rfl, _, hx⟩
    · subst h0
      have e : eqB 0 0 X Y = true := decide_eq_true ⟨rfl, fun j hj => by omega⟩
      rw [e]
      refine (Tryz.slices_Equal_int_empty a1 a2 c1 0 c2 w (by omega)).mono ?_
      rintro e w' ⟨he, hw⟩
      exact ⟨by rw [he]; rfl, 0, by rw [hw]; rfl⟩
    · rcases hy with h0 | ⟨b2, o2, rfl, _, hy⟩
      · subst h0
        have e : eqB 0 0 X Y = true := decide_eq_true ⟨rfl, fun j hj => by omega⟩
        rw [e]
        refine (Tryz.slices_Equal_int_empty (some ⟨b1, o1, none⟩) a2 c1 0 c2 w (by omega)).mono ?_
        rintro e w' ⟨he, hw⟩
        exact ⟨by rw [he]; rfl, 0, by rw [hw]; rfl⟩
      · refine (Tryz.slices_Equal_int b1 o1 n c1 b2 o2 n c2 ((List.range n).map X) ((List.range n).map Y) w (by simp) (by simp) (by omega) (by omega) (fun j hj => ?_) (fun j hj => ?_)).mono ?_
        · have hj' : j < n := by simpa using hj
          rw [hx j hj']
          simp [hj']
        · have hj' : j < n := by simpa using hj
          rw [hy j hj']
          simp [hj']
        · rintro e w' ⟨he, hw⟩
          refine ⟨?_, hw⟩
          rw [he]
          have e2 : (((List.range n).map X).take n == ((List.range n).map Y).take n) = eqB n n X Y := by
            have h1 : ((List.range n).map X).take n = (List.range n).map X := List.take_of_length_le (by simp)
            have h2 : ((List.range n).map Y).take n = (List.range n).map Y := List.take_of_length_le (by simp)
            rw [h1, h2, Bool.eq_iff_iff]
            simp only [beq_iff_eq, eqB, decide_eq_true_eq, true_and]
            constructor
            · intro h j hj
              have h3 := congrArg (fun l => l[j]?) h
              simpa [hj] using h3
            · intro h
              exact List.map_congr_left fun j hj => h j (List.mem_range.1 hj)
          rw [e2]
  · have e : eqB n m X Y = false := decide_eq_false (fun h => hnm h.1)
    rw [e]
    refine (Tryz.slices_Equal_int_lens a1 a2 n c1 m c2 w hnm).mono ?_
    rintro e w' ⟨he, hw⟩
    exact ⟨he, 0, by rw [hw]; rfl⟩

theorem below_alloc (w : World) (o : Obj) : Below w.heap.size w (w.alloc o) := (Below.refl _ _).alloc (Nat.le_refl _) _

theorem cell_at {w : World} {b i : Nat} {cs : Array Value} {T : TypeId} {v : Value} (hh : w.heap[b]? = some (.cells cs T)) (h : cs[i]? = some v) : w.cell? ⟨b, i, none⟩ = some v := by
  simp [World.cell?, hh, h]

theorem planOk_spec {nd of sz : Int} (h : planOk nd of sz = true) : (1 ≤ nd ∧ nd ≤ 4) ∧ (nd ≤ of ∧ of ≤ 8) ∧ (1 ≤ sz ∧ sz ≤ 24) := by
  unfold planOk at h
  exact of_decide_eq_true h

theorem rowsN_bd {nd sz : Int} (h1 : 1 ≤ nd ∧ nd ≤ 4) (h2 : 1 ≤ sz ∧ sz ≤ 24) : sz ≤ rowsN nd sz * nd ∧ ((rowsN nd sz : Int) - 1) * nd < sz ∧ 1 ≤ rowsN nd sz ∧ rowsN nd sz ≤ 24 ∧ rowsN nd sz * nd ≤ 27 := by
  unfold rowsN
  rcases (show nd = 1 ∨ nd = 2 ∨ nd = 3 ∨ nd = 4 by omega) with rfl | rfl | rfl | rfl <;> omega

theorem frozen_at {w : World} {b i : Nat} {cs : Array Value} {T : TypeId} (hh : w.heap[b]? = some (.cells cs T)) : w.frozen? ⟨b, i, none⟩ = false := by
  simp [World.frozen?, hh]

theorem made_block {w' : World} {B g n : Nat} (ho : w'.ownsRow B 3 1 (.slice (some ⟨g, 0, none⟩) n n) n (madeCells (Value.int .i64 0).cells (n * 1)).toList) :
    w'.heap[g]? = some (.cells (List.replicate n (Value.int .i64 0)).toArray 3 (0, 0)) := by
  obtain ⟨hl, h2⟩ := ho
  rcases h2 with ⟨h1, _⟩ | ⟨g', cap, cur, hv, _, hh, hc1, hc2, hsz, hcur⟩
  · cases h1
  · injection hv with e1 _ e3
    injection e1 with e1
    injection e1 with e1
    subst e1 e3
    have e : (Value.int .i64 0).cells = #[Value.int .i64 0] := rfl
    rw [e, toList_madeCells_one, List.take_of_length_le (by simp [hsz])] at hcur
    rw [hh]
    congr 2
    rw [← Array.toArray_toList (xs := cur), hcur]
    simp

theorem Tryz.sizeInt : (Tryz.prog.info? 3).map (·.size) = some 1 := by kernel_rfl

end Go.Proofs.YtajmnlhfnhbleaaGreat

namespace Go.Proofs.YtajmnlhfnhbleaaGreat

open Go.RowKit
set_option linter.unusedVariables false

theorem shCheck (nd of sz : Int) (w : World) : Calls Tryz.prog 110 #[planV nd of sz] w fun e w' => e = .returned (.int .i64 (chkP nd of sz)) ∧ Below w.heap.size w w' := by
  have HB := hid (below_alloc w (.cells #[.int .i64 nd, .int .i64 of, .int .i64 sz] 59))
  obtain ⟨ans, hans⟩ : ∃ a, chkP nd of sz = a := ⟨_, rfl⟩
  rw [hans]
  unfold chkP planOk at hans
  unfold planV
  by_cases h1 : nd < 1
  · rw [if_neg (by rw [decide_eq_true_iff]; omega)] at hans
    subst hans
    go_enter Tryz.func110, Tryz.ntmps110
    go_wp2
    go_ret
    exact ⟨rfl, HB.out⟩
  by_cases h2 : 4 < nd
  · rw [if_neg (by rw [decide_eq_true_iff]; omega)] at hans
    subst hans
    go_enter Tryz.func110, Tryz.ntmps110
    go_wp2
    go_ret
    exact ⟨rfl, HB.out⟩
  by_cases h3 : of < nd
  · rw [if_neg (by rw [decide_eq_true_iff]; omega)] at hans
    subst hans
    go_enter Tryz.func110, Tryz.ntmps110
    go_wp2
    go_ret
    exact ⟨rfl, HB.out⟩
  by_cases h4 : 8 < of
  · rw [if_neg (by rw [decide_eq_true_iff]; omega)] at hans
    subst hans
    go_enter Tryz.func110, Tryz.ntmps110
    go_wp2
    go_ret
    exact ⟨rfl, HB.out⟩
  by_cases h5 : sz < 1
  · rw [if_neg (by rw [decide_eq_true_iff]; omega)] at hans
    subst hans
    go_enter Tryz.func110, Tryz.ntmps110
    go_wp2
    go_ret
    exact ⟨rfl, HB.out⟩
  by_cases h6 : 24 < sz
  · rw [if_neg (by rw [decide_eq_true_iff]; omega)] at hans
    subst hans
    go_enter Tryz.func110, Tryz.ntmps110
    go_wp2
    go_ret
    exact ⟨rfl, HB.out⟩
  rw [if_pos (by rw [decide_eq_true_iff]; omega)] at hans
  subst hans
  go_enter Tryz.func110, Tryz.ntmps110
  go_wp2
  go_ret
  exact ⟨rfl, HB.out⟩

end Go.Proofs.YtajmnlhfnhbleaaGreat

namespace Go.Proofs.YtajmnlhfnhbleaaGreat

open Go.RowKit
set_option linter.unusedVariables false

structure Bk where
  PL : Nat → Nat
  PX : Nat → Nat → Int
  nd : Nat → Int
  of : Nat → Int
  sz : Nat → Int

def VeSl (w : World) (B : Nat) (v : Value) (n : Nat) (PV : Nat → Value) (b : Bk) : Prop :=
  ∃ (ad : Option Addr) (cap : Nat), v = .slice ad n cap ∧ (n ≤ cap ∧ n * 48 ≤ 140737488351232) ∧ (n = 0 ∨ ∃ bl off, ad = some ⟨bl, off, none⟩ ∧ bl < B ∧ ∀ j, j < n →
    w.cell? ⟨bl, off + j * 4, none⟩ = some (PV j) ∧ w.cell? ⟨bl, off + j * 4 + 1, none⟩ = some (.int .i64 (b.nd j)) ∧ w.cell? ⟨bl, off + j * 4 + 2, none⟩ = some (.int .i64 (b.of j)) ∧ w.cell? ⟨bl, off + j * 4 + 3, none⟩ = some (.int .i64 (b.sz j)) ∧ IntSl w B (PV j) (b.PL j) (b.PX j))

theorem VeSl.below {w w' : World} {B : Nat} {v : Value} {n : Nat} {PV : Nat → Value} {b : Bk} (h : VeSl w B v n PV b) (hb : Below B w w') : VeSl w' B v n PV b := by
  obtain ⟨ad, cap, h1, h0, h2⟩ := h
  refine ⟨ad, cap, h1, h0, ?_⟩
  rcases h2 with h2 | ⟨bl, off, h3, h4, h5⟩
  · exact Or.inl h2
  · refine Or.inr ⟨bl, off, h3, h4, fun j hj => ?_⟩
    obtain ⟨g1, g2, g3, g4, g5⟩ := h5 j hj
    exact ⟨by rw [hb.cell h4]; exact g1, by rw [hb.cell h4]; exact g2, by rw [hb.cell h4]; exact g3, by rw [hb.cell h4]; exact g4, g5.below hb⟩

theorem VeSl.mono {w : World} {B B' : Nat} {v : Value} {n : Nat} {PV : Nat → Value} {b : Bk} (h : VeSl w B v n PV b) (hb : B ≤ B') : VeSl w B' v n PV b := by
  obtain ⟨ad, cap, h1, h0, h2⟩ := h
  refine ⟨ad, cap, h1, h0, ?_⟩
  rcases h2 with h2 | ⟨bl, off, h3, h4, h5⟩
  · exact Or.inl h2
  · refine Or.inr ⟨bl, off, h3, by omega, fun j hj => ?_⟩
    obtain ⟨g1, g2, g3, g4, g5⟩ := h5 j hj
    exact ⟨g1, g2, g3, g4, g5.mono hb⟩

theorem VeSl.up {w w' : World} {v : Value} {n : Nat} {PV : Nat → Value} {b : Bk} (h : VeSl w w.heap.size v n PV b) (hb : Below w.heap.size w w') : VeSl w' w'.heap.size v n PV b := (h.below hb).mono hb.size

def verV (pv : Value) (nd of sz : Int) : Value := .agg #[pv, .int .i64 nd, .int .i64 of, .int .i64 sz]
def bookV (v : Value) : Value := .agg #[v]

def parE (k : Int) (X : Nat → Int) : Nat → Nat → Int → Int
  | 0, _, _ => 0
  | f + 1, i, last => if X i < 0 ∨ k ≤ X i then 4 else if X i ≤ last then 5 else parE k X f (i + 1) (X i)

def verE (b : Bk) (k : Nat) : Int := if parE k (b.PX k) (b.PL k) 0 (-1) = 0 then chkP (b.nd k) (b.of k) (b.sz k) else parE k (b.PX k) (b.PL k) 0 (-1)

def scanV (b : Bk) : Nat → Nat → Int
  | 0, _ => 0
  | f + 1, k => if verE b k = 0 then scanV b f (k + 1) else verE b k

def bookE (n : Nat) (b : Bk) : Int := if n ≤ 12 then scanV b n 0 else 1

end Go.Proofs.YtajmnlhfnhbleaaGreat

namespace Go.Proofs.YtajmnlhfnhbleaaGreat

open Go.RowKit
set_option linter.unusedVariables false

theorem check_ok (a : Int) (ha : 0 ≤ a ∧ a ≤ 30) (w : World) :
    Calls Tryz.prog 144 #[.int .i64 a] w fun e w' => e = .returned (.int .i64 0) ∧ w' = w := by
  go_enter Tryz.func144, Tryz.ntmps144
  go_wp2
  go_ret
  exact ⟨rfl, rfl⟩

theorem check_bad (a : Int) (ha : ¬ (0 ≤ a ∧ a ≤ 30)) (w : World) :
    Calls Tryz.prog 144 #[.int .i64 a] w fun e w' => e = .returned (.int .i64 2) ∧ w' = w := by
  by_cases h0 : a < 0
  · go_enter Tryz.func144, Tryz.ntmps144
    go_wp2
    go_ret
    exact ⟨rfl, rfl⟩
  · have h1 : 31 ≤ a := by omega
    clear ha
    go_enter Tryz.func144, Tryz.ntmps144
    go_wp2
    go_ret
    exact ⟨rfl, rfl⟩

def isNum (a : Int) : Bool := decide (0 ≤ a ∧ a ≤ 30)

theorem isNum_iff (a : Int) : isNum a = true ↔ 0 ≤ a ∧ a ≤ 30 := by unfold isNum; simp

end Go.Proofs.YtajmnlhfnhbleaaGreat

namespace Go.Proofs.YtajmnlhfnhbleaaGreat

variable {P : Program} {ops : Array Oper} {md : Region.Mode} {C : World → Prop}

end Go.Proofs.YtajmnlhfnhbleaaGreat

namespace Go.Proofs.YtajmnlhfnhbleaaGreat

set_option linter.unusedVariables false

variable {P : Program} {ops : Array Oper} {md : Region.Mode} {D : World → Prop}

def endN (R : Act → World → Prop) : Exit → Act → World → Prop := fun ex a w => ex = .normal ∧ R a w

theorem letsOut_endN {R : Act → World → Prop} : ¬ LetsOut (endN R) := fun ⟨_, _, h, _⟩ => by cases h

theorem upon_ends {o : Oper} {a a' : Act} {K K' : Act → World → Prop} {R : Act → World → Prop} {Q : Exit → Act → World → Prop} {r : Result Next} (hv : ∀ v w, K (a.put o.dst v) w → K' (a'.put o.dst v) w)
    (hd : ∀ d w, K ({ a with defers := d :: a.defers }.put o.dst undef) w → K' ({ a' with defers := d :: a'.defers }.put o.dst undef) w) (h : o.upon P a K (endN R) r) : o.upon P a' K' Q r := by
  cases r with
  | ok n w' =>
    cases n with
    | value v => exact hv v w' h
    | skip => exact hv undef w' h
    | defer d => exact hd d w' h
    | enter f args =>
      refine Calls.mono (P := P) h ?_
      intro e w'' he
      cases e with
      | returned v => exact hv v w'' he
      | panicked c => exact absurd he.1 (by intro e; cases e)
      | outgrown => exact absurd he letsOut_endN
    | row row args => exact Rows.mono (P := P) h fun v w'' he => hv v w'' he
    | _ => exact h
  | halt x w' =>
    cases x with
    | panic v => exact absurd h.1 (by intro e; cases e)
    | _ => exact h

def StillIn (P : Program) (ops : Array Oper) (D : World → Prop) (o : Oper) (v : Value) (a : Act) : Prop :=
  (Region.wanted o (yielded ops a.tmps) = true ∧ ∀ w, D w → (execOp a.eval o).run P w = .ok (.value v) w ∨ ((execOp a.eval o).run P w = .ok .skip w ∧ v = undef)) ∨
  (Region.wanted o (yielded ops a.tmps) = false ∧ v = undef)

theorem StillIn.of_same {o : Oper} {v : Value} {a a' : Act} (hy : StillIn P ops D o v a) (he : execOp a'.eval o = execOp a.eval o)
    (hw : Region.wanted o (yielded ops a'.tmps) = Region.wanted o (yielded ops a.tmps)) : StillIn P ops D o v a' := by
  unfold StillIn at *
  rw [he, hw]
  exact hy

theorem StillIn.wpOp {i : Nat} {o : Oper} {v : Value} {a : Act} {w : World} {Q : Exit → Act → World → Prop} {K : Act → World → Prop} (hi : ops[i]? = some o) (hD : D w) (hy : StillIn P ops D o v a) (h : K (a.put o.dst v) w) : wpOp P ops Q i K a w := by
  unfold Go.wpOp
  simp only [hi]
  rcases hy with ⟨hw, hv⟩ | ⟨hw, rfl⟩
  · simp only [hw, if_true]
    refine Or.inl ?_
    unfold Oper.wp
    rcases hv w hD with e | ⟨e, rfl⟩
    · rw [e]; exact h
    · rw [e]; exact h
  · simp only [hw, Bool.false_eq_true, if_false]; exact h

def anyM (P : Program) (md : Region.Mode) (ops : Array Oper) (D : World → Prop) (R : Act → World → Prop) : Nat → Array Bool → Act → World → Prop
  | 0, seen, a, w => Region.ready md ops seen = [] ∧ R a w
  | f + 1, seen, a, w => (Region.ready md ops seen = [] → R a w) ∧ ∀ i ∈ Region.ready md ops seen, wpOp P ops (endN R) i (fun a' w' => D w' ∧ anyM P md ops D R f (seen.setIfInBounds i true) a' w') a w

theorem wpOp_ends {i : Nat} {a : Act} {w : World} {K K' : Act → World → Prop} {R : Act → World → Prop} {Q : Exit → Act → World → Prop} (h : ∀ a w, K a w → K' a w) (hh : wpOp P ops (endN R) i K a w) : wpOp P ops Q i K' a w := by
  unfold wpOp at *
  split
  · rename_i ho; simp only [ho] at hh; exact h _ _ hh
  · rename_i o ho
    simp only [ho] at hh
    split
    · rename_i hw
      simp only [hw, if_true] at hh
      rcases hh with hh | hh
      · exact Or.inl (upon_ends (fun v w => h _ w) (fun d w => h _ w) hh)
      · exact absurd hh.2 letsOut_endN
    · rename_i hw; simp only [hw] at hh; exact h _ _ hh

theorem any_of_anyM {R : Act → World → Prop} {Q : Exit → Act → World → Prop} (hR : ∀ a w, R a w → Q .normal a w) (f : Nat) : ∀ (seen : Array Bool) (a : Act) (w : World), anyM P md ops D R f seen a w → wpAny P md ops Q f seen a w := by
  induction f with
  | zero => intro seen a w h; exact ⟨h.1, hR _ _ h.2⟩
  | succ f ih => intro seen a w h; exact ⟨fun h0 => hR _ _ (h.1 h0), fun i hi => wpOp_ends (fun a' w' h' => ih _ a' w' h'.2) (h.2 i hi)⟩

theorem wpOp_put {j : Nat} {oi oj : Oper} {v : Value} {R : Act → World → Prop} (hj : ops[j]? = some oj) (hap : oi.apart ops oj = true)
    (hsi : ∀ cs b, oi.op ≠ .select cs b) (hsj : ∀ cs b, oj.op ≠ .select cs b) {K : Act → World → Prop} {a : Act} {w : World}
    (hy : StillIn P ops D oi v a) (h : wpOp P ops (endN R) j K (a.put oi.dst v) w) :
    wpOp P ops (endN R) j (fun a' w' => StillIn P ops D oi v a' ∧ K (a'.put oi.dst v) w') a w := by
  obtain ⟨h1, h2, h3⟩ := Oper.apart_spec hap
  have keep : ∀ (a : Act), StillIn P ops D oi v a → ∀ u, StillIn P ops D oi v (a.put oj.dst u) := fun a hy u =>
    hy.of_same (execOp_put oi hsi a oj.dst u h3) (wanted_put oi a oj.dst u h3)
  have keepd : ∀ d, StillIn P ops D oi v { a with defers := d :: a.defers } := fun d => hy.of_same rfl rfl
  unfold wpOp at *
  simp only [hj] at *
  rw [wanted_put oj a oi.dst v h1] at h
  split
  · rename_i hw
    simp only [hw, if_true] at h
    rcases h with h | h
    · refine Or.inl ?_
      unfold Oper.wp at *
      rw [execOp_put oj hsj a oi.dst v h1] at h
      refine upon_ends (fun u w' hk => ⟨keep a hy u, ?_⟩) (fun d w' hk => ⟨keep _ (keepd d) _, ?_⟩) h
      · rw [← Act.put_comm a v u h2]; exact hk
      · rw [← Act.put_comm _ v undef h2]
        exact (by
          have e : ({ (a.put oi.dst v) with defers := d :: (a.put oi.dst v).defers } : Act) = ({ a with defers := d :: a.defers } : Act).put oi.dst v := by
            cases oi.dst <;> simp [Act.put]
          rw [e] at hk
          exact hk)
    · exact absurd h.2 letsOut_endN
  · rename_i hw
    simp only [hw] at h
    exact ⟨keep a hy _, by rw [← Act.put_comm a v undef h2]; exact h⟩

theorem anyM_first {R : Act → World → Prop} {i : Nat} {oi : Oper} {v : Value} (hi : ops[i]? = some oi) (hsel : ∀ (j : Nat) (o : Oper) cs b, ops[j]? = some o → o.op ≠ .select cs b) (f : Nat) :
    ∀ (seen : Array Bool) (a : Act) (w : World), D w →
      (∀ j oj, ops[j]? = some oj → j ≠ i → seen.getD j true = false → (∀ e ∈ oj.after, Region.binds md e = true → e.on ≠ i) → oi.apart ops oj = true) →
      i ∈ Region.ready md ops seen → StillIn P ops D oi v a →
      anyM P md ops D R f (seen.setIfInBounds i true) (a.put oi.dst v) w → anyM P md ops D R (f + 1) seen a w := by
  induction f with
  | zero =>
    intro seen a w hD _ hr hy H
    refine ⟨fun h => (by rw [h] at hr; cases hr), fun j hj => ?_⟩
    by_cases hji : j = i
    · subst hji; exact hy.wpOp hi hD ⟨hD, H⟩
    · have := ready_mono hj hji
      rw [H.1] at this
      cases this
  | succ f ih =>
    intro seen a w hD hfree hr hy H
    refine ⟨fun h => (by rw [h] at hr; cases hr), fun j hj => ?_⟩
    by_cases hji : j = i
    · subst hji; exact hy.wpOp hi hD ⟨hD, H⟩
    · have h1 := H.2 j (ready_mono hj hji)
      obtain ⟨hjun, oj, hoj, hall⟩ := mem_ready.1 hj
      have hun := (mem_ready.1 hr).1
      have hnot : ∀ e ∈ oj.after, Region.binds md e = true → e.on ≠ i := by
        intro e he hb heq
        have h2 := hall e he hb
        rw [heq, getD_both hun] at h2
        cases h2
      have h2 := wpOp_put hoj (hfree j oj hoj hji hjun hnot) (fun cs b => hsel i oi cs b hi) (fun cs b => hsel j oj cs b hoj) hy h1
      refine wpOp_mono (fun a' w' h3 => ⟨h3.2.1, ih (seen.setIfInBounds j true) a' w' h3.2.1 ?_ (ready_mono hr (Ne.symm hji)) h3.1 ?_⟩) h2
      · intro k ok hk hki hunk hno
        refine hfree k ok hk hki ?_ hno
        by_cases hjk : j = k
        · subst hjk
          exact hjun
        · rw [getD_set_ne true hjk] at hunk
          exact hunk
      · rw [Array.setIfInBounds_comm _ _ hji]
        exact h3.2.2

def walkF (P : Program) (ops : Array Oper) (D : World → Prop) (R : Act → World → Prop) : List (Nat × Bool) → Act → World → Prop
  | [], a, w => R a w
  | (i, true) :: r, a, w => ∃ o v, ops[i]? = some o ∧ StillIn P ops D o v a ∧ walkF P ops D R r (a.put o.dst v) w
  | (i, false) :: r, a, w => wpOp P ops (endN R) i (fun a' w' => D w' ∧ walkF P ops D R r a' w') a w

def ordB (md : Region.Mode) (ops : Array Oper) : List (Nat × Bool) → Array Bool → Bool
  | [], seen => (Region.ready md ops seen).isEmpty
  | (i, true) :: r, seen => (Region.ready md ops seen).contains i && Region.free md ops seen i && ordB md ops r (seen.setIfInBounds i true)
  | (i, false) :: r, seen => (Region.ready md ops seen == [i]) && ordB md ops r (seen.setIfInBounds i true)

theorem anyM_of_walk {R : Act → World → Prop} (hs : Region.noSelect ops = true) : ∀ (l : List (Nat × Bool)) (seen : Array Bool) (a : Act) (w : World), D w →
    ordB md ops l seen = true → walkF P ops D R l a w → anyM P md ops D R l.length seen a w
  | [], _, _, _, _, hB, h => ⟨by simpa [ordB] using hB, h⟩
  | (i, true) :: r, seen, a, w, hD, hB, h => by
    simp only [ordB, Bool.and_eq_true] at hB
    obtain ⟨⟨hr, hf⟩, hB'⟩ := hB
    obtain ⟨o, v, ho, hy, hK⟩ := h
    exact anyM_first ho (Region.noSelect_spec hs) r.length seen a w hD (Region.free_spec ho hf) (by simpa using hr) hy (anyM_of_walk hs r _ _ w hD hB' hK)
  | (i, false) :: r, seen, a, w, hD, hB, h => by
    simp only [ordB, Bool.and_eq_true, beq_iff_eq] at hB
    obtain ⟨hr, hB'⟩ := hB
    refine ⟨fun h0 => (by rw [h0] at hr; cases hr), fun j hj => ?_⟩
    rw [hr] at hj
    obtain rfl : j = i := by simpa using hj
    exact wpOp_mono (fun a' w' h' => ⟨h'.1, anyM_of_walk hs r _ a' w' h'.1 hB' h'.2⟩) h

def plainB (o : Oper) : Bool :=
  match o.op with
  | .move _ | .assign _ | .pick _ _ _ | .build _ _ | .load _ _ | .binOp _ _ _ _ _ | .unOp _ _ _ | .convert _ _ _ | .slice _ _ _ _ _ | .fieldAddr _ _ _ | .field _ _ _ | .indexAddr _ _ _ | .index _ _ _ | .lookup _ _ _ _ | .extract _ _ => true
  | .call ⟨.builtin .len, _, _⟩ => true
  | _ => false

theorem value_run (s : Sem Value) (w w' : World) (f : FuncId) (args : Array Value) : (do pure (Next.value (← s)) : Sem Next).run P w ≠ .ok (.enter f args) w' := by
  rw [Sem.run_bind]
  cases s.run P w with
  | ok v w1 => simp only [Result.andThen, Sem.run_pure]; intro h; injection h with h1; cases h1
  | halt x w1 => simp only [Result.andThen]; intro h; cases h

theorem plain_run {o : Oper} {ρ : Operand → Value} (h : plainB o = true) (w w' : World) (f : FuncId) (args : Array Value) : (execOp ρ o).run P w ≠ .ok (.enter f args) w' := by
  obtain ⟨dst, op, ty, pos, after, guard⟩ := o
  unfold plainB at h
  split at h
  · rename_i x; simp only at *; subst_vars; simp only [execOp, Sem.run_pure]; intro h; injection h with h1; cases h1
  · rename_i x; simp only at *; subst_vars; simp only [execOp, Sem.run_pure]; intro h; injection h with h1; cases h1
  · rename_i c a b e
    simp only at e
    subst e
    simp only [execOp]
    rw [Sem.run_bind]
    cases (asBool (ρ c)).run P w with
    | ok v w1 => simp only [Result.andThen, Sem.run_pure]; intro h; injection h with h1; cases h1
    | halt x w1 => simp only [Result.andThen]; intro h; cases h
  all_goals first
    | (cases h; done)
    | (rename_i e; simp only at e; subst e; simp only [execOp, resolve, invoke, builtin, pure_bind]; exact value_run _ w w' f args)

structure Of (D : World → Prop) where
  val : World
  is : D val

def inD (D : World → Prop) : World → Prop := fun w => ∃ u : Of D, w = u.val

theorem still_of_yields {o : Oper} {v : Value} {a : Act} (hp : plainB o = true) (h : YieldsIn P ops (inD D) o v a) : StillIn P ops D o v a := by
  rcases h with ⟨hw, h⟩ | h
  · refine Or.inl ⟨hw, fun w hD => ?_⟩
    have h1 := h w ⟨⟨w, hD⟩, rfl⟩
    unfold Oper.quietAt at h1
    have h2 := fun w' f args => plain_run (P := P) (ρ := a.eval) hp w w' f args
    generalize (execOp a.eval o).run P w = r at *
    cases r with
    | ok n w' =>
      cases n with
      | value u => obtain ⟨rfl, rfl⟩ := h1; exact Or.inl rfl
      | skip => obtain ⟨rfl, rfl⟩ := h1; exact Or.inr ⟨rfl, rfl⟩
      | enter f args => exact absurd rfl (h2 w' f args)
      | _ => exact h1.elim
    | halt x w' => exact h1.elim
  · exact Or.inr h

def pickO (l : List Oper) : List Nat → List Oper
  | [] => []
  | i :: r => match l[i]? with
    | some o => o :: pickO l r
    | none => pickO l r

def mixO (P : Program) (l : List Oper) (D : World → Prop) (R : Act → World → Prop) : List (List Nat × Nat) → List Nat → Act → World → Prop
  | [], last, a, w => wpQuiet P l.toArray (fun w' => ∃ u : Of D, w' = u.val) (fun a' => R a' w) (pickO l last) a
  | (q, c) :: r, last, a, w => wpQuiet P l.toArray (fun w' => ∃ u : Of D, w' = u.val) (fun a' => wpList P l.toArray (endN fun a'' w'' => D w'' ∧ mixO P l D R r last a'' w'') (pickO l [c]) a' w) (pickO l q) a

def flatO (s : List (List Nat × Nat)) (last : List Nat) : List (Nat × Bool) :=
  match s with
  | [] => last.map (·, true)
  | (q, c) :: r => q.map (·, true) ++ (c, false) :: flatO r last

def fitB (l : List Oper) (s : List (List Nat × Nat)) (last : List Nat) : Bool :=
  s.all (fun p => p.1.all (fun i => match l[i]? with | some o => plainB o | none => false) && (l[p.2]?).isSome) && last.all (fun i => match l[i]? with | some o => plainB o | none => false)

theorem walk_quiet {l : List Oper} {R G : Act → World → Prop} {rest : List (Nat × Bool)} {w : World} (hG : ∀ a, G a w → walkF P l.toArray D R rest a w) : ∀ (q : List Nat) (a : Act), (q.all (fun i => match l[i]? with | some o => plainB o | none => false)) = true →
    wpQuiet P l.toArray (fun w' => ∃ u : Of D, w' = u.val) (fun a' => G a' w) (pickO l q) a → walkF P l.toArray D R (q.map (·, true) ++ rest) a w
  | [], a, _, h => hG a h
  | i :: q, a, hq, h => by
    simp only [List.all_cons, Bool.and_eq_true] at hq
    obtain ⟨h1, h2⟩ := hq
    cases ho : l[i]? with
    | none => simp [ho] at h1
    | some o =>
      simp only [ho] at h1
      simp only [pickO, ho] at h
      have h0 : l.toArray[i]? = some o := by simpa using ho
      have hst : qOp P l.toArray (fun w' => ∃ u : Of D, w' = u.val) i (wpQuiet P l.toArray (fun w' => ∃ u : Of D, w' = u.val) (fun a' => G a' w) (pickO l q)) a := by unfold qOp; simp only [h0]; exact h
      obtain ⟨v, hy, hK⟩ := yieldsIn_of_qOp h0 hst
      exact ⟨o, v, h0, still_of_yields h1 hy, walk_quiet hG q _ h2 hK⟩

theorem walk_of_mix {l : List Oper} {R : Act → World → Prop} (last : List Nat) : ∀ (s : List (List Nat × Nat)) (a : Act) (w : World), fitB l s last = true → mixO P l D R s last a w → walkF P l.toArray D R (flatO s last) a w
  | [], a, w, hf, h => by
    have h2 : last.all (fun i => match l[i]? with | some o => plainB o | none => false) = true := by simpa [fitB] using hf
    have := walk_quiet (P := P) (D := D) (R := R) (G := R) (rest := []) (fun a h => h) last a h2 h
    simpa [flatO] using this
  | (q, c) :: r, a, w, hf, h => by
    simp only [fitB, List.all_cons, Bool.and_eq_true] at hf
    obtain ⟨⟨⟨h1, h2⟩, h3⟩, h4⟩ := hf
    obtain ⟨o, ho⟩ := Option.isSome_iff_exists.1 h2
    refine walk_quiet (fun a' ha' => ?_) q a h1 h
    have h0 : l.toArray[c]? = some o := by simpa using ho
    simp only [pickO, ho, wpList] at ha'
    show wpOp P l.toArray (endN R) c _ a' w
    unfold wpOp
    simp only [h0]
    have hk : ∀ a'' w'', endN (fun a'' w'' => D w'' ∧ mixO P l D R r last a'' w'') .normal a'' w'' → D w'' ∧ walkF P l.toArray D R (flatO r last) a'' w'' := fun a'' w'' hh => ⟨hh.2.1, walk_of_mix last r a'' w'' (by simp only [fitB, Bool.and_eq_true]; exact ⟨h3, h4⟩) hh.2.2⟩
    split
    · rename_i hw
      simp only [hw, if_true] at ha'
      rcases ha' with ha' | ha'
      · exact Or.inl (upon_ends (fun v w1 hh => hk _ _ hh) (fun d w1 hh => hk _ _ hh) ha')
      · exact absurd ha'.2 letsOut_endN
    · rename_i hw
      simp only [hw] at ha'
      exact hk _ _ ha'

theorem region_mixed {id : Nat} {Q : Exit → Act → World → Prop} {a : Act} {w : World} {l : List Oper} (D : World → Prop) (s : List (List Nat × Nat)) (last : List Nat) (hm : P.follows .mixedOrders = true)
    (hB : (Region.noSelect l.toArray && fitB l s last && decide ((flatO s last).length = l.length) && ordB .any l.toArray (flatO s last) (Array.replicate l.length false)) = true) (hD : D w.drew)
    (h : mixO P l D (fun a' w' => Q .normal a' w') s last a w.drew) : (Code.region id l.toArray true).wp P Q a w := by
  simp only [Bool.and_eq_true, decide_eq_true_eq] at hB
  obtain ⟨⟨⟨hsel, hf⟩, hlen⟩, hord⟩ := hB
  refine wp_region_any hm ?_
  have h1 := anyM_of_walk (md := .any) hsel (flatO s last) _ a w.drew hD hord (walk_of_mix last s a w.drew hf h)
  rw [hlen] at h1
  have h2 := any_of_anyM (Q := Q) (fun _ _ h => h) _ _ _ _ h1
  simpa using h2

theorem mixO_cons {l lq lc : List Oper} {R : Act → World → Prop} {q : List Nat} {c : Nat} {r : List (List Nat × Nat)} {last : List Nat} {a : Act} {w : World} (hq : pickO l q = lq) (hc : pickO l [c] = lc)
    (h : wpQuiet P l.toArray (fun w' => ∃ u : Of D, w' = u.val) (fun a' => ∀ K : Act → World → Prop, (∀ a'' w'', D w'' → mixO P l D R r last a'' w'' → K a'' w'') → wpList P l.toArray (endN K) lc a' w) lq a) : mixO P l D R ((q, c) :: r) last a w := by
  subst hq hc
  have key : ∀ (q : List Oper) (a : Act) (G G' : Act → Prop), (∀ a, G a → G' a) → wpQuiet P l.toArray (fun w' => ∃ u : Of D, w' = u.val) G q a → wpQuiet P l.toArray (fun w' => ∃ u : Of D, w' = u.val) G' q a := by
    intro q
    induction q with
    | nil => intro a G G' hG h; exact hG a h
    | cons o q ih =>
      intro a G G' hG h
      simp only [wpQuiet] at *
      split
      · rename_i hw
        simp only [hw, if_true] at h
        exact Oper.quiet_mono (fun a' h' => ih a' G G' hG h') h
      · rename_i hw
        simp only [hw] at h
        exact ih _ G G' hG h
  exact key _ _ _ _ (fun a' h' => h' _ (fun a'' w'' h1 h2 => ⟨h1, h2⟩)) h

theorem mixO_nil {l lq : List Oper} {R : Act → World → Prop} {last : List Nat} {a : Act} {w : World} (hq : pickO l last = lq)
    (h : wpQuiet P l.toArray (fun w' => ∃ u : Of D, w' = u.val) (fun a' => R a' w) lq a) : mixO P l D R [] last a w := by
  subst hq
  exact h

end Go.Proofs.YtajmnlhfnhbleaaGreat
