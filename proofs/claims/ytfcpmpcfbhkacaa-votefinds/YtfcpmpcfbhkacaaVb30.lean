/- Several texts of one proof, in their order. -/
import Derived.Test.YtfcpmpcfbhkacaaVb25
import Derived.Test.YtfcpmpcfbhkacaaVb29
import Derived.Test.YtfcpmpcfbhkacaaVb20
import Derived.Test.YtfcpmpcfbhkacaaVb21

/- What package share owes, it pays. -/
namespace Go.Proofs.Ytfcpmpcfbhkacaa

open Go.RowKit CurveMath
set_option linter.unusedVariables false

theorem owes : Owes where
  check := shCheck
  long := shLong
  one := shOne
  same := shSame
  split := shSplit
  join := shJoin

end Go.Proofs.Ytfcpmpcfbhkacaa

/- What package vote's Most keeps in memory while it asks for each choice. Plain: it speaks of no walk. -/
namespace Go.Proofs.Ytfcpmpcfbhkacaa

open Go.RowKit CurveMath
set_option linter.unusedVariables false

/-- all is as it was, but for two blocks -/
structure Kp (b1 b2 : Nat) (w w' : World) : Prop where
  size : w.heap.size ≤ w'.heap.size
  block : ∀ k, k < w.heap.size → k ≠ b1 → k ≠ b2 → w'.heap[k]? = w.heap[k]?

theorem Kp.of_below {b1 b2 : Nat} {w w' : World} (h : Below w.heap.size w w') : Kp b1 b2 w w' := ⟨h.size, fun k hk _ _ => h.block k hk⟩
theorem Kp.trans {b1 b2 : Nat} {a b c : World} (h : Kp b1 b2 a b) (k : Kp b1 b2 b c) : Kp b1 b2 a c :=
  ⟨Nat.le_trans h.size k.size, fun i hi h1 h2 => (k.block i (Nat.lt_of_lt_of_le hi h.size) h1 h2).trans (h.block i hi h1 h2)⟩
theorem Kp.cell {b1 b2 : Nat} {w w' : World} (h : Kp b1 b2 w w') {p : Addr} (hp : p.block < w.heap.size) (h1 : p.block ≠ b1) (h2 : p.block ≠ b2) : w'.cell? p = w.cell? p := World.cell?_of_block (w := w) (h.block p.block hp h1 h2)
theorem Kp.set {b1 b2 : Nat} {a w : World} (h : Kp b1 b2 a w) {p : Addr} (hp : p.block = b1 ∨ p.block = b2) (u : Value) : Kp b1 b2 a (w.setCell p u) :=
  ⟨by rw [size_set]; exact h.size, fun k hk h1 h2 => by rw [Below.heap_setCell _ _ _ _ (by rcases hp with e | e <;> omega)]; exact h.block k hk h1 h2⟩

/-- a block of one cell that holds a list -/
def Box (w : World) (b : Nat) (v : Value) : Prop := w.heap[b]? = some (.cells #[v] 24 (0, 0)) ∧ ∃ a n c, v = .slice a n c

theorem Box.lt {w : World} {b : Nat} {v : Value} (h : Box w b v) : b < w.heap.size := (Array.getElem?_eq_some_iff.1 h.1).1
theorem Box.cell {w : World} {b : Nat} {v : Value} (h : Box w b v) : w.cell? ⟨b, 0, none⟩ = some v := cell_at h.1 rfl
theorem Box.free {w : World} {b : Nat} {v : Value} (h : Box w b v) : w.frozen? ⟨b, 0, none⟩ = false := by simp [World.frozen?, h.1]
theorem Box.up {w w' : World} {b : Nat} {v : Value} (h : Box w b v) (hb : Below w.heap.size w w') : Box w' b v := ⟨by rw [hb.block b h.lt]; exact h.1, h.2⟩
theorem Box.set {w : World} {b : Nat} {v : Value} (h : Box w b v) (a : Option Addr) (n c : Nat) : Box (w.setCell ⟨b, 0, none⟩ (.slice a n c)) b (.slice a n c) :=
  ⟨by simp [World.setCell, Array.getElem?_modify, h.1], _, _, _, rfl⟩
theorem Box.other {w : World} {b b' : Nat} {v : Value} (h : Box w b v) (hb : b ≠ b') (u : Value) : Box (w.setCell ⟨b', 0, none⟩ u) b v := ⟨by rw [Below.heap_setCell _ _ _ _ hb]; exact h.1, h.2⟩

/-- a list of ints lies in no such block -/
theorem IntSl.box {w : World} {B b : Nat} {v u : Value} {n : Nat} {X : Nat → Int} (h : IntSl w B v n X) (hB : Box w b u) (t : Value) : IntSl (w.setCell ⟨b, 0, none⟩ t) B v n X := by
  obtain ⟨ad, cap, rfl, h0, h2⟩ := h
  refine ⟨ad, cap, rfl, h0, ?_⟩
  rcases h2 with h2 | ⟨g, off, rfl, h4, h5⟩
  · exact Or.inl h2
  · by_cases hn : n = 0
    · exact Or.inl hn
    have hb : g ≠ b := fun e => by
      subst e
      have h6 := h5 0 (by omega)
      obtain ⟨h7, a, nn, c, rfl⟩ := hB
      by_cases ho : off = 0
      · subst ho
        rw [cell_at h7 rfl] at h6
        cases h6
      · simp [World.cell?, h7, ho] at h6
    exact Or.inr ⟨g, off, rfl, h4, fun j hj => by rw [World.cell?_setCell_other _ _ _ _ (by intro e; injection e with e1; omega)]; exact h5 j hj⟩

/-- what is held of the best choice -/
def Held (wr : World) (d s R n : Nat) (N : Nat → Int) (X : Nat → Nat → Int) (st : Option (List Nat)) (vb vo : Value) : Prop :=
  (st = none ∧ vb = .slice none 0 0 ∧ vo = .slice none 0 0) ∨
  ∃ c, st = some c ∧ IntSl wr wr.heap.size vb s (conD d N X c) ∧ IntSl wr wr.heap.size vo (badL d s R n N X (conD d N X c)).length (fun j => (srt (badL d s R n N X (conD d N X c))).getD j 0)

theorem Held.up {wr w' : World} {d s R n : Nat} {N : Nat → Int} {X : Nat → Nat → Int} {st : Option (List Nat)} {vb vo : Value} (h : Held wr d s R n N X st vb vo) (hb : Below wr.heap.size wr w') : Held w' d s R n N X st vb vo := by
  rcases h with h | ⟨c, h1, h2, h3⟩
  · exact Or.inl h
  · exact Or.inr ⟨c, h1, h2.up hb, h3.up hb⟩

/-- Most's own memory: the plan, the shares, the best choice's content and the others -/
structure VInv (w wr : World) (d m s R n : Nat) (N : Nat → Int) (X : Nat → Nat → Int) (lv : Value) (bb : Nat) (st : Option (List Nat)) : Prop where
  below : Below w.heap.size w wr
  p0 : wr.cell? ⟨w.heap.size, 0, none⟩ = some (.int .i64 (d : Int))
  p1 : wr.cell? ⟨w.heap.size, 1, none⟩ = some (.int .i64 (m : Int))
  p2 : wr.cell? ⟨w.heap.size, 2, none⟩ = some (.int .i64 (s : Int))
  l : wr.cell? ⟨w.heap.size + 1, 0, none⟩ = some lv
  lo : w.heap.size + 1 < bb
  held : ∃ vb vo, Box wr bb vb ∧ Box wr (bb + 1) vo ∧ Held wr d s R n N X st vb vo

section

variable {w wr w' : World} {d m s R n : Nat} {N : Nat → Int} {X : Nat → Nat → Int} {lv : Value} {bb : Nat} {st : Option (List Nat)}

theorem VInv.up (h : VInv w wr d m s R n N X lv bb st) (hb : Below wr.heap.size wr w') : VInv w w' d m s R n N X lv bb st := by
  obtain ⟨vb, vo, h1, h2, h3⟩ := h.held
  exact ⟨h.below.trans (hb.mono h.below.size), by rw [hb.cell (cell_lt h.p0)]; exact h.p0, by rw [hb.cell (cell_lt h.p1)]; exact h.p1, by rw [hb.cell (cell_lt h.p2)]; exact h.p2, by rw [hb.cell (cell_lt h.l)]; exact h.l, h.lo, vb, vo, h1.up hb, h2.up hb, h3.up hb⟩

/-- another choice is the best one now -/
theorem VInv.put (h : VInv w wr d m s R n N X lv bb st) {c : List Nat} {a1 a2 : Option Addr} {n1 n2 c1 c2 : Nat} (g1 : IntSl wr wr.heap.size (.slice a1 n1 c1) s (conD d N X c))
    (g2 : IntSl wr wr.heap.size (.slice a2 n2 c2) (badL d s R n N X (conD d N X c)).length (fun j => (srt (badL d s R n N X (conD d N X c))).getD j 0)) :
    VInv w ((wr.setCell ⟨bb, 0, none⟩ (.slice a1 n1 c1)).setCell ⟨bb + 1, 0, none⟩ (.slice a2 n2 c2)) d m s R n N X lv bb (some c) ∧ Kp bb (bb + 1) wr ((wr.setCell ⟨bb, 0, none⟩ (.slice a1 n1 c1)).setCell ⟨bb + 1, 0, none⟩ (.slice a2 n2 c2)) := by
  obtain ⟨vb, vo, h1, h2, -⟩ := h.held
  have hlo := h.lo
  have hk : Kp bb (bb + 1) wr ((wr.setCell ⟨bb, 0, none⟩ (.slice a1 n1 c1)).setCell ⟨bb + 1, 0, none⟩ (.slice a2 n2 c2)) :=
    Kp.set (p := ⟨bb + 1, 0, none⟩) (Kp.set (p := ⟨bb, 0, none⟩) (Kp.of_below (Below.refl _ _)) (Or.inl rfl) _) (Or.inr rfl) _
  have e1 : Box (wr.setCell ⟨bb, 0, none⟩ (.slice a1 n1 c1)) bb (.slice a1 n1 c1) := h1.set a1 n1 c1
  have e2 : Box (wr.setCell ⟨bb, 0, none⟩ (.slice a1 n1 c1)) (bb + 1) vo := h2.other (by omega) _
  have sz : ((wr.setCell ⟨bb, 0, none⟩ (.slice a1 n1 c1)).setCell ⟨bb + 1, 0, none⟩ (.slice a2 n2 c2)).heap.size = wr.heap.size := by rw [size_set, size_set]
  refine ⟨⟨(h.below.setCell (p := ⟨bb, 0, none⟩) (by show w.heap.size ≤ bb; omega) _).setCell (p := ⟨bb + 1, 0, none⟩) (by show w.heap.size ≤ bb + 1; omega) _, ?_, ?_, ?_, ?_, hlo, _, _, e1.other (by omega) _, e2.set a2 n2 c2, Or.inr ⟨c, rfl, ?_, ?_⟩⟩, hk⟩
  · rw [hk.cell (cell_lt h.p0) (by show w.heap.size ≠ bb; omega) (by show w.heap.size ≠ bb + 1; omega)]; exact h.p0
  · rw [hk.cell (cell_lt h.p1) (by show w.heap.size ≠ bb; omega) (by show w.heap.size ≠ bb + 1; omega)]; exact h.p1
  · rw [hk.cell (cell_lt h.p2) (by show w.heap.size ≠ bb; omega) (by show w.heap.size ≠ bb + 1; omega)]; exact h.p2
  · rw [hk.cell (cell_lt h.l) (by show w.heap.size + 1 ≠ bb; omega) (by show w.heap.size + 1 ≠ bb + 1; omega)]; exact h.l
  · rw [sz]; exact (g1.box h1 _).box e2 _
  · rw [sz]; exact (g2.box h1 _).box e2 _

end

/-- what asks for each choice, as a value -/
def askF (bp bb : Nat) : Value := .func (.func 50) #[] #[.pointer (some ⟨bp, 0, none⟩), .pointer (some ⟨bp + 1, 0, none⟩), .pointer (some ⟨bb, 0, none⟩), .pointer (some ⟨bb + 1, 0, none⟩)]
/-- what tries, as a value -/
def tryF (em : Nat) : Value := .func (.func 62) #[] #[.pointer (some ⟨em, 0, none⟩), .pointer (some ⟨em + 1, 0, none⟩), .pointer (some ⟨em + 2, 0, none⟩)]

/-- each's own memory -/
structure EInv (wr : World) (d em bp bb : Nat) : Prop where
  m : wr.cell? ⟨em, 0, none⟩ = some (.int .i64 (d : Int))
  a : wr.cell? ⟨em + 1, 0, none⟩ = some (askF bp bb)
  t : wr.cell? ⟨em + 2, 0, none⟩ = some (tryF em)
  hi : bb + 1 < em

theorem EInv.keep {wr w' : World} {d em bp bb : Nat} (h : EInv wr d em bp bb) (hk : Kp bb (bb + 1) wr w') : EInv w' d em bp bb := by
  have hi := h.hi
  exact ⟨by rw [hk.cell (cell_lt h.m) (by show em ≠ bb; omega) (by show em ≠ bb + 1; omega)]; exact h.m, by rw [hk.cell (cell_lt h.a) (by show em + 1 ≠ bb; omega) (by show em + 1 ≠ bb + 1; omega)]; exact h.a,
    by rw [hk.cell (cell_lt h.t) (by show em + 2 ≠ bb; omega) (by show em + 2 ≠ bb + 1; omega)]; exact h.t, hi⟩

/-- the shares that were chosen so far -/
def Cho (wr : World) (lo : Nat) (vc : Value) (c : List Nat) (N : Nat → Int) (V : Nat → Value) : Prop :=
  (c = [] ∧ vc = .slice none 0 0) ∨ ∃ g cap, vc = .slice (some ⟨g, 0, none⟩) c.length cap ∧ lo ≤ g ∧ g < wr.heap.size ∧ (1 ≤ c.length ∧ c.length ≤ cap) ∧
    ∀ j, j < c.length → wr.cell? ⟨g, j * 2, none⟩ = some (.int .i64 (tak N c j)) ∧ wr.cell? ⟨g, j * 2 + 1, none⟩ = some (tak V c j)

theorem Cho.shape {wr : World} {lo : Nat} {vc : Value} {c : List Nat} {N : Nat → Int} {V : Nat → Value} (h : Cho wr lo vc c N V) : ∃ a cap, vc = .slice a c.length cap := by
  rcases h with ⟨rfl, rfl⟩ | ⟨g, cap, rfl, _⟩
  · exact ⟨_, _, rfl⟩
  · exact ⟨_, _, rfl⟩

theorem Cho.keep {wr w' : World} {b1 b2 lo : Nat} {vc : Value} {c : List Nat} {N : Nat → Int} {V : Nat → Value} (h : Cho wr lo vc c N V) (hk : Kp b1 b2 wr w') (h1 : b1 < lo) (h2 : b2 < lo) : Cho w' lo vc c N V := by
  rcases h with h | ⟨g, cap, e, h3, h4, h5, h6⟩
  · exact Or.inl h
  · refine Or.inr ⟨g, cap, e, h3, Nat.lt_of_lt_of_le h4 hk.size, h5, fun j hj => ?_⟩
    obtain ⟨g1, g2⟩ := h6 j hj
    exact ⟨by rw [hk.cell h4 (by show g ≠ b1; omega) (by show g ≠ b2; omega)]; exact g1, by rw [hk.cell h4 (by show g ≠ b1; omega) (by show g ≠ b2; omega)]; exact g2⟩

theorem Cho.shl {wr : World} {lo n : Nat} {vc : Value} {c : List Nat} {N : Nat → Int} {V : Nat → Value} {L : Nat → Nat} {X : Nat → Nat → Int} (h : Cho wr lo vc c N V) (hc : Rise n c) (hl : c.length ≤ 8) (hV : ∀ j, j < n → IntSl wr wr.heap.size (V j) (L j) (X j)) :
    ShSl wr wr.heap.size vc c.length (tak N c) (tak V c) (tak L c) (tak X c) := by
  rcases h with ⟨rfl, rfl⟩ | ⟨g, cap, rfl, h3, h4, h5, h6⟩
  · exact ⟨none, 0, rfl, ⟨Nat.le_refl _, by decide⟩, Or.inl rfl⟩
  · refine ⟨_, cap, rfl, ⟨h5.2, by omega⟩, Or.inr ⟨g, 0, rfl, h4, fun j hj => ?_⟩⟩
    rw [Nat.zero_add]
    exact ⟨(h6 j hj).1, (h6 j hj).2, hV _ (hc.lt hj)⟩

theorem tak_old {α : Type} (f : Nat → α) (c : List Nat) (i j : Nat) (hj : j < c.length) : tak f (c ++ [i]) j = tak f c j := by
  unfold tak
  rw [List.getD_eq_getElem?_getD, List.getD_eq_getElem?_getD, List.getElem?_append_left hj]

theorem tak_new {α : Type} (f : Nat → α) (c : List Nat) (i : Nat) : tak f (c ++ [i]) c.length = f i := by
  unfold tak
  simp

theorem Cho.of_own {w0 wr : World} {lo i : Nat} {v : Value} {c : List Nat} {N : Nat → Int} {V : Nat → Value} (h : OwnS w0 wr v (c.length + 1) (tak N (c ++ [i])) (tak V (c ++ [i]))) (hlo : lo ≤ w0.heap.size) : Cho wr lo v (c ++ [i]) N V := by
  obtain ⟨g, cap, cur, rfl, h1, h2, h3, h4, h5, h6⟩ := h.at (by omega)
  have e : (c ++ [i]).length = c.length + 1 := by simp
  refine Or.inr ⟨g, cap, by rw [e], Nat.le_trans hlo h1, cell_lt (h6 0 (by omega)).1, ⟨by omega, by omega⟩, fun j hj => h6 j (by omega)⟩

/-- an own list of shares, one longer -/
theorem OwnS.pushG {w0 wr w1 : World} {v v' : Value} {k : Nat} {N N' : Nat → Int} {V V' : Nat → Value} {x : Int} {u : Value} (h : OwnS w0 wr v k N V)
    (ho : w1.ownsRow w0.heap.size 27 2 v' (k + 1) (flatS k N V ++ [.int .i64 x, u])) (hg : wr.grownBy w1 v.ownBlock) (hN : ∀ j, j < k → N' j = N j ∧ V' j = V j) (hx : N' k = x) (hu : V' k = u) : OwnS w0 w1 v' (k + 1) N' V' := by
  refine ⟨?_, ?_⟩
  · rw [flatS_succ, hx, hu, flatS_congr (N' := N) (V' := V) hN]
    exact ho
  · exact h.2.grown hg h.2.size (fun g hgg => (h.1.lt g hgg).1)

theorem Rise.push {i : Nat} {c : List Nat} (h : Rise i c) {j : Nat} (hj : i ≤ j) : Rise (j + 1) (c ++ [j]) := by
  refine ⟨List.pairwise_append.2 ⟨h.1, List.pairwise_singleton _ _, fun a ha b hb => ?_⟩, fun x hx => ?_⟩
  · have := h.2 a ha
    simp at hb
    omega
  · rcases List.mem_append.1 hx with hx | hx
    · have := h.2 x hx; omega
    · simp at hx; omega

theorem Rise.wide {i j : Nat} {c : List Nat} (h : Rise i c) (hij : i ≤ j) : Rise j c := ⟨h.1, fun x hx => Nat.lt_of_lt_of_le (h.2 x hx) hij⟩

/-- the choices behind one, by their next place -/
theorem fold_next {σ : Type} (f : σ → List Nat → σ) (st : σ) (r i k : Nat) (c : List Nat) :
    ((comb (r + 1) (List.range' i (k + 1))).map (c ++ ·)).foldl f st = ((comb (r + 1) (List.range' (i + 1) k)).map (c ++ ·)).foldl f (((comb r (List.range' (i + 1) k)).map ((c ++ [i]) ++ ·)).foldl f st) := by
  rw [List.range'_succ, comb, List.map_append, List.foldl_append, List.map_map]
  have e : (fun x => c ++ x) ∘ (fun x => i :: x) = fun x => (c ++ [i]) ++ x := by funext x; simp
  rw [e]

theorem fold_none {σ : Type} (f : σ → List Nat → σ) (st : σ) (r i : Nat) (c : List Nat) : ((comb (r + 1) (List.range' i 0)).map (c ++ ·)).foldl f st = st := rfl

theorem fold_all {σ : Type} (f : σ → List Nat → σ) (st : σ) (i k : Nat) (c : List Nat) : ((comb 0 (List.range' i k)).map (c ++ ·)).foldl f st = f st c := by
  simp [comb]

end Go.Proofs.Ytfcpmpcfbhkacaa
