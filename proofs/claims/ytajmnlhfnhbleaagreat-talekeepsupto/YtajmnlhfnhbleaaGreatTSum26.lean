/- Several texts of one proof, in their order. -/
import Derived.Test.YtajmnlhfnhbleaaGreatTSum7
import Derived.Test.YtajmnlhfnhbleaaGreatTSum2
import Derived.Test.YtajmnlhfnhbleaaGreatTSum24

namespace Go.Proofs.YtajmnlhfnhbleaaGreat

open Go.RowKit CurveMath
set_option linter.unusedVariables false

structure Kp (b1 b2 : Nat) (w w' : World) : Prop where
  size : w.heap.size ≤ w'.heap.size
  block : ∀ k, k < w.heap.size → k ≠ b1 → k ≠ b2 → w'.heap[k]? = w.heap[k]?

theorem Kp.of_below {b1 b2 : Nat} {w w' : World} (h : Below w.heap.size w w') : Kp b1 b2 w w' := ⟨h.size, fun k hk _ _ => h.block k hk⟩
theorem Kp.trans {b1 b2 : Nat} {a b c : World} (h : Kp b1 b2 a b) (k : Kp b1 b2 b c) : Kp b1 b2 a c :=
  ⟨Nat.le_trans h.size k.size, fun i hi h1 h2 => (k.block i (Nat.lt_of_lt_of_le hi h.size) h1 h2).trans (h.block i hi h1 h2)⟩
theorem Kp.cell {b1 b2 : Nat} {w w' : World} (h : Kp b1 b2 w w') {p : Addr} (hp : p.block < w.heap.size) (h1 : p.block ≠ b1) (h2 : p.block ≠ b2) : w'.cell? p = w.cell? p := World.cell?_of_block (w := w) (h.block p.block hp h1 h2)
theorem Kp.set {b1 b2 : Nat} {a w : World} (h : Kp b1 b2 a w) {p : Addr} (hp : p.block = b1 ∨ p.block = b2) (u : Value) : Kp b1 b2 a (w.setCell p u) :=
  ⟨by rw [size_set]; exact h.size, fun k hk h1 h2 => by rw [Below.heap_setCell _ _ _ _ (by rcases hp with e | e <;> omega)]; exact h.block k hk h1 h2⟩

def Box (w : World) (b : Nat) (v : Value) : Prop := w.heap[b]? = some (.cells #[v] 28 (0, 0)) ∧ ∃ a n c, v = .slice a n c

theorem Box.lt {w : World} {b : Nat} {v : Value} (h : Box w b v) : b < w.heap.size := (Array.getElem?_eq_some_iff.1 h.1).1
theorem Box.cell {w : World} {b : Nat} {v : Value} (h : Box w b v) : w.cell? ⟨b, 0, none⟩ = some v := cell_at h.1 rfl
theorem Box.free {w : World} {b : Nat} {v : Value} (h : Box w b v) : w.frozen? ⟨b, 0, none⟩ = false := by simp [World.frozen?, h.1]
theorem Box.up {w w' : World} {b : Nat} {v : Value} (h : Box w b v) (hb : Below w.heap.size w w') : Box w' b v := ⟨by rw [hb.block b h.lt]; exact h.1, h.2⟩
theorem Box.set {w : World} {b : Nat} {v : Value} (h : Box w b v) (a : Option Addr) (n c : Nat) : Box (w.setCell ⟨b, 0, none⟩ (.slice a n c)) b (.slice a n c) :=
  ⟨by simp [World.setCell, Array.getElem?_modify, h.1], _, _, _, rfl⟩
theorem Box.other {w : World} {b b' : Nat} {v : Value} (h : Box w b v) (hb : b ≠ b') (u : Value) : Box (w.setCell ⟨b', 0, none⟩ u) b v := ⟨by rw [Below.heap_setCell _ _ _ _ hb]; exact h.1, h.2⟩

theorem IntSl.box {w : World} {B b : Nat} {v u : Value} {n : Nat} {X : Nat → Int} (h : IntSl w B v n X) (hB : Box w b u) (t : Value) : IntSl (w.setCell ⟨b, 0, none⟩ t) B v n X := by
  obtain ⟨ad, cap, rfl, h0, h2⟩ := h
  refine ⟨ad, cap, rfl, h0, ?_⟩
  rcases h2 with h2 | ⟨g, off, rfl, h4, h5⟩
  · exact Or.inl h2
  · by_cases hn : n = 0
    · exact Or.inl hn
    have hb : g ≠ b := fun e => by
      subst e
      have h6 := h5 0 (by omega)
      obtain ⟨h7, a, nn, c, rfl⟩ := hB
      by_cases ho : off = 0
      · subst ho
        rw [cell_at h7 rfl] at h6
        cases h6
      · simp [World.cell?, h7, ho] at h6
    exact Or.inr ⟨g, off, rfl, h4, fun j hj => by rw [World.cell?_setCell_other _ _ _ _ (by intro e; injection e with e1; omega)]; exact h5 j hj⟩

def Held (wr : World) (d s R n : Nat) (N : Nat → Int) (X : Nat → Nat → Int) (st : Option (List Nat)) (vb vo : Value) : Prop :=
  (st = none ∧ vb = .slice none 0 0 ∧ vo = .slice none 0 0) ∨
  ∃ c, st = some c ∧ IntSl wr wr.heap.size vb s (conD d N X c) ∧ IntSl wr wr.heap.size vo (badL d s R n N X (conD d N X c)).length (fun j => (srt (badL d s R n N X (conD d N X c))).getD j 0)

theorem Held.up {wr w' : World} {d s R n : Nat} {N : Nat → Int} {X : Nat → Nat → Int} {st : Option (List Nat)} {vb vo : Value} (h : Held wr d s R n N X st vb vo) (hb : Below wr.heap.size wr w') : Held w' d s R n N X st vb vo := by
  rcases h with h | ⟨c, h1, h2, h3⟩
  · exact Or.inl h
  · exact Or.inr ⟨c, h1, h2.up hb, h3.up hb⟩

structure VInv (w wr : World) (d m s R n : Nat) (N : Nat → Int) (X : Nat → Nat → Int) (lv : Value) (bb : Nat) (st : Option (List Nat)) : Prop where
  below : Below w.heap.size w wr
  p0 : wr.cell? ⟨w.heap.size, 0, none⟩ = some (.int .i64 (d : Int))
  p1 : wr.cell? ⟨w.heap.size, 1, none⟩ = some (.int .i64 (m : Int))
  p2 : wr.cell? ⟨w.heap.size, 2, none⟩ = some (.int .i64 (s : Int))
  l : wr.cell? ⟨w.heap.size + 1, 0, none⟩ = some lv
  lo : w.heap.size + 1 < bb
  held : ∃ vb vo, Box wr bb vb ∧ Box wr (bb + 1) vo ∧ Held wr d s R n N X st vb vo

section

variable {w wr w' : World} {d m s R n : Nat} {N : Nat → Int} {X : Nat → Nat → Int} {lv : Value} {bb : Nat} {st : Option (List Nat)}

theorem VInv.up (h : VInv w wr d m s R n N X lv bb st) (hb : Below wr.heap.size wr w') : VInv w w' d m s R n N X lv bb st := by
  obtain ⟨vb, vo, h1, h2, h3⟩ := h.held
  exact ⟨h.below.trans (hb.mono h.below.size), by rw [hb.cell (cell_lt h.p0)]; exact h.p0, by rw [hb.cell (cell_lt h.p1)]; exact h.p1, by rw [hb.cell (cell_lt h.p2)]; exact h.p2, by rw [hb.cell (cell_lt h.l)]; exact h.l, h.lo, vb, vo, h1.up hb, h2.up hb, h3.up hb⟩

theorem VInv.put (h : VInv w wr d m s R n N X lv bb st) {c : List Nat} {a1 a2 : Option Addr} {n1 n2 c1 c2 : Nat} (g1 : IntSl wr wr.heap.size (.slice a1 n1 c1) s (conD d N X c))
    (g2 : IntSl wr wr.heap.size (.slice a2 n2 c2) (badL d s R n N X (conD d N X c)).length (fun j => (srt (badL d s R n N X (conD d N X c))).getD j 0)) :
    VInv w ((wr.setCell ⟨bb, 0, none⟩ (.slice a1 n1 c1)).setCell ⟨bb + 1, 0, none⟩ (.slice a2 n2 c2)) d m s R n N X lv bb (some c) ∧ Kp bb (bb + 1) wr ((wr.setCell ⟨bb, 0, none⟩ (.slice a1 n1 c1)).setCell ⟨bb + 1, 0, none⟩ (.slice a2 n2 c2)) := by
  obtain ⟨vb, vo, h1, h2, -⟩ := h.held
  have hlo := h.lo
  have hk : Kp bb (bb + 1) wr ((wr.setCell ⟨bb, 0, none⟩ (.slice a1 n1 c1)).setCell ⟨bb + 1, 0, none⟩ (.slice a2 n2 c2)) :=
    Kp.set (p := ⟨bb + 1, 0, none⟩) (Kp.set (p := ⟨bb, 0, none⟩) (Kp.of_below (Below.refl _ _)) (Or.inl rfl) _) (Or.inr rfl) _
  have e1 : Box (wr.setCell ⟨bb, 0, none⟩ (.slice a1 n1 c1)) bb (.slice a1 n1 c1) := h1.set a1 n1 c1
  have e2 : Box (wr.setCell ⟨bb, 0, none⟩ (.slice a1 n1 c1)) (bb + 1) vo := h2.other (by omega) _
  have sz : ((wr.setCell ⟨bb, 0, none⟩ (.slice a1 n1 c1)).setCell ⟨bb + 1, 0, none⟩ (.slice a2 n2 c2)).heap.size = wr.heap.size := by rw [size_set, size_set]
  refine ⟨⟨(h.below.setCell (p := ⟨bb, 0, none⟩) (by show w.heap.size ≤ bb; omega) _).setCell (p := ⟨bb + 1, 0, none⟩) (by show w.heap.size ≤ bb + 1; omega) _, ?_, ?_, ?_, ?_, hlo, _, _, e1.other (by omega) _, e2.set a2 n2 c2, Or.inr ⟨c, rfl, ?_, ?_⟩⟩, hk⟩
  · rw [hk.cell (cell_lt h.p0) (by show w.heap.size ≠ bb; omega) (by show w.heap.size ≠ bb + 1; omega)]; exact h.p0
  · rw [hk.cell (cell_lt h.p1) (by show w.heap.size ≠ bb; omega) (by show w.heap.size ≠ bb + 1; omega)]; exact h.p1
  · rw [hk.cell (cell_lt h.p2) (by show w.heap.size ≠ bb; omega) (by show w.heap.size ≠ bb + 1; omega)]; exact h.p2
  · rw [hk.cell (cell_lt h.l) (by show w.heap.size + 1 ≠ bb; omega) (by show w.heap.size + 1 ≠ bb + 1; omega)]; exact h.l
  · rw [sz]; exact (g1.box h1 _).box e2 _
  · rw [sz]; exact (g2.box h1 _).box e2 _

end

def askF (bp bb : Nat) : Value := .func (.func 106) #[] #[.pointer (some ⟨bp, 0, none⟩), .pointer (some ⟨bp + 1, 0, none⟩), .pointer (some ⟨bb, 0, none⟩), .pointer (some ⟨bb + 1, 0, none⟩)]
def tryF (em : Nat) : Value := .func (.func 141) #[] #[.pointer (some ⟨em, 0, none⟩), .pointer (some ⟨em + 1, 0, none⟩), .pointer (some ⟨em + 2, 0, none⟩)]

structure EInv (wr : World) (d em bp bb : Nat) : Prop where
  m : wr.cell? ⟨em, 0, none⟩ = some (.int .i64 (d : Int))
  a : wr.cell? ⟨em + 1, 0, none⟩ = some (askF bp bb)
  t : wr.cell? ⟨em + 2, 0, none⟩ = some (tryF em)
  hi : bb + 1 < em

theorem EInv.keep {wr w' : World} {d em bp bb : Nat} (h : EInv wr d em bp bb) (hk : Kp bb (bb + 1) wr w') : EInv w' d em bp bb := by
  have hi := h.hi
  exact ⟨by rw [hk.cell (cell_lt h.m) (by show em ≠ bb; omega) (by show em ≠ bb + 1; omega)]; exact h.m, by rw [hk.cell (cell_lt h.a) (by show em + 1 ≠ bb; omega) (by show em + 1 ≠ bb + 1; omega)]; exact h.a,
    by rw [hk.cell (cell_lt h.t) (by show em + 2 ≠ bb; omega) (by show em + 2 ≠ bb + 1; omega)]; exact h.t, hi⟩

def Cho (wr : World) (lo : Nat) (vc : Value) (c : List Nat) (N : Nat → Int) (V : Nat → Value) : Prop :=
  (c = [] ∧ vc = .slice none 0 0) ∨ ∃ g cap, vc = .slice (some ⟨g, 0, none⟩) c.length cap ∧ lo ≤ g ∧ g < wr.heap.size ∧ (1 ≤ c.length ∧ c.length ≤ cap) ∧
    ∀ j, j < c.length → wr.cell? ⟨g, j * 2, none⟩ = some (.int .i64 (tak N c j)) ∧ wr.cell? ⟨g, j * 2 + 1, none⟩ = some (tak V c j)

theorem Cho.shape {wr : World} {lo : Nat} {vc : Value} {c : List Nat} {N : Nat → Int} {V : Nat → Value} (h : Cho wr lo vc c N V) : ∃ a cap, vc = .slice a c.length cap := by
  rcases h with ⟨rfl, rfl⟩ | ⟨g, cap, rfl, _⟩
  · exact ⟨_, _, rfl⟩
  · exact ⟨_, _, rfl⟩

theorem Cho.keep {wr w' : World} {b1 b2 lo : Nat} {vc : Value} {c : List Nat} {N : Nat → Int} {V : Nat → Value} (h : Cho wr lo vc c N V) (hk : Kp b1 b2 wr w') (h1 : b1 < lo) (h2 : b2 < lo) : Cho w' lo vc c N V := by
  rcases h with h | ⟨g, cap, e, h3, h4, h5, h6⟩
  · exact Or.inl h
  · refine Or.inr ⟨g, cap, e, h3, Nat.lt_of_lt_of_le h4 hk.size, h5, fun j hj => ?_⟩
    obtain ⟨g1, g2⟩ := h6 j hj
    exact ⟨by rw [hk.cell h4 (by show g ≠ b1; omega) (by show g ≠ b2; omega)]; exact g1, by rw [hk.cell h4 (by show g ≠ b1; omega) (by show g ≠ b2; omega)]; exact g2⟩

theorem Cho.shl {wr : World} {lo n : Nat} {vc : Value} {c : List Nat} {N : Nat → Int} {V : Nat → Value} {L : Nat → Nat} {X : Nat → Nat → Int} (h : Cho wr lo vc c N V) (hc : Rise n c) (hl : c.length ≤ 8) (hV : ∀ j, j < n → IntSl wr wr.heap.size (V j) (L j) (X j)) :
    ShSl wr wr.heap.size vc c.length (tak N c) (tak V c) (tak L c) (tak X c) := by
  rcases h with ⟨rfl, rfl⟩ | ⟨g, cap, rfl, h3, h4, h5, h6⟩
  · exact ⟨none, 0, rfl, ⟨Nat.le_refl _, by decide⟩, Or.inl rfl⟩
  · refine ⟨_, cap, rfl, ⟨h5.2, by omega⟩, Or.inr ⟨g, 0, rfl, h4, fun j hj => ?_⟩⟩
    rw [Nat.zero_add]
    exact ⟨(h6 j hj).1, (h6 j hj).2, hV _ (hc.lt hj)⟩

theorem tak_old {α : Type} (f : Nat → α) (c : List Nat) (i j : Nat) (hj : j < c.length) : tak f (c ++ [i]) j = tak f c j := by
  unfold tak
  rw [List.getD_eq_getElem?_getD, List.getD_eq_getElem?_getD, List.getElem?_append_left hj]

theorem tak_new {α : Type} (f : Nat → α) (c : List Nat) (i : Nat) : tak f (c ++ [i]) c.length = f i := by
  unfold tak
  simp

theorem Cho.of_own {w0 wr : World} {lo i : Nat} {v : Value} {c : List Nat} {N : Nat → Int} {V : Nat → Value} (h : OwnS w0 wr v (c.length + 1) (tak N (c ++ [i])) (tak V (c ++ [i]))) (hlo : lo ≤ w0.heap.size) : Cho wr lo v (c ++ [i]) N V := by
  obtain ⟨g, cap, cur, rfl, h1, h2, h3, h4, h5, h6⟩ := h.at (by omega)
  have e : (c ++ [i]).length = c.length + 1 := by simp
  refine Or.inr ⟨g, cap, by rw [e], Nat.le_trans hlo h1, cell_lt (h6 0 (by omega)).1, ⟨by omega, by omega⟩, fun j hj => h6 j (by omega)⟩

theorem OwnS.pushG {w0 wr w1 : World} {v v' : Value} {k : Nat} {N N' : Nat → Int} {V V' : Nat → Value} {x : Int} {u : Value} (h : OwnS w0 wr v k N V)
    (ho : w1.ownsRow w0.heap.size 81 2 v' (k + 1) (flatS k N V ++ [.int .i64 x, u])) (hg : wr.grownBy w1 v.ownBlock) (hN : ∀ j, j < k → N' j = N j ∧ V' j = V j) (hx : N' k = x) (hu : V' k = u) : OwnS w0 w1 v' (k + 1) N' V' := by
  refine ⟨?_, ?_⟩
  · rw [flatS_succ, hx, hu, flatS_congr (N' := N) (V' := V) hN]
    exact ho
  · exact h.2.grown hg h.2.size (fun g hgg => (h.1.lt g hgg).1)

theorem Rise.push {i : Nat} {c : List Nat} (h : Rise i c) {j : Nat} (hj : i ≤ j) : Rise (j + 1) (c ++ [j]) := by
  refine ⟨List.pairwise_append.2 ⟨h.1, List.pairwise_singleton _ _, fun a ha b hb => ?_⟩, fun x hx => ?_⟩
  · have := h.2 a ha
    simp at hb
    omega
  · rcases List.mem_append.1 hx with hx | hx
    · have := h.2 x hx; omega
    · simp at hx; omega

theorem Rise.wide {i j : Nat} {c : List Nat} (h : Rise i c) (hij : i ≤ j) : Rise j c := ⟨h.1, fun x hx => Nat.lt_of_lt_of_le (h.2 x hx) hij⟩

theorem fold_next {σ : Type} (f : σ → List Nat → σ) (st : σ) (r i k : Nat) (c : List Nat) :
    ((comb (r + 1) (List.range' i (k + 1))).map (c ++ ·)).foldl f st = ((comb (r + 1) (List.range' (i + 1) k)).map (c ++ ·)).foldl f (((comb r (List.range' (i + 1) k)).map ((c ++ [i]) ++ ·)).foldl f st) := by
  rw [List.range'_succ, comb, List.map_append, List.foldl_append, List.map_map]
  have e : (fun x => c ++ x) ∘ (fun x => i :: x) = fun x => (c ++ [i]) ++ x := by funext x; simp
  rw [e]

theorem fold_none {σ : Type} (f : σ → List Nat → σ) (st : σ) (r i : Nat) (c : List Nat) : ((comb (r + 1) (List.range' i 0)).map (c ++ ·)).foldl f st = st := rfl

theorem fold_all {σ : Type} (f : σ → List Nat → σ) (st : σ) (i k : Nat) (c : List Nat) : ((comb 0 (List.range' i k)).map (c ++ ·)).foldl f st = f st c := by
  simp [comb]

end Go.Proofs.YtajmnlhfnhbleaaGreat

namespace Go.Proofs.YtajmnlhfnhbleaaGreat

open Go.RowKit CurveMath
set_option linter.unusedVariables false

set_option maxHeartbeats 2000000 in
set_option maxRecDepth 10000 in
theorem ask_any {w wr : World} {d m s R n : Nat} {N : Nat → Int} {V : Nat → Value} {L : Nat → Nat} {X : Nat → Nat → Int} {a : Option Addr} {cp bb : Nat} {st : Option (List Nat)} (hS : Shares d m s R n N L X) (h : ShSl w w.heap.size (.slice a n cp) n N V L X)
    (I : VInv w wr d m s R n N X (.slice a n cp) bb st) (c : List Nat) (hc : Rise n c) (hl : c.length = d) (vc : Value) (hv : ShSl wr wr.heap.size vc d (tak N c) (tak V c) (tak L c) (tak X c)) :
    Calls Tryz.prog 106 #[vc, .pointer (some ⟨w.heap.size, 0, none⟩), .pointer (some ⟨w.heap.size + 1, 0, none⟩), .pointer (some ⟨bb, 0, none⟩), .pointer (some ⟨bb + 1, 0, none⟩)] wr fun e w' =>
      e = .returned (.tuple #[]) ∧ VInv w w' d m s R n N X (.slice a n cp) bb (stepV d s R n N X st c) ∧ Kp bb (bb + 1) wr w' := by
  have HSt := hS.take hc hl
  have hJ := owes.join (d : Int) (m : Int) (s : Int) vc d (tak N c) (tak V c) (tak L c) (tak X c) wr hv
  rw [HSt.joinE] at hJ
  have e0 : madeB d s R (tak N c) (tak X c) = mkB d s R N X c := rfl
  rw [e0] at hJ
  obtain ⟨advc, cvc, hvc, _, _⟩ := hv
  subst hvc
  have q0 := I.p0
  have q1 := I.p1
  have q2 := I.p2
  have ql := I.l
  have HI := hid I
  have HS := hid hS
  have HL := hid h
  clear HSt hc hl h I hS e0
  have q24 : ∀ (w : World) (a : Option Addr) (n c : Nat), (binOp .eql 28 (.slice a n c) (.slice none 0 0)).run Tryz.prog w = .ok (.bool a.isNone) w := fun w a n c => Lib.run_eql_slice_nil w _ _ a n c 0 0 Tryz.underlying28
  cases hm : mkB d s R N X c with
  | false =>
    have hst : stepV d s R n N X st c = st := by unfold stepV; rw [if_neg (by rw [hm]; decide)]
    rw [hst]
    rw [hm, if_neg (by decide)] at hJ
    have HJ := hid hJ
    clear hJ hm hst
    go_enter Tryz.func106, Tryz.ntmps106
    go_wp2_with fail
    refine HJ.out.mono ?_
    rintro e w1 ⟨hb1, r, mm, rfl, -, hr⟩
    obtain ⟨ar, cr, hre, _, _⟩ := hr
    subst hre
    have HB1 := hid hb1
    clear hb1
    go_wp2
    refine bodyPost_ret (results_none rfl _ _ _) rfl ?_
    exact ⟨rfl, HI.out.up HB1.out, Kp.of_below HB1.out⟩
  | true =>
    rw [hm, if_pos rfl] at hJ
    have HJ := hid hJ
    have HM := hid hm
    clear hJ hm
    go_enter Tryz.func106, Tryz.ntmps106
    go_wp2_with fail
    refine HJ.out.mono ?_
    rintro e w1 ⟨hb1, r, mm, rfl, hmm, hr⟩
    simp only [if_true] at hmm
    have hmm' : s = mm := by omega
    subst hmm'
    rw [Int.toNat_natCast] at hr
    have HR := hid hr
    obtain ⟨ar, cr, hre, _, hrr⟩ := hr
    subst hre
    have HB1 := hid hb1
    have I1 := hid (HI.out.up hb1)
    have r0 := I1.out.p0
    have r1 := I1.out.p1
    have r2 := I1.out.p2
    have rl := I1.out.l
    have hsp : 1 ≤ s := by have := (planOk_spec HS.out.plan).2.2; omega
    have har : ar.isNone = false := by
      rcases hrr with h0 | ⟨b, o, rfl, _⟩
      · omega
      · rfl
    clear hb1 hrr hmm
    go_wp2_with fail
    refine Calls.mono (bent_any owes d m s R n _ N V L X _ (conD d N X c) w1 HS.out (HL.out.up I1.out.below) HR.out (fun j _ => by unfold conD joinD; exact crv_num _ _ _ _)) ?_
    rintro e w2 ⟨hb2, b, rfl, hob⟩
    have hbl := badL_len d s R n N X (conD d N X c)
    have hn8 := HS.out.le.2
    have HO := hid (hob.isl (by rw [srt_len]; omega))
    rw [srt_len] at HO
    have hsh := HO.out
    obtain ⟨ab, cb, hbe, _, _⟩ := hsh
    subst hbe
    have HB2 := hid (HB1.out.trans (hb2.mono HB1.out.size))
    have I2 := hid (I1.out.up hb2)
    have R2 := hid (HR.out.up hb2)
    clear hb2 hob
    obtain ⟨vb, vo, B1, B2, Hd⟩ := I2.out.held
    have c1 := B1.cell
    have c2 := B2.cell
    have f1 := B1.free
    have f2 := B2.free
    have hP : VInv w ((w2.setCell ⟨bb, 0, none⟩ (.slice ar s cr)).setCell ⟨bb + 1, 0, none⟩ (.slice ab (badL d s R n N X (conD d N X c)).length cb)) d m s R n N X (.slice a n cp) bb (some c) ∧ Kp bb (bb + 1) w2 ((w2.setCell ⟨bb, 0, none⟩ (.slice ar s cr)).setCell ⟨bb + 1, 0, none⟩ (.slice ab (badL d s R n N X (conD d N X c)).length cb)) := I2.out.put R2.out HO.out
    have HP := hid hP
    clear hP
    rcases Hd with ⟨hst, rfl, rfl⟩ | ⟨b, hst, hb1, hb2⟩
    · have hs2 : stepV d s R n N X st c = some c := by unfold stepV; rw [if_pos HM.out, hst]
      have HS2 := hid hs2
      clear hst hs2
      go_wp2
      go_end0
      exact ⟨rfl, by rw [HS2.out]; exact HP.out.1, (Kp.of_below HB2.out).trans HP.out.2⟩
    · obtain ⟨avb, cvb, hve, _, hvv⟩ := hb1
      obtain ⟨avo, cvo, hoe, _, _⟩ := hb2
      subst hve
      subst hoe
      have hav : avb.isNone = false := by
        rcases hvv with h0 | ⟨b, o, rfl, _⟩
        · omega
        · rfl
      clear hvv
      have HSt := hid hst
      clear hst
      by_cases hlt : (badL d s R n N X (conD d N X c)).length < (badL d s R n N X (conD d N X b)).length
      · have hs2 : stepV d s R n N X st c = some c := by unfold stepV; rw [if_pos HM.out, HSt.out]; simp only [hlt, if_true]
        have HS2 := hid hs2
        have hli : ((badL d s R n N X (conD d N X c)).length : Int) < ((badL d s R n N X (conD d N X b)).length : Int) := by omega
        clear hs2
        go_wp2
        go_end0
        exact ⟨rfl, by rw [HS2.out]; exact HP.out.1, (Kp.of_below HB2.out).trans HP.out.2⟩
      · have hs2 : stepV d s R n N X st c = some b := by unfold stepV; rw [if_pos HM.out, HSt.out]; simp only [hlt, if_false]
        have HS2 := hid hs2
        have hli : ¬ ((badL d s R n N X (conD d N X c)).length : Int) < ((badL d s R n N X (conD d N X b)).length : Int) := by omega
        clear hs2
        go_wp2
        go_end0
        exact ⟨rfl, by rw [HS2.out, ← HSt.out]; exact I2.out, Kp.of_below HB2.out⟩

end Go.Proofs.YtajmnlhfnhbleaaGreat

namespace Go.Proofs.YtajmnlhfnhbleaaGreat

open Go.RowKit CurveMath
set_option linter.unusedVariables false

theorem clone_cho {wr : World} {lo n : Nat} {vc : Value} {c : List Nat} {N : Nat → Int} {V : Nat → Value} {L : Nat → Nat} {X : Nat → Nat → Int} (h : Cho wr lo vc c N V) (hc : Rise n c) (hl : c.length ≤ 8) (hV : ∀ j, j < n → IntSl wr wr.heap.size (V j) (L j) (X j)) :
    Calls Tryz.prog 142 #[vc] wr fun e w' => ∃ v', e = .returned v' ∧ OwnS wr w' v' c.length (tak N c) (tak V c) := by
  by_cases h0 : c.length = 0
  · have h1 : vc = .slice none 0 0 := by
      rcases h with ⟨_, e⟩ | ⟨g, cap, e, h3, h4, h5, h6⟩
      · exact e
      · omega
    subst h1
    have q25 : ∀ (w : World) (a : Option Addr) (n c : Nat), (binOp .eql 103 (.slice a n c) (.slice none 0 0)).run Tryz.prog w = .ok (.bool a.isNone) w := fun w a n c => Lib.run_eql_slice_nil w _ _ a n c 0 0 Tryz.underlying103
    rw [h0]
    go_enter Tryz.func142, Tryz.ntmps142
    go_wp2
    go_ret
    exact ⟨_, rfl, OwnS.nil _ _ _⟩
  · exact cloneS (h.shl hc hl hV) ⟨by omega, by omega⟩

section

variable {w : World} {d m s R n : Nat} {N : Nat → Int} {V : Nat → Value} {L : Nat → Nat} {X : Nat → Nat → Int} {a : Option Addr} {cp bb em : Nat}

def TryPost (w wr : World) (d m s R n : Nat) (N : Nat → Int) (X : Nat → Nat → Int) (lv : Value) (bb : Nat) (st : Option (List Nat)) (e : Ending) (w' : World) : Prop :=
  e = .returned (.tuple #[]) ∧ VInv w w' d m s R n N X lv bb st ∧ Kp bb (bb + 1) wr w'

theorem ShSl.lists {w wr : World} {v : Value} (h : ShSl w w.heap.size v n N V L X) (hb : Below w.heap.size w wr) (j : Nat) (hj : j < n) : IntSl wr wr.heap.size (V j) (L j) (X j) := by
  obtain ⟨_, _, _, _, h2⟩ := h
  rcases h2 with h0 | ⟨_, _, _, _, h5⟩
  · omega
  · exact (h5 j hj).2.2.up hb

set_option maxHeartbeats 2000000 in
set_option maxRecDepth 10000 in
theorem try_ask (hS : Shares d m s R n N L X) (h : ShSl w w.heap.size (.slice a n cp) n N V L X) {c : List Nat} {wr : World} {vc : Value} {st : Option (List Nat)} (ar : Option Addr) (nr cr : Nat) (hl : c.length = d) (hc : Rise n c)
    (I : VInv w wr d m s R n N X (.slice a n cp) bb st) (E : EInv wr d em w.heap.size bb) (C : Cho wr (bb + 2) vc c N V) :
    Calls Tryz.prog 141 #[vc, .slice ar nr cr, .pointer (some ⟨em, 0, none⟩), .pointer (some ⟨em + 1, 0, none⟩), .pointer (some ⟨em + 2, 0, none⟩)] wr
      (TryPost w wr d m s R n N X (.slice a n cp) bb (stepV d s R n N X st c)) := by
  have hle := hS.le
  have hA := ask_any hS h I c hc hl vc (by have := C.shl hc (by omega) (h.lists I.below); rw [hl] at this; exact this)
  have HA := hid hA
  obtain ⟨avc, cvc, rfl⟩ := C.shape
  rw [hl] at HA
  rw [hl]
  have e1 := E.m
  have e2 := E.a
  unfold askF at e2
  clear hA C E I hle h hS
  go_enter Tryz.func141, Tryz.ntmps141
  go_wp2_with fail
  refine HA.out.mono ?_
  rintro e w1 ⟨rfl, h1, h2⟩
  have H1 := hid h1
  have H2 := hid h2
  clear h1 h2
  go_wp2
  refine bodyPost_ret (results_none rfl _ _ _) rfl ?_
  exact ⟨rfl, H1.out, H2.out⟩
set_option maxHeartbeats 4000000 in
set_option maxRecDepth 10000 in
theorem try_any (hS : Shares d m s R n N L X) (h : ShSl w w.heap.size (.slice a n cp) n N V L X) (r : Nat) : ∀ (c : List Nat) (i : Nat) (ws : World) (vc vr : Value) (st : Option (List Nat)), c.length + r = d → Rise i c → i ≤ n →
    VInv w ws d m s R n N X (.slice a n cp) bb st → EInv ws d em w.heap.size bb → Cho ws (bb + 2) vc c N V → ShSl w w.heap.size vr (n - i) (fun j => N (i + j)) (fun j => V (i + j)) (fun j => L (i + j)) (fun j => X (i + j)) →
    Calls Tryz.prog 141 #[vc, vr, .pointer (some ⟨em, 0, none⟩), .pointer (some ⟨em + 1, 0, none⟩), .pointer (some ⟨em + 2, 0, none⟩)] ws
      (TryPost w ws d m s R n N X (.slice a n cp) bb (((comb r (List.range' i (n - i))).map (c ++ ·)).foldl (stepV d s R n N X) st)) := by
  induction r with
  | zero =>
    intro c i ws vc vr st hl hc hi I E C hr
    rw [fold_all]
    obtain ⟨ar, cr, rfl, _, _⟩ := hr
    exact try_ask hS h ar _ cr (by omega) (hc.wide hi) I E C
  | succ r ih =>
    intro c i ws vc vr st hl hc hi I E C hr
    obtain ⟨ans, hans⟩ : ∃ ans, ((comb (r + 1) (List.range' i (n - i))).map (c ++ ·)).foldl (stepV d s R n N X) st = ans := ⟨_, rfl⟩
    rw [hans]
    have HAns := hid hans
    have HS := hid hS
    have HL := hid h
    have HI := hid I
    have HE := hid E
    have HC := hid C
    have HRc := hid hc
    have HRs := hid hr
    have HIH := hid ih
    have hle := hS.le
    have hd8 : d ≤ 8 := by omega
    obtain ⟨k, hk⟩ : ∃ k, n - i = k := ⟨_, rfl⟩
    have hkn : i + k = n := by omega
    obtain ⟨ar, cr, rfl, ⟨hcr, hbig⟩, hx⟩ := hr
    rw [hk] at HRs hcr hbig hx
    rw [hk]
    obtain ⟨avc, cvc, hvc⟩ := C.shape
    subst hvc
    obtain ⟨q, hq⟩ : ∃ q, c.length = q := ⟨_, rfl⟩
    have hqd : ¬ (q : Int) = (d : Int) := by omega
    rw [hq] at HC
    rw [hq]
    have e1 := E.m
    have lo1 := I.lo
    have hi1 := E.hi
    obtain ⟨ii, hii, hz0, hz1, hz2⟩ := info_parts Tryz.infoShare
    have HXr := hid hx
    have HQ := hid hq
    have HK := hid hk
    clear hans hS h I E C hc ih hx hq hk
    go_enter Tryz.func141, Tryz.ntmps141
    go_wp2
    go_loopw [18] (fun iv wr => ∃ (j : Nat) (sj : Option (List Nat)), j ≤ k ∧ iv = .int .i64 j ∧ Hid (VInv w wr d m s R n N X (.slice a n cp) bb sj) ∧ Hid (Kp bb (bb + 1) ws wr) ∧ Hid (((comb (r + 1) (List.range' (i + j) (k - j))).map (c ++ ·)).foldl (stepV d s R n N X) sj = ans)) (fun iv _ => k - (intOf iv).toNat)
    case atStart => exact ⟨0, st, Nat.zero_le _, rfl, HI, Kp.of_below (Below.refl _ _), by have := HAns.out; rw [HK.out] at this; exact this⟩
    case round =>
      obtain ⟨j, sj, hj, rfl, Ij, Kj, Fj⟩ := hrel
      by_cases hlt : j < k
      · have hji : (j : Int) < (k : Int) := by omega
        have hx5 : ∃ b off, ar = some ⟨b, off, none⟩ ∧ b < w.heap.size ∧ (w.cell? ⟨b, off + j * 2, none⟩ = some (.int .i64 (N (i + j))) ∧ w.cell? ⟨b, off + j * 2 + 1, none⟩ = some (V (i + j)) ∧ IntSl w w.heap.size (V (i + j)) (L (i + j)) (X (i + j))) := by
          rcases HXr.out with h0 | ⟨b, off, rfl, hb, h5⟩
          · omega
          · exact ⟨b, off, rfl, hb, h5 j hlt⟩
        obtain ⟨b, off, rfl, hb, x1, x2, x3⟩ := hx5
        obtain ⟨av, cv, hve, _, _⟩ := x3
        obtain ⟨lv, hlv⟩ : ∃ lv, L (i + j) = lv := ⟨_, rfl⟩
        rw [hlv] at hve
        obtain ⟨x, hxx⟩ : ∃ x, N (i + j) = x := ⟨_, rfl⟩
        rw [hxx] at x1
        have g1 : wr.cell? ⟨b, off + j * 2, none⟩ = some (.int .i64 x) := by rw [Ij.out.below.cell hb]; exact x1
        have g2 : wr.cell? ⟨b, off + j * 2 + 1, none⟩ = some (.slice av lv cv) := by rw [Ij.out.below.cell hb, x2, hve]
        have HVe := hid hve
        have HXx := hid hxx
        have hsl : ((j : Int) + 1) ≤ (cr : Int) := by omega
        clear x1 x2 hve hlv hxx
        have Ej := hid (HE.out.keep Kj.out)
        have Cj := hid (HC.out.keep Kj.out (by omega) (by omega))
        have hbA := below_alloc wr (.cells #[.int .i64 x, .slice av lv cv] 81)
        obtain ⟨W, hW⟩ : ∃ W, wr.alloc (.cells #[.int .i64 x, .slice av lv cv] 81) = W := ⟨_, rfl⟩
        rw [hW] at hbA
        have s0 : W.cell? ⟨wr.heap.size, 0, none⟩ = some (.int .i64 x) := by rw [← hW]; exact cell_at (heap_alloc_new _ _) rfl
        have s1 : W.cell? ⟨wr.heap.size, 1, none⟩ = some (.slice av lv cv) := by rw [← hW]; exact cell_at (heap_alloc_new _ _) rfl
        have IW := hid (Ij.out.up hbA)
        have hemz : em + 2 < wr.heap.size := cell_lt Ej.out.t
        have KW := hid (Kj.out.trans (Kp.of_below hbA))
        have EW := hid (Ej.out.keep (Kp.of_below hbA))
        have CW := hid (Cj.out.keep (Kp.of_below (b1 := bb) (b2 := bb + 1) hbA) (by omega) (by omega))
        have eT := EW.out.t
        unfold tryF at eT
        have hne : Nonempty (Of (Kp bb (bb + 1) W)) := ⟨⟨W, Kp.of_below (Below.refl _ _)⟩⟩
        have F3 : ∀ u : Of (Kp bb (bb + 1) W), u.val.cell? ⟨wr.heap.size, 0, none⟩ = some (.int .i64 x) := fun u => by rw [u.is.cell (cell_lt s0) (by show wr.heap.size ≠ bb; omega) (by show wr.heap.size ≠ bb + 1; omega)]; exact s0
        have F4 : ∀ u : Of (Kp bb (bb + 1) W), u.val.cell? ⟨wr.heap.size, 1, none⟩ = some (.slice av lv cv) := fun u => by rw [u.is.cell (cell_lt s1) (by show wr.heap.size ≠ bb; omega) (by show wr.heap.size ≠ bb + 1; omega)]; exact s1
        have F5 : ∀ u : Of (Kp bb (bb + 1) W), u.val.cell? ⟨em + 2, 0, none⟩ = some (.func (.func 141) #[] #[.pointer (some ⟨em, 0, none⟩), .pointer (some ⟨em + 1, 0, none⟩), .pointer (some ⟨em + 2, 0, none⟩)]) := fun u => by rw [u.is.cell (cell_lt eT) (by show em + 2 ≠ bb; omega) (by show em + 2 ≠ bb + 1; omega)]; exact eT
        clear hbA eT s0 s1
        go_wp2_with fail
        have HDr : Hid (Below W.heap.size W W.drew) := ⟨rfl, rfl, rfl, Nat.le_refl _, fun _ _ => rfl⟩
        have hws : wr.heap.size + 1 ≤ W.heap.size := by rw [← hW]; simp
        have HWs := hid hws
        clear hws
        obtain ⟨ra, hra⟩ : ∃ ra : Option Addr, (if cr = j + 1 then some ⟨b, off, none⟩ else some ⟨b, off + (j + 1) * 2, none⟩) = ra := ⟨_, rfl⟩
        have HRa := hid hra
        have HRt : Hid (ShSl w w.heap.size (.slice ra (k - (j + 1)) (cr - (j + 1))) (n - (i + j + 1)) (fun t => N (i + j + 1 + t)) (fun t => V (i + j + 1 + t)) (fun t => L (i + j + 1 + t)) (fun t => X (i + j + 1 + t))) := by
          rw [← hra]
          by_cases hz : cr = j + 1
          · rw [if_pos hz, show n - (i + j + 1) = 0 by omega, show k - (j + 1) = 0 by omega]
            exact ⟨_, _, rfl, ⟨Nat.zero_le _, by omega⟩, Or.inl rfl⟩
          · rw [if_neg hz]
            have h9 := HRs.out.drop (d := j + 1) (by omega)
            rw [show n - (i + j + 1) = k - (j + 1) by omega]
            have e9 : ∀ t, i + (j + 1 + t) = i + j + 1 + t := fun t => by omega
            simp only [e9] at h9
            exact h9
        clear hra
        refine region_fork (Kp bb (bb + 1) W) [0, 1, 3, 6, 7, 8, 9] 2 4 [([], 4), ([], 5), ([], 10)] [([], 2), ([], 5), ([], 10)] [] (by kernel_rfl) (by kernel_rfl) (Kp.of_below HDr.out) (by simp only [pickO, List.getElem?_cons_zero, List.getElem?_cons_succ]; exact rfl) (by simp only [pickO, List.getElem?_cons_zero, List.getElem?_cons_succ]; exact rfl) (by simp only [pickO, List.getElem?_cons_zero, List.getElem?_cons_succ]; exact rfl) ?_
        repeat (go_big_quiet_step (fail))
        refine wpQuiet_nil ?_
        rw [HRa.out]
        refine ⟨?_, ?_⟩
        · intro K hK
          go_wp2_with fail
          refine Calls.mono (clone_cho (n := n) (L := L) (X := X) (CW.out.keep (Kp.of_below (b1 := bb) (b2 := bb + 1) HDr.out) (by omega) (by omega)) (HRc.out.wide hi) (by omega) (HL.out.lists (IW.out.up HDr.out).below)) ?_
          rintro e w2 ⟨v', rfl, ho2⟩
          have HO2 := hid ho2
          have HB2 : Hid (Below W.heap.size W w2) := HDr.out.trans (ho2.2.mono HDr.out.size)
          clear ho2
          go_wp2
          refine ⟨rfl, hK _ _ (Kp.of_below HB2.out) ?_⟩
          clear hK K
          refine mixO_cons (lq := []) rfl (by simp only [pickO, List.getElem?_cons_zero, List.getElem?_cons_succ]; exact rfl) ?_
          refine wpQuiet_nil ?_
          intro K hK
          go_wp2
          have hb3 := below_alloc w2 (.cells #[.int .i64 x, .slice av lv cv] 81)
          refine ⟨rfl, hK _ _ (Kp.of_below (HB2.out.trans (hb3.mono HB2.out.size))) ?_⟩
          clear hK K
          have HO3 := hid (HO2.out.up hb3)
          have HCE := hid (cells_two w2 x (.slice av lv cv) 81)
          have HBB : Hid (Below W.heap.size W W.drew) := HDr
          clear hb3
          refine mixO_cons (lq := []) rfl (by simp only [pickO, List.getElem?_cons_zero, List.getElem?_cons_succ]; exact rfl) ?_
          refine wpQuiet_nil ?_
          intro K hK
          go_wp2_with (at_builtin; go_must (refine wpList_append_own _ rfl (.tmp 25) (.tmp 27) 103 rfl W.drew.heap.size 81 ii (.agg #[.int .i64 0, .slice none 0 0]) 2 32 Tryz.underlying103 hii hz0 hz1 hz2 rfl (by decide) _ _ _ rfl HO3.out.1 ⟨_, 0, none⟩ 1 1 [.int .i64 x, .slice av lv cv] rfl rfl HCE.out (by intro u hu; simp at hu; rcases hu with rfl | rfl <;> rfl) (by unfold maxLen; omega) (by omega) (by have := HO3.out.2.size; omega) ?_; intro v1 w4 ho4 hg4 _; have HO4 := hid ho4; have HG4 := hid hg4; clear ho4 hg4))
          have O4 : Hid (OwnS W.drew w4 v1 (c.length + 1) (tak N (c ++ [i + j])) (tak V (c ++ [i + j]))) := HO3.out.pushG HO4.out HG4.out (fun jj hjj => ⟨tak_old _ _ _ _ hjj, tak_old _ _ _ _ hjj⟩) (by rw [tak_new]; exact HXx.out) (by rw [tak_new]; exact HVe.out)
          have HB4 : Hid (Below W.heap.size W w4) := HBB.out.trans (O4.out.2.mono HBB.out.size)
          refine ⟨rfl, hK _ _ (Kp.of_below HB4.out) ?_⟩
          clear hK K
          refine mixO_cons (lq := []) rfl (by simp only [pickO, List.getElem?_cons_zero, List.getElem?_cons_succ]; exact rfl) ?_
          refine wpQuiet_nil ?_
          intro K hK
          go_wp2_with fail
          refine Calls.mono (HIH.out (c ++ [i + j]) (i + j + 1) w4 v1 _ sj (by rw [List.length_append]; simp; omega) (HRc.out.push (Nat.le_add_right i j)) (by omega) (IW.out.up HB4.out) (EW.out.keep (Kp.of_below HB4.out)) (Cho.of_own O4.out (Nat.le_trans (Nat.le_of_lt (by omega : bb + 2 < wr.heap.size + 1)) (Nat.le_trans HWs.out HBB.out.size))) HRt.out) ?_
          rintro e w5 ⟨rfl, h5, k5⟩
          have H5 := hid h5
          have K5 := hid ((Kp.of_below (b1 := bb) (b2 := bb + 1) HB4.out).trans k5)
          clear h5 k5
          go_wp2
          refine ⟨rfl, hK _ _ K5.out ?_⟩
          clear hK K
          refine mixO_nil (lq := []) rfl ?_
          refine wpQuiet_nil ?_
          go_wp2
          go_roundw
          case rel =>
            refine ⟨j + 1, _, by omega, by go_num, H5, KW.out.trans K5.out, ?_⟩
            have hf := Fj.out
            rw [show k - j = (k - (j + 1)) + 1 by omega, fold_next] at hf
            rw [show n - (i + j + 1) = k - (j + 1) by omega]
            exact hf
          case measure => simp only [intOf]; omega
        · intro K hK
          go_wp2
          have hbn := below_alloc W (.cells #[.int .i64 x, .slice av lv cv] 81)
          have HBB : Hid (Below W.heap.size W (W.alloc (.cells #[.int .i64 x, .slice av lv cv] 81)).drew) := hbn.trans ⟨rfl, rfl, rfl, Nat.le_refl _, fun _ _ => rfl⟩
          refine ⟨rfl, hK _ _ (Kp.of_below HBB.out) ?_⟩
          clear hK K
          have HCn : Hid (∀ jj u, ([.int .i64 x, .slice av lv cv] : List Value)[jj]? = some u → (W.alloc (.cells #[.int .i64 x, .slice av lv cv] 81)).drew.cell? (Addr.add ⟨W.heap.size, 0, none⟩ jj) = some u) := cells_two W x (.slice av lv cv) 81
          have hsn : W.heap.size < (W.alloc (.cells #[.int .i64 x, .slice av lv cv] 81)).drew.heap.size := by show W.heap.size < (W.alloc (.cells #[.int .i64 x, .slice av lv cv] 81)).heap.size; simp
          generalize (W.alloc (.cells #[.int .i64 x, .slice av lv cv] 81)).drew = wA at *
          refine mixO_cons (lq := []) rfl (by simp only [pickO, List.getElem?_cons_zero, List.getElem?_cons_succ]; exact rfl) ?_
          refine wpQuiet_nil ?_
          intro K hK
          go_wp2_with fail
          refine Calls.mono (clone_cho (n := n) (L := L) (X := X) (CW.out.keep (Kp.of_below (b1 := bb) (b2 := bb + 1) HBB.out) (by omega) (by omega)) (HRc.out.wide hi) (by omega) (HL.out.lists (IW.out.up HBB.out).below)) ?_
          rintro e w3 ⟨v', rfl, ho2⟩
          have HO3 := hid ho2
          have HCE : Hid (∀ jj u, ([.int .i64 x, .slice av lv cv] : List Value)[jj]? = some u → w3.cell? (Addr.add ⟨W.heap.size, 0, none⟩ jj) = some u) := fun jj u hj => by
            rw [Addr.add_lit, ho2.2.cell (show W.heap.size < _ from hsn), ← Addr.add_lit]
            exact HCn.out jj u hj
          have HB3 : Hid (Below W.heap.size W w3) := HBB.out.trans (ho2.2.mono HBB.out.size)
          clear ho2
          go_wp2
          refine ⟨rfl, hK _ _ (Kp.of_below HB3.out) ?_⟩
          clear hK K
          refine mixO_cons (lq := []) rfl (by simp only [pickO, List.getElem?_cons_zero, List.getElem?_cons_succ]; exact rfl) ?_
          refine wpQuiet_nil ?_
          intro K hK
          go_wp2_with (at_builtin; go_must (refine wpList_append_own _ rfl (.tmp 25) (.tmp 27) 103 rfl wA.heap.size 81 ii (.agg #[.int .i64 0, .slice none 0 0]) 2 32 Tryz.underlying103 hii hz0 hz1 hz2 rfl (by decide) _ _ _ rfl HO3.out.1 ⟨_, 0, none⟩ 1 1 [.int .i64 x, .slice av lv cv] rfl rfl HCE.out (by intro u hu; simp at hu; rcases hu with rfl | rfl <;> rfl) (by unfold maxLen; omega) (by omega) (by have := HO3.out.2.size; omega) ?_; intro v1 w4 ho4 hg4 _; have HO4 := hid ho4; have HG4 := hid hg4; clear ho4 hg4))
          have O4 : Hid (OwnS wA w4 v1 (c.length + 1) (tak N (c ++ [i + j])) (tak V (c ++ [i + j]))) := HO3.out.pushG HO4.out HG4.out (fun jj hjj => ⟨tak_old _ _ _ _ hjj, tak_old _ _ _ _ hjj⟩) (by rw [tak_new]; exact HXx.out) (by rw [tak_new]; exact HVe.out)
          have HB4 : Hid (Below W.heap.size W w4) := HBB.out.trans (O4.out.2.mono HBB.out.size)
          refine ⟨rfl, hK _ _ (Kp.of_below HB4.out) ?_⟩
          clear hK K
          refine mixO_cons (lq := []) rfl (by simp only [pickO, List.getElem?_cons_zero, List.getElem?_cons_succ]; exact rfl) ?_
          refine wpQuiet_nil ?_
          intro K hK
          go_wp2_with fail
          refine Calls.mono (HIH.out (c ++ [i + j]) (i + j + 1) w4 v1 _ sj (by rw [List.length_append]; simp; omega) (HRc.out.push (Nat.le_add_right i j)) (by omega) (IW.out.up HB4.out) (EW.out.keep (Kp.of_below HB4.out)) (Cho.of_own O4.out (Nat.le_trans (Nat.le_of_lt (by omega : bb + 2 < wr.heap.size + 1)) (Nat.le_trans HWs.out HBB.out.size))) HRt.out) ?_
          rintro e w5 ⟨rfl, h5, k5⟩
          have H5 := hid h5
          have K5 := hid ((Kp.of_below (b1 := bb) (b2 := bb + 1) HB4.out).trans k5)
          clear h5 k5
          go_wp2
          refine ⟨rfl, hK _ _ K5.out ?_⟩
          clear hK K
          refine mixO_nil (lq := []) rfl ?_
          refine wpQuiet_nil ?_
          go_wp2
          go_roundw
          case rel =>
            refine ⟨j + 1, _, by omega, by go_num, H5, KW.out.trans K5.out, ?_⟩
            have hf := Fj.out
            rw [show k - j = (k - (j + 1)) + 1 by omega, fold_next] at hf
            rw [show n - (i + j + 1) = k - (j + 1) by omega]
            exact hf
          case measure => simp only [intOf]; omega
      · have hje : j = k := by omega
        subst hje
        have hfin := Fj.out
        rw [Nat.sub_self, fold_none] at hfin
        have HFin := hid hfin
        clear hfin
        go_wp2
        go_end0
        exact ⟨rfl, by rw [← HFin.out]; exact Ij.out, Kj.out⟩

end

end Go.Proofs.YtajmnlhfnhbleaaGreat
