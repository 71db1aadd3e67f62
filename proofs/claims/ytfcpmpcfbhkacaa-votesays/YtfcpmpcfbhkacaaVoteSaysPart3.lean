/- Several texts of one proof, in their order. -/
import Derived.Test.YtfcpmpcfbhkacaaVb34
import Derived.Test.YtfcpmpcfbhkacaaVoteSaysPart0
import Derived.Test.YtfcpmpcfbhkacaaVoteSaysPart2

/- What the law VoteFinds keeps in memory: the picked shares, of which the first ones are bent one by one, and who is bent. -/
namespace Go.Proofs.Ytfcpmpcfbhkacaa

open Go.RowKit CurveMath
set_option linter.unusedVariables false

/-- a list that does not lie in block g -/
def OffB (g : Nat) (v : Value) : Prop := v.ownBlock ≠ some g

structure FInv (w3 wr : World) (g c base R : Nat) (O : Nat → Nat) (VV : Nat → Value) (XX : Nat → Nat → Int) (vw : Value) (lw : List Int) : Prop where
  below : Below w3.heap.size w3 wr
  gw : w3.heap.size ≤ g
  gb : g < base
  bs : base ≤ wr.heap.size
  n : ∀ j, j < c → wr.cell? ⟨g, j * 2, none⟩ = some (.int .i64 (O j))
  v : ∀ j, j < c → wr.cell? ⟨g, j * 2 + 1, none⟩ = some (VV j)
  f : ∀ i, wr.frozen? ⟨g, i, none⟩ = false
  l : ∀ j, j < c → IntSl wr wr.heap.size (VV j) R (XX j)
  og : ∀ j, j < c → OffB g (VV j)
  ow : ∀ j, j < c → Off vw (VV j)
  w : wr.ownsRow base 3 1 vw lw.length (lw.map (Value.int .i64))

section

variable {w3 wr w' : World} {g c base R : Nat} {O : Nat → Nat} {VV : Nat → Value} {XX : Nat → Nat → Int} {vw : Value} {lw : List Int}

theorem FInv.up (h : FInv w3 wr g c base R O VV XX vw lw) (hb : Below wr.heap.size wr w') : FInv w3 w' g c base R O VV XX vw lw := by
  have hg : g < wr.heap.size := Nat.lt_of_lt_of_le h.gb h.bs
  exact ⟨h.below.trans (hb.mono h.below.size), h.gw, h.gb, Nat.le_trans h.bs hb.size, fun j hj => by rw [hb.cell hg]; exact h.n j hj, fun j hj => by rw [hb.cell hg]; exact h.v j hj, fun i => by rw [hb.frozen hg]; exact h.f i,
    fun j hj => (h.l j hj).up hb, h.og, h.ow, owns_below h.w hb⟩

theorem FInv.grow (h : FInv w3 wr g c base R O VV XX vw lw) (hR : 1 ≤ R) {v1 : Value} {l1 : List Int} (hg : wr.grownBy w' vw.ownBlock) (ho : w'.ownsRow base 3 1 v1 l1.length (l1.map (Value.int .i64))) (hat : v1.ownBlock = vw.ownBlock ∨ v1.ownBlock = some wr.heap.size) :
    FInv w3 w' g c base R O VV XX v1 l1 := by
  have hgl : g < wr.heap.size := Nat.lt_of_lt_of_le h.gb h.bs
  have hne : some g ≠ vw.ownBlock := fun e => by have := (h.w.lt g e.symm).1; have := h.gb; omega
  have hbg := h.gb
  have hbs := h.bs
  refine ⟨h.below.grown hg h.below.size (fun k hk => by have := (h.w.lt k hk).1; have := h.gw; omega), h.gw, h.gb, Nat.le_trans h.bs hg.size, fun j hj => hg.cell (h.n j hj) hne, fun j hj => hg.cell (h.v j hj) hne, fun i => ?_,
    fun j hj => (h.l j hj).grown hg (h.ow j hj), h.og, fun j hj ad nn cc e => ?_, ho⟩
  · rw [World.frozen?_of_block (hg.block g hgl hne)]; exact h.f i
  · rcases hat with e1 | e1
    · rw [e1]; exact h.ow j hj ad nn cc e
    · rw [e1]
      have h2 := h.l j hj
      rw [e] at h2
      obtain ⟨ad2, cap2, e2, _, h3⟩ := h2
      injection e2 with e3
      rcases h3 with h3 | ⟨b, off, e4, h4, _⟩
      · omega
      · rw [← e3] at e4
        injection e4 with e4
        rw [e4]
        intro e5
        injection e5 with e5
        have e6 : b = wr.heap.size := e5
        omega

/-- share k is put in its place anew -/
theorem FInv.put (h : FInv w3 wr g c base R O VV XX vw lw) {k : Nat} (hk : k < c) {vs : Value} {Y : Nat → Int} (hv : IntSl wr wr.heap.size vs R Y) (h1 : OffB g vs) (h2 : Off vw vs) :
    FInv w3 ((wr.setCell ⟨g, k * 2, none⟩ (.int .i64 (O k))).setCell ⟨g, k * 2 + 1, none⟩ vs) g c base R O (fun j => if j = k then vs else VV j) (fun j => if j = k then Y else XX j) vw lw := by
  have hgw := h.gw
  have hgb := h.gb
  have hbs := h.bs
  have sz : ((wr.setCell ⟨g, k * 2, none⟩ (.int .i64 (O k))).setCell ⟨g, k * 2 + 1, none⟩ vs).heap.size = wr.heap.size := by rw [size_set, size_set]
  have c0 : (wr.setCell ⟨g, k * 2, none⟩ (.int .i64 (O k))).cell? ⟨g, k * 2, none⟩ = some (.int .i64 (O k)) := World.cell?_setCell_same _ _ _ (h.n k hk)
  refine ⟨(h.below.setCell (p := ⟨g, k * 2, none⟩) hgw _).setCell (p := ⟨g, k * 2 + 1, none⟩) hgw _, hgw, hgb, by rw [sz]; exact hbs, fun j hj => ?_, fun j hj => ?_, fun i => ?_, fun j hj => ?_, fun j hj => ?_, fun j hj => ?_, ?_⟩
  · rw [World.cell?_setCell_other _ _ _ _ (by intro e; injection e with _ e2; omega)]
    by_cases e : j = k
    · subst e; exact c0
    · rw [World.cell?_setCell_other _ _ _ _ (by intro e3; injection e3 with _ e2; omega)]; exact h.n j hj
  · by_cases e : j = k
    · subst e
      rw [if_pos rfl]
      refine World.cell?_setCell_same _ _ _ (u := VV j) ?_
      rw [World.cell?_setCell_other _ _ _ _ (by intro e3; injection e3 with _ e2; omega)]; exact h.v j hj
    · rw [if_neg e, World.cell?_setCell_other _ _ _ _ (by intro e3; injection e3 with _ e2; omega), World.cell?_setCell_other _ _ _ _ (by intro e3; injection e3 with _ e2; omega)]; exact h.v j hj
  · rw [World.frozen?_setCell, World.frozen?_setCell]; exact h.f i
  · rw [sz]
    by_cases e : j = k
    · rw [if_pos e, if_pos e]; exact (hv.setOff h1 _ _).setOff h1 _ _
    · rw [if_neg e, if_neg e]; exact ((h.l j hj).setOff (h.og j hj) _ _).setOff (h.og j hj) _ _
  · by_cases e : j = k
    · rw [if_pos e]; exact h1
    · rw [if_neg e]; exact h.og j hj
  · by_cases e : j = k
    · rw [if_pos e]; exact h2
    · rw [if_neg e]; exact h.ow j hj
  · exact ownsRow_setCell_below (ownsRow_setCell_below h.w (a := ⟨g, k * 2, none⟩) hgb _) (a := ⟨g, k * 2 + 1, none⟩) hgb _

theorem FInv.congr (h : FInv w3 wr g c base R O VV XX vw lw) {XX' : Nat → Nat → Int} (e : ∀ j, j < c → ∀ r, r < R → XX j r = XX' j r) : FInv w3 wr g c base R O VV XX' vw lw :=
  ⟨h.below, h.gw, h.gb, h.bs, h.n, h.v, h.f, fun j hj => (h.l j hj).congr (e j hj), h.og, h.ow, h.w⟩

theorem FInv.shl (h : FInv w3 wr g c base R O VV XX vw lw) {cap : Nat} (hc : c ≤ cap) (h8 : c ≤ 8) : ShSl wr wr.heap.size (.slice (some ⟨g, 0, none⟩) c cap) c (fun j => (O j : Int)) VV (fun _ => R) XX := by
  have hg : g < wr.heap.size := Nat.lt_of_lt_of_le h.gb h.bs
  refine ⟨_, cap, rfl, ⟨hc, by omega⟩, Or.inr ⟨g, 0, rfl, hg, fun j hj => ?_⟩⟩
  rw [Nat.zero_add]
  exact ⟨h.n j hj, h.v j hj, h.l j hj⟩

end

/-- a share that is written number by number, in a block of its own -/
structure BkInv (w0 wr : World) (x : Int) (vs : Value) (l : List Int) : Prop where
  below : Below w0.heap.size w0 wr
  c : wr.heap[w0.heap.size]? = some (.cells #[.int .i64 x, vs] 27 (0, 0))
  own : wr.ownsRow (w0.heap.size + 1) 3 1 vs l.length (l.map (Value.int .i64))

section

variable {w0 wr w1 : World} {x y : Int} {vs v1 : Value} {l : List Int} {o : Obj}

theorem BkInv.new (w0 : World) (x : Int) : BkInv w0 (w0.alloc (.cells #[.int .i64 x, .slice none 0 0] 27)) x (.slice none 0 0) [] :=
  ⟨below_alloc _ _, heap_alloc_new _ _, World.ownsRow_nil _ _ _ _⟩

theorem BkInv.lt (h : BkInv w0 wr x vs l) : w0.heap.size < wr.heap.size := (Array.getElem?_eq_some_iff.1 h.c).1

theorem BkInv.cells (h : BkInv w0 wr x vs l) : wr.cell? ⟨w0.heap.size, 0, none⟩ = some (.int .i64 x) ∧ wr.cell? ⟨w0.heap.size, 1, none⟩ = some vs := ⟨cell_at h.c rfl, cell_at h.c rfl⟩

/-- behind the growth: the block is as it was -/
theorem BkInv.mid (h : BkInv w0 wr x vs l) (hg : (wr.alloc o).grownBy w1 vs.ownBlock) : w1.heap[w0.heap.size]? = some (.cells #[.int .i64 x, vs] 27 (0, 0)) := by
  have hlt := h.lt
  rw [hg.block w0.heap.size (by simp; omega) (fun e => by have := (h.own.lt _ e.symm).1; omega), Below.heap_alloc _ _ _ hlt]
  exact h.c

theorem BkInv.push (h : BkInv w0 wr x vs l) (hg : (wr.alloc o).grownBy w1 vs.ownBlock) (ho : w1.ownsRow (w0.heap.size + 1) 3 1 v1 (l.length + 1) (l.map (Value.int .i64) ++ [.int .i64 y])) : BkInv w0 (w1.setCell ⟨w0.heap.size, 1, none⟩ v1) x v1 (l ++ [y]) := by
  have hlt := h.lt
  have hm := h.mid hg
  have hbA : Below w0.heap.size w0 (wr.alloc o) := h.below.alloc h.below.size o
  refine ⟨(hbA.grown hg hbA.size (fun k hk => by have := (h.own.lt k hk).1; omega)).setCell (p := ⟨w0.heap.size, 1, none⟩) (Nat.le_refl _) _, ?_, ?_⟩
  · simp [World.setCell, Array.getElem?_modify, hm]
  · rw [List.length_append, List.map_append]
    exact ownsRow_setCell_below ho (a := ⟨w0.heap.size, 1, none⟩) (Nat.lt_succ_self _) _

theorem BkInv.isl (h : BkInv w0 wr x vs l) (hr : l.length * 8 ≤ 140737488351232) : IntSl wr wr.heap.size vs l.length (fun j => l.getD j 0) := own_isl h.own hr

theorem BkInv.up {w' : World} (h : BkInv w0 wr x vs l) (hb : Below wr.heap.size wr w') : BkInv w0 w' x vs l :=
  ⟨h.below.trans (hb.mono h.below.size), by rw [hb.block _ h.lt]; exact h.c, owns_below h.own hb⟩

/-- it lies in no older block -/
theorem BkInv.off (h : BkInv w0 wr x vs l) {b : Nat} (hb : b ≤ w0.heap.size) : vs.ownBlock ≠ some b := fun e => by have := (h.own.lt b e).1; omega

end

end Go.Proofs.Ytfcpmpcfbhkacaa
