/- Several texts of one proof, in their order. -/
import Derived.Test.YtjfnpjmhippdoafGreatFinds22
import Derived.Test.YtjfnpjmhippdoafGreatFinds5

/- A mesh copied whole: its memory, as far as it has come. -/
namespace Go.Proofs.YtjfnpjmhippdoafGreat

open Go.RowKit Go.Maps CurveMath
set_option linter.unusedVariables false

/-- the mesh's box, what is answered, the copy's box -/
structure WmInv (w wr : World) (ab : Option Addr) (n cb : Nat) (al : Option Addr) (np cl gv gp gc T0 : Nat) : Prop where
  below : Below w.heap.size w wr
  box : wr.heap[w.heap.size]? = some (.cells #[.slice ab n cb, .slice al np cl] 27 (0, 0))
  out : wr.heap[w.heap.size + 1]? = some (.cells #[.slice none 0 0, .slice none 0 0] 27 (0, 0))
  cc : wr.heap[gc]? = some (.cells #[.slice (some ⟨gv, 0, none⟩) n n, .slice (some ⟨gp, 0, none⟩) np np] 27 (0, 0))
  ge : w.heap.size + 1 < gv ∧ w.heap.size + 1 < gp ∧ w.heap.size + 1 < gc
  ne : gv ≠ gp ∧ gv ≠ gc ∧ gp ≠ gc
  top : gv < T0 ∧ gp < T0 ∧ gc < T0

section

variable {w wr w' : World} {ab : Option Addr} {n cb : Nat} {al : Option Addr} {np cl gv gp gc T0 : Nat} {b : Bk} {P : Ps}

theorem WmInv.belowB (h : WmInv w wr ab n cb al np cl gv gp gc T0) {B : Nat} (hb : Below B wr w') (hB : T0 ≤ B) : WmInv w w' ab n cb al np cl gv gp gc T0 := by
  obtain ⟨g1, g2, g3⟩ := h.ge
  obtain ⟨t1, t2, t3⟩ := h.top
  exact ⟨h.below.trans (hb.mono (by omega)), by rw [hb.block _ (by omega)]; exact h.box, by rw [hb.block _ (by omega)]; exact h.out, by rw [hb.block _ (by omega)]; exact h.cc, h.ge, h.ne, h.top⟩

theorem WmInv.set (h : WmInv w wr ab n cb al np cl gv gp gc T0) {g o : Nat} (hg : w.heap.size + 1 < g) (hc : gc ≠ g) (u : Value) : WmInv w (wr.setCell ⟨g, o, none⟩ u) ab n cb al np cl gv gp gc T0 := by
  refine ⟨h.below.setCell (p := ⟨g, o, none⟩) (by show w.heap.size ≤ g; omega) u, ?_, ?_, ?_, h.ge, h.ne, h.top⟩
  · rw [Below.heap_setCell _ _ _ _ (by show w.heap.size ≠ g; omega)]; exact h.box
  · rw [Below.heap_setCell _ _ _ _ (by show w.heap.size + 1 ≠ g; omega)]; exact h.out
  · rw [Below.heap_setCell _ _ _ _ (by show gc ≠ g; exact hc)]; exact h.cc

theorem set_size {w : World} {a : Addr} {u : Value} : (w.setCell a u).heap.size = w.heap.size := by simp [World.setCell]

/-- the first k versions are copied -/
structure W1Inv (w wr : World) (ab : Option Addr) (n cb : Nat) (al : Option Addr) (np cl gv gp gc T0 : Nat) (b : Bk) (k : Nat) (QV : Nat → Value) : Prop where
  base : WmInv w wr ab n cb al np cl gv gp gc T0
  row : CRow wr gv 60 (n * 4) (k * 4) (cellV QV b)
  prow : CRow wr gp 45 (np * 3) 0 (fun _ => undef)
  lists : ∀ j, j < k → IntSl wr wr.heap.size (QV j) (b.PL j) (b.PX j) ∧ Above T0 (QV j)
  le : T0 ≤ wr.heap.size

theorem W1Inv.up {k : Nat} {QV : Nat → Value} (h : W1Inv w wr ab n cb al np cl gv gp gc T0 b k QV) (hb : Below wr.heap.size wr w') : W1Inv w w' ab n cb al np cl gv gp gc T0 b k QV :=
  ⟨h.base.belowB hb h.le, h.row.up hb, h.prow.up hb, fun j hj => ⟨(h.lists j hj).1.up hb, (h.lists j hj).2⟩, Nat.le_trans h.le hb.size⟩

theorem W1Inv.push {k : Nat} {QV : Nat → Value} {pv : Value} (h : W1Inv w wr ab n cb al np cl gv gp gc T0 b k QV) (hk : k < n) (hl : IntSl wr wr.heap.size pv (b.PL k) (b.PX k)) (ha : Above T0 pv) :
    W1Inv w (put4 wr gv (k * 4) pv (.int .i64 (b.nd k)) (.int .i64 (b.of k)) (.int .i64 (b.sz k))) ab n cb al np cl gv gp gc T0 b (k + 1) (fun j => if j = k then pv else QV j) := by
  obtain ⟨g1, g2, g3⟩ := h.base.ge
  obtain ⟨n1, n2, n3⟩ := h.base.ne
  obtain ⟨t1, t2, t3⟩ := h.base.top
  have hr : CRow wr gv 60 (n * 4) (k * 4) (cellV (fun j => if j = k then pv else QV j) b) := h.row.congr (cellV_cong fun j hj => by rw [if_neg (by omega)])
  obtain ⟨e0, e1, e2, e3⟩ := cellV_at (PV := fun j => if j = k then pv else QV j) (b := b) (k := k)
  refine ⟨?_, ?_, ?_, fun j hj => ?_, by rw [put4_size]; exact h.le⟩
  · unfold put4
    exact (((h.base.set g1 (Ne.symm n2) _).set g1 (Ne.symm n2) _).set g1 (Ne.symm n2) _).set g1 (Ne.symm n2) _
  · unfold put4
    exact hr.four (by omega) (by rw [e0]; simp) e1.symm e2.symm e3.symm
  · unfold put4
    exact (((h.prow.other (Ne.symm n1) _).other (Ne.symm n1) _).other (Ne.symm n1) _).other (Ne.symm n1) _
  · by_cases e : j = k
    · subst e
      simp only [if_true]
      exact ⟨hl.put4 (ha.mono' (by omega)) _ _ _ _, ha⟩
    · simp only [if_neg e]
      obtain ⟨x1, x2⟩ := h.lists j (by omega)
      exact ⟨x1.put4 (x2.mono' (by omega)) _ _ _ _, x2⟩

/-- the first k peers are copied; all lists lie below block B -/
structure W2Inv (w wr : World) (B : Nat) (ab : Option Addr) (n cb : Nat) (al : Option Addr) (np cl gv gp gc T0 : Nat) (b : Bk) (P : Ps) (QV : Nat → Value) (k kr : Nat) (LV : Nat → Value) (VV : Nat → Nat → Value) : Prop where
  base : WmInv w wr ab n cb al np cl gv gp gc T0
  ver : VeSl wr B (.slice (some ⟨gv, 0, none⟩) n n) n QV b
  verA : ∀ j, j < n → Above T0 (QV j)
  row : CRow wr gp 45 (np * 3) (kr * 3) (cellP LV P)
  kept : ∀ j, j < k → KeSl wr B (LV j) (P.m j) (VV j) (P.t j) ∧ NewB T0 B wr (LV j) ∧ ∀ i, i < P.m j → NewB T0 B wr (VV j i)
  le : T0 ≤ B ∧ B ≤ wr.heap.size

theorem W2Inv.belowB {B k kr : Nat} {QV LV : Nat → Value} {VV : Nat → Nat → Value} (h : W2Inv w wr B ab n cb al np cl gv gp gc T0 b P QV k kr LV VV) (hb : Below B wr w') : W2Inv w w' B ab n cb al np cl gv gp gc T0 b P QV k kr LV VV := by
  obtain ⟨t1, t2, t3⟩ := h.base.top
  obtain ⟨l1, l2⟩ := h.le
  exact ⟨h.base.belowB hb l1, h.ver.below hb, h.verA, h.row.below hb (by omega), fun j hj => ⟨(h.kept j hj).1.below hb, (h.kept j hj).2.1.below hb, fun i hi => ((h.kept j hj).2.2 i hi).below hb⟩, l1, Nat.le_trans l2 hb.size⟩

theorem W2Inv.mono {B B' k kr : Nat} {QV LV : Nat → Value} {VV : Nat → Nat → Value} (h : W2Inv w wr B ab n cb al np cl gv gp gc T0 b P QV k kr LV VV) (hb : B ≤ B') (hs : B' ≤ wr.heap.size) : W2Inv w wr B' ab n cb al np cl gv gp gc T0 b P QV k kr LV VV :=
  ⟨h.base, h.ver.mono hb, h.verA, h.row, fun j hj => ⟨(h.kept j hj).1.mono hb, (h.kept j hj).2.1.mono hb, fun i hi => ((h.kept j hj).2.2 i hi).mono hb⟩, Nat.le_trans h.le.1 hb, hs⟩

theorem W2Inv.up {k kr : Nat} {QV LV : Nat → Value} {VV : Nat → Nat → Value} (h : W2Inv w wr wr.heap.size ab n cb al np cl gv gp gc T0 b P QV k kr LV VV) (hb : Below wr.heap.size wr w') : W2Inv w w' w'.heap.size ab n cb al np cl gv gp gc T0 b P QV k kr LV VV :=
  (h.belowB hb).mono hb.size (Nat.le_refl _)

/-- peer k's cells are written -/
theorem W2Inv.cells {B k : Nat} {QV LV : Nat → Value} {VV : Nat → Nat → Value} {u : Value} (h : W2Inv w wr B ab n cb al np cl gv gp gc T0 b P QV k k LV VV) (hk : k < np) :
    W2Inv w (((wr.setCell ⟨gp, k * 3, none⟩ (.bool (P.th k))).setCell ⟨gp, k * 3 + 1, none⟩ (.int .i64 (P.rm k))).setCell ⟨gp, k * 3 + 2, none⟩ u) B ab n cb al np cl gv gp gc T0 b P QV k (k + 1) (fun j => if j = k then u else LV j) VV := by
  obtain ⟨g1, g2, g3⟩ := h.base.ge
  obtain ⟨n1, n2, n3⟩ := h.base.ne
  obtain ⟨t1, t2, t3⟩ := h.base.top
  have hr : CRow wr gp 45 (np * 3) (k * 3) (cellP (fun j => if j = k then u else LV j) P) := h.row.congr (cellP_cong fun j hj => by rw [if_neg (by omega)])
  obtain ⟨e0, e1, e2⟩ := cellP_at (KV := fun j => if j = k then u else LV j) (P := P) (k := k)
  have hA : ∀ j, j < n → Above (gp + 1) (QV j) := fun j hj => (h.verA j hj).mono' (by omega)
  refine ⟨((h.base.set g2 (Ne.symm n3) _).set g2 (Ne.symm n3) _).set g2 (Ne.symm n3) _, ((h.ver.ahead n1 hA _).ahead n1 hA _).ahead n1 hA _, h.verA, hr.three (by omega) e0.symm e1.symm (by rw [e2]; simp), fun j hj => ?_, h.le.1, by rw [set_size, set_size, set_size]; exact h.le.2⟩
  simp only [if_neg (show ¬ j = k by omega)]
  obtain ⟨x1, x2, x3⟩ := h.kept j hj
  have y1 : Above (gp + 1) (LV j) := x2.above.mono' (by omega)
  have y2 : ∀ i, i < P.m j → Above (gp + 1) (VV j i) := fun i hi => (x3 i hi).above.mono' (by omega)
  exact ⟨((x1.ahead y1 y2 _).ahead y1 y2 _).ahead y1 y2 _, ((x2.set _ _).set _ _).set _ _, fun i hi => (((x3 i hi).set _ _).set _ _).set _ _⟩

/-- peer k's list is filled -/
theorem W2Inv.next {B k gk : Nat} {QV LV : Nat → Value} {VV : Nat → Nat → Value} {UK : Nat → Value} (h : W2Inv w wr B ab n cb al np cl gv gp gc T0 b P QV k (k + 1) LV VV) (hB : B ≤ gk) (hL : LV k = .slice (some ⟨gk, 0, none⟩) (P.m k) (P.m k)) (hr : P.m k * 40 ≤ 140737488351232)
    (hrow : CRow wr gk 50 (P.m k * 3) (P.m k * 3) (cellK UK (P.t k))) (hl : ∀ j, j < P.m k → IntSl wr wr.heap.size (UK j) ((P.t k).L j) ((P.t k).X j) ∧ NewB T0 wr.heap.size wr (UK j)) :
    W2Inv w wr wr.heap.size ab n cb al np cl gv gp gc T0 b P QV (k + 1) (k + 1) LV (fun j => if j = k then UK else VV j) := by
  have h2 := h.mono h.le.2 (Nat.le_refl _)
  have l1 := h.le.1
  refine ⟨h2.base, h2.ver, h2.verA, h2.row, fun j hj => ?_, h2.le⟩
  by_cases e : j = k
  · subst e
    simp only [if_true]
    rw [hL]
    refine ⟨hrow.kel hr fun i hi => (hl i hi).1, fun ad n' c' e => ?_, fun i hi => (hl i hi).2⟩
    injection e with e
    injection e with e
    subst e
    exact ⟨by show T0 ≤ gk; omega, hrow.lt, fun i => hrow.free i⟩
  · simp only [if_neg e]
    exact h2.kept j (by omega)

end

/-- what 'whole' leaves -/
def WmPost (w : World) (n : Nat) (b : Bk) (np : Nat) (P : Ps) (e : Ending) (w' : World) : Prop :=
  Below w.heap.size w w' ∧ ∃ (gv gp : Nat) (QV LV : Nat → Value) (VV : Nat → Nat → Value), e = .returned (meshV (.slice (some ⟨gv, 0, none⟩) n n) (.slice (some ⟨gp, 0, none⟩) np np)) ∧ w.heap.size ≤ gv ∧ w.heap.size ≤ gp ∧ gv ≠ gp ∧
    VeSl w' w'.heap.size (.slice (some ⟨gv, 0, none⟩) n n) n QV b ∧ RowP w' gp np LV P ∧ NewV w.heap.size w' (.slice (some ⟨gp, 0, none⟩) np np) ∧
    ∀ k, k < np → KeSl w' w'.heap.size (LV k) (P.m k) (VV k) (P.t k) ∧ NewV w.heap.size w' (LV k) ∧ ∀ i, i < P.m k → NewV w.heap.size w' (VV k i)

theorem W2Inv.fin {w wr : World} {ab : Option Addr} {n cb : Nat} {al : Option Addr} {np cl gv gp gc T0 : Nat} {b : Bk} {P : Ps} {QV LV : Nat → Value} {VV : Nat → Nat → Value} (h : W2Inv w wr wr.heap.size ab n cb al np cl gv gp gc T0 b P QV np np LV VV) :
    WmPost w n b np P (.returned (.agg #[.slice (some ⟨gv, 0, none⟩) n n, .slice (some ⟨gp, 0, none⟩) np np])) (put2 wr (w.heap.size + 1) (.slice (some ⟨gv, 0, none⟩) n n) (.slice (some ⟨gp, 0, none⟩) np np)) := by
  obtain ⟨g1, g2, g3⟩ := h.base.ge
  obtain ⟨n1, n2, n3⟩ := h.base.ne
  obtain ⟨t1, t2, t3⟩ := h.base.top
  have hs : w.heap.size + 2 ≤ T0 := by omega
  have hA : ∀ j, j < n → Above (w.heap.size + 1 + 1) (QV j) := fun j hj => (h.verA j hj).mono' (by omega)
  have hr : CRow (put2 wr (w.heap.size + 1) (.slice (some ⟨gv, 0, none⟩) n n) (.slice (some ⟨gp, 0, none⟩) np np)) gp 45 (np * 3) (np * 3) (cellP LV P) := (h.row.other (by omega) _).other (by omega) _
  refine ⟨put2_below h.base.below (by omega), gv, gp, QV, LV, VV, rfl, by omega, by omega, n1, ?_, hr.rowP, hr.newV (by omega), fun k hk => ?_⟩
  · rw [put2_size]
    exact (h.ver.ahead (by omega) hA _).ahead (by omega) hA _
  · obtain ⟨x1, x2, x3⟩ := h.kept k hk
    have y1 : Above (w.heap.size + 1 + 1) (LV k) := x2.above.mono' (by omega)
    have y2 : ∀ i, i < P.m k → Above (w.heap.size + 1 + 1) (VV k i) := fun i hi => (x3 i hi).above.mono' (by omega)
    refine ⟨?_, ?_, fun i hi => ?_⟩
    · rw [put2_size]; exact (x1.ahead y1 y2 _).ahead y1 y2 _
    · exact ((x2.set _ _).set _ _).newV (by rw [← set_size (a := ⟨w.heap.size + 1, 0, none⟩) (u := .slice (some ⟨gv, 0, none⟩) n n), ← set_size (a := ⟨w.heap.size + 1, 1, none⟩) (u := .slice (some ⟨gp, 0, none⟩) np np)]; exact Nat.le_refl _) (by omega)
    · exact (((x3 i hi).set _ _).set _ _).newV (by rw [← set_size (a := ⟨w.heap.size + 1, 0, none⟩) (u := .slice (some ⟨gv, 0, none⟩) n n), ← set_size (a := ⟨w.heap.size + 1, 1, none⟩) (u := .slice (some ⟨gp, 0, none⟩) np np)]; exact Nat.le_refl _) (by omega)

end Go.Proofs.YtjfnpjmhippdoafGreat

/- As MixedTree and MixedTreeLast, where what all orders come to is told once, and the rest is walked once. Plain: it speaks of no program. -/
namespace Go.Proofs.YtjfnpjmhippdoafGreat

set_option linter.unusedVariables false

variable {P : Program} {D : World → Prop}

theorem anyL_mono {md : Region.Mode} {ops : Array Oper} {sE : Array Bool} {R R' : Act → World → Prop} (hR : ∀ a w, R a w → R' a w) : ∀ (f : Nat) (seen : Array Bool) (a : Act) (w : World), anyL P md ops D sE R f seen a w → anyL P md ops D sE R' f seen a w := by
  intro f
  induction f with
  | zero => intro seen a w h; exact ⟨h.1, hR _ _ h.2⟩
  | succ f ih => intro seen a w h; exact ⟨h.1, fun i hi => wpOp_ends (fun a' w' h' => ⟨h'.1, ih _ a' w' h'.2⟩) (h.2 i hi)⟩

/-- what all orders come to ahead of the last operation, R; the rest from there -/
theorem region_tree_to {id : Nat} {Q : Exit → Act → World → Prop} {a : Act} {w : World} {l lc : List Oper} (D : World → Prop) (c : Nat) (sE : Array Bool) (f : Nat) (R : Act → World → Prop) (hm : P.follows .mixedOrders = true) (hE : Region.ready .any l.toArray sE = [c]) (hE2 : Region.ready .any l.toArray (sE.setIfInBounds c true) = []) (hf : f + 1 = l.length) (hc : pickO l [c] = lc) (hcs : (l[c]?).isSome = true)
    (h : anyL P .any l.toArray D sE R f (Array.replicate l.length false) a w.drew) (hR : ∀ a' w', R a' w' → wpList P l.toArray Q lc a' w') : (Code.region id l.toArray true).wp P Q a w :=
  region_tree_last D c sE f hm hE hE2 hf hc hcs (anyL_mono hR _ _ _ _ h)

end Go.Proofs.YtjfnpjmhippdoafGreat
