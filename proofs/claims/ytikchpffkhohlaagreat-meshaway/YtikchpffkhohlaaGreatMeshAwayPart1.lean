/- Several texts of one proof, in their order. -/
import Derived.Test.YtikchpffkhohlaaGreatMeshAwayPart0
import Derived.Test.YtikchpffkhohlaaGreatMSum12

namespace Go.Proofs.YtikchpffkhohlaaGreat

open Go.RowKit CurveMath
set_option linter.unusedVariables false

theorem MsAt.lt {w : World} {g : Nat} {ab : Option Addr} {n cb : Nat} {PV : Nat → Value} {b : Bk} {al : Option Addr} {np cl : Nat} {KV : Nat → Value} {UV : Nat → Nat → Value} {P : Ps} (h : MsAt w g ab n cb PV b al np cl KV UV P) : g < w.heap.size := (Array.getElem?_eq_some_iff.1 h.1).1

theorem PsSl.kel {w : World} {B : Nat} {a : Option Addr} {np c : Nat} {KV : Nat → Value} {UV : Nat → Nat → Value} {P : Ps} (h : PsSl w B (.slice a np c) np KV UV P) : ∀ j, j < np → KeSl w B (KV j) (P.m j) (UV j) (P.t j) := fun j hj => by
  obtain ⟨_, _, _, _, _, _, _, h4⟩ := h.at hj
  exact h4

def awS (P : Ps) (i : Nat) : Ps := ⟨P.th, fun j => if j < i then max (P.rm j) 20 else P.rm j, P.m, P.t⟩
def awK (P : Ps) (KV : Nat → Value) (i j : Nat) : Value := if j < i ∧ P.th j = false then .slice none 0 0 else KV j

structure AwStart (w u w' : World) (gx : Nat) (av : Option Addr) (g np cap : Nat) (KV : Nat → Value) (P : Ps) : Prop where
  below : Below w.heap.size w w'
  low : Below u.heap.size u w'
  box : w'.heap[gx]? = some (.cells #[.slice none 0 0, .slice none 0 0] 27 (0, 0))
  g_ : 1 ≤ np → av = some ⟨g, 0, none⟩ ∧ w.heap.size ≤ g ∧ u.heap.size ≤ g ∧ g ≠ gx
  gx_ : w.heap.size ≤ gx ∧ u.heap.size ≤ gx
  cap_ : np ≤ cap
  row : RowP w' g np KV P

section

variable {w u U0 U1 w' : World} {gx : Nat} {av : Option Addr} {g np cap : Nat} {KV : Nat → Value} {P : Ps}

theorem AwStart.clone_first {g0 : Nat} {ab : Option Addr} {n cb : Nat} {PV : Nat → Value} {b : Bk} {al : Option Addr} {cl : Nat} {UV : Nat → Nat → Value} (hA : MsAt u g0 ab n cb PV b al np cl KV UV P) (hB : Below w.heap.size w u) (hD : Below u.heap.size u U1) (hG : 1 ≤ np → av = some ⟨g, 0, none⟩ ∧ u.heap.size ≤ g) (hc : np ≤ cap) (hr : RowP U1 g np KV P) :
    AwStart w u (U1.alloc (.cells #[.slice none 0 0, .slice none 0 0] 27)) U1.heap.size av g np cap KV P := by
  have hb := below_alloc U1 (.cells #[.slice none 0 0, .slice none 0 0] 27)
  have h1 := hB.size
  have h2 := hD.size
  have h3 := hr.lt
  refine ⟨hB.trans ((hD.mono h1).trans (hb.mono (by omega))), hD.trans (hb.mono h2), heap_alloc_new _ _, fun h => ?_, by omega, hc, hr.up hb⟩
  obtain ⟨e1, e2⟩ := hG h
  exact ⟨e1, by omega, by omega, by omega⟩

theorem AwStart.box_first {g0 : Nat} {ab : Option Addr} {n cb : Nat} {PV : Nat → Value} {b : Bk} {al : Option Addr} {cl : Nat} {UV : Nat → Nat → Value} (hA : MsAt u g0 ab n cb PV b al np cl KV UV P) (hB : Below w.heap.size w u) (hD : Below u.heap.size u U0) (hD2 : Below u.heap.size u U1) (hk : U1.heap[U0.heap.size]? = some (.cells #[.slice none 0 0, .slice none 0 0] 27 (0, 0))) (hG : 1 ≤ np → av = some ⟨g, 0, none⟩ ∧ U0.heap.size < g) (hc : np ≤ cap) (hr : RowP U1 g np KV P) :
    AwStart w u U1 U0.heap.size av g np cap KV P := by
  have h1 := hB.size
  have h2 := hD.size
  refine ⟨hB.trans (hD2.mono h1), hD2, hk, fun h => ?_, by omega, hc, hr⟩
  obtain ⟨e1, e2⟩ := hG h
  exact ⟨e1, by omega, by omega, by omega⟩

theorem AwStart.cells (h : AwStart w u w' gx av g np cap KV P) : w'.cell? ⟨gx, 0, none⟩ = some (.slice none 0 0) ∧ w'.cell? ⟨gx, 1, none⟩ = some (.slice none 0 0) ∧ w'.frozen? ⟨gx, 0, none⟩ = false ∧ w'.frozen? ⟨gx, 1, none⟩ = false :=
  ⟨(two_at h.box).1, (two_at h.box).2, frozen_at h.box, frozen_at h.box⟩

structure AwInv (w u wr : World) (gx : Nat) (x0 : Value) (av : Option Addr) (g np cap : Nat) (KV : Nat → Value) (P : Ps) (i : Nat) : Prop where
  below : Below w.heap.size w wr
  low : Below u.heap.size u wr
  box : wr.heap[gx]? = some (.cells #[x0, .slice av np cap] 27 (0, 0))
  row : RowP wr g np (awK P KV i) (awS P i)

theorem AwStart.start {x0 : Value} (h : AwStart w u w' gx av g np cap KV P) : AwInv w u (put2 w' gx x0 (.slice av np cap)) gx x0 av g np cap KV P 0 := by
  have e1 : awK P KV 0 = KV := by funext j; unfold awK; rw [if_neg (fun q => Nat.not_lt_zero _ q.1)]
  have e2 : awS P 0 = P := by unfold awS; simp
  refine ⟨put2_below h.below h.gx_.1, put2_below h.low h.gx_.2, put2_whole h.box _ _, ?_⟩
  rw [e1, e2]
  refine ⟨fun k hk => ?_, fun i hi => by unfold put2; rw [frozen_set, frozen_set]; exact h.row.free i hi, by rw [put2_size]; exact h.row.lt⟩
  obtain ⟨_, _, _, hne⟩ := h.g_ (by omega)
  obtain ⟨q1, q2, q3⟩ := h.row.cell k hk
  unfold put2
  exact ⟨by rw [cell_set_lit (Or.inl hne), cell_set_lit (Or.inl hne)]; exact q1, by rw [cell_set_lit (Or.inl hne), cell_set_lit (Or.inl hne)]; exact q2, by rw [cell_set_lit (Or.inl hne), cell_set_lit (Or.inl hne)]; exact q3⟩

variable {wr : World} {x0 : Value} {i : Nat}

theorem AwInv.up (h : AwInv w u wr gx x0 av g np cap KV P i) (hb : Below wr.heap.size wr w') : AwInv w u w' gx x0 av g np cap KV P i :=
  ⟨h.below.trans (hb.mono h.below.size), h.low.trans (hb.mono h.low.size), stayB h.box hb, h.row.up hb⟩

theorem AwInv.cells (h : AwInv w u wr gx x0 av g np cap KV P i) (hi : i < np) : (wr.cell? ⟨gx, 0, none⟩ = some x0 ∧ wr.cell? ⟨gx, 1, none⟩ = some (.slice av np cap)) ∧ (wr.cell? ⟨g, i * 3, none⟩ = some (.bool (P.th i)) ∧ wr.cell? ⟨g, i * 3 + 1, none⟩ = some (.int .i64 (P.rm i)) ∧ wr.cell? ⟨g, i * 3 + 2, none⟩ = some (KV i)) ∧ wr.frozen? ⟨g, i * 3 + 1, none⟩ = false ∧ wr.frozen? ⟨g, i * 3 + 2, none⟩ = false := by
  obtain ⟨q1, q2, q3⟩ := h.row.cell i hi
  refine ⟨two_at h.box, ⟨q1, ?_, ?_⟩, h.row.free _ (by omega), h.row.free _ (by omega)⟩
  · simp only [awS, if_neg (Nat.lt_irrefl i)] at q2
    exact q2
  · unfold awK at q3
    rw [if_neg (fun q => Nat.lt_irrefl i q.1)] at q3
    exact q3

theorem RowP.room {wr : World} {g np q : Nat} {KV : Nat → Value} {P P' : Ps} (h : RowP wr g np KV P) (hq : q < np) (r : Int) (e1 : ∀ k, k < np → P'.th k = P.th k) (e2 : ∀ k, k < np → P'.rm k = if k = q then r else P.rm k) : RowP (wr.setCell ⟨g, q * 3 + 1, none⟩ (.int .i64 r)) g np KV P' :=
  ⟨fun k hk => by
    obtain ⟨h1, h2, h3⟩ := h.cell k hk
    rw [e1 k hk, e2 k hk]
    refine ⟨by rw [cell_set_lit (Or.inr (by omega))]; exact h1, ?_, by rw [cell_set_lit (Or.inr (by omega))]; exact h3⟩
    by_cases e : k = q
    · subst e; rw [if_pos rfl]; exact cell_set_same h2 _
    · rw [if_neg e, cell_set_lit (Or.inr (by omega))]; exact h2,
   fun i hi => by rw [frozen_set]; exact h.free i hi, by simpa [World.setCell] using h.lt⟩

theorem AwInv.stepT (h : AwInv w u wr gx x0 av g np cap KV P i) (hi : i < np) (hg : w.heap.size ≤ g ∧ u.heap.size ≤ g ∧ g ≠ gx) (ht : P.th i = true) {r : Int} (hr : r = max (P.rm i) 20) : AwInv w u (wr.setCell ⟨g, i * 3 + 1, none⟩ (.int .i64 r)) gx x0 av g np cap KV P (i + 1) := by
  have eK : awK P KV (i + 1) = awK P KV i := by
    funext j
    unfold awK
    by_cases c : j < i ∧ P.th j = false
    · rw [if_pos c, if_pos ⟨by omega, c.2⟩]
    · rw [if_neg c, if_neg]
      rintro ⟨c1, c2⟩
      by_cases e : j = i
      · subst e; rw [ht] at c2; cases c2
      · exact c ⟨by omega, c2⟩
  refine ⟨h.below.setCell (p := ⟨g, i * 3 + 1, none⟩) hg.1 _, h.low.setCell (p := ⟨g, i * 3 + 1, none⟩) hg.2.1 _, ?_, ?_⟩
  · rw [Below.heap_setCell _ _ _ _ (by show gx ≠ g; exact fun e => hg.2.2 e.symm)]; exact h.box
  · rw [eK]
    refine h.row.room hi r (fun _ _ => rfl) fun k hk => ?_
    simp only [awS]
    by_cases e : k = i
    · subst e; rw [if_pos (by omega), if_pos rfl, hr]
    · rw [if_neg e]
      by_cases c : k < i
      · rw [if_pos (by omega), if_pos c]
      · rw [if_neg (by omega), if_neg c]

theorem AwInv.stepF (h : AwInv w u wr gx x0 av g np cap KV P i) (hi : i < np) (hg : w.heap.size ≤ g ∧ u.heap.size ≤ g ∧ g ≠ gx) (ht : P.th i = false) {r : Int} (hr : r = max (P.rm i) 20) : AwInv w u ((wr.setCell ⟨g, i * 3 + 2, none⟩ (.slice none 0 0)).setCell ⟨g, i * 3 + 1, none⟩ (.int .i64 r)) gx x0 av g np cap KV P (i + 1) := by
  have eK : awK P KV (i + 1) = fun j => if j = i then .slice none 0 0 else awK P KV i j := by
    funext j
    unfold awK
    by_cases e : j = i
    · subst e; rw [if_pos ⟨by omega, ht⟩, if_pos rfl]
    · rw [if_neg e]
      by_cases c : j < i ∧ P.th j = false
      · rw [if_pos c, if_pos ⟨by omega, c.2⟩]
      · rw [if_neg c, if_neg (fun q => c ⟨by omega, q.2⟩)]
  refine ⟨(h.below.setCell (p := ⟨g, i * 3 + 2, none⟩) hg.1 _).setCell (p := ⟨g, i * 3 + 1, none⟩) hg.1 _, (h.low.setCell (p := ⟨g, i * 3 + 2, none⟩) hg.2.1 _).setCell (p := ⟨g, i * 3 + 1, none⟩) hg.2.1 _, ?_, ?_⟩
  · rw [Below.heap_setCell _ _ _ _ (by show gx ≠ g; exact fun e => hg.2.2 e.symm), Below.heap_setCell _ _ _ _ (by show gx ≠ g; exact fun e => hg.2.2 e.symm)]; exact h.box
  · rw [eK]
    refine (h.row.put hi (.slice none 0 0) (P' := awS P i) (fun _ _ => rfl) (fun _ _ => rfl)).room hi r (fun _ _ => rfl) fun k hk => ?_
    simp only [awS]
    by_cases e : k = i
    · subst e; rw [if_pos (by omega), if_pos rfl, hr]
    · rw [if_neg e]
      by_cases c : k < i
      · rw [if_pos (by omega), if_pos c]
      · rw [if_neg (by omega), if_neg c]

theorem AwInv.fin {UV : Nat → Nat → Value} (h : AwInv w u wr gx x0 av g np cap KV P np) (ha : 1 ≤ np → av = some ⟨g, 0, none⟩) (hc : np ≤ cap) (h8 : np ≤ 8) (hk : ∀ j, j < np → KeSl w w.heap.size (KV j) (P.m j) (UV j) (P.t j)) : PsSl wr wr.heap.size (.slice av np cap) np (awK P KV np) UV (awayP P) := by
  have hr : RowP wr g np (awK P KV np) (awayP P) := ⟨fun k hk => by
    obtain ⟨q1, q2, q3⟩ := h.row.cell k hk
    simp only [awS, if_pos hk] at q2
    exact ⟨q1, q2, q3⟩, h.row.free, h.row.lt⟩
  refine hr.sl ha hc (by omega) fun k hk' => ?_
  show KeSl wr wr.heap.size (awK P KV np k) (if P.th k = true then P.m k else 0) (UV k) (P.t k)
  unfold awK
  by_cases c : P.th k = true
  · rw [if_pos c, if_neg (fun q => by rw [c] at q; cases q.2)]
    exact ((hk k hk').below h.below).mono h.below.size
  · rw [if_neg c, if_pos ⟨hk', by simpa using c⟩]
    exact ⟨none, 0, rfl, ⟨Nat.le_refl _, by omega⟩, Or.inl rfl⟩

end

end Go.Proofs.YtikchpffkhohlaaGreat
