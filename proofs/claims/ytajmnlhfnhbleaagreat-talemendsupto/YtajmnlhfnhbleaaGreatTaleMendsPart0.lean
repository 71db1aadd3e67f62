/- Several texts of one proof, in their order. -/
import Derived.Test.YtajmnlhfnhbleaaGreatTSum11
import Derived.Lib.SliceRun

namespace Go.Proofs.YtajmnlhfnhbleaaGreat

open Go.RowKit CurveMath
set_option linter.unusedVariables false

def hapC (x : Hp) (vd vp : Value) : List Value := [.int .i64 x.kd, .int .i64 x.N, .int .i64 x.M, vd, vp, .int .i64 x.need, .int .i64 x.of]
def flatH (DV QV : Nat → Value) (H : Nat → Hp) (n : Nat) : List Value := (List.range n).flatMap fun j => hapC (H j) (DV j) (QV j)

theorem flatH_len (DV QV : Nat → Value) (H : Nat → Hp) : ∀ n, (flatH DV QV H n).length = n * 7 := by
  intro n
  induction n with
  | zero => rfl
  | succ n ih =>
    unfold flatH at ih ⊢
    rw [List.range_succ, List.flatMap_append, List.length_append, ih]
    simp [hapC]
    omega

theorem flatH_get (DV QV : Nat → Value) (H : Nat → Hp) : ∀ n p r, p < n → r < 7 → (flatH DV QV H n)[p * 7 + r]? = (hapC (H p) (DV p) (QV p))[r]? := by
  intro n
  induction n with
  | zero => intro p r h; omega
  | succ n ih =>
    intro p r hp hr
    have hl := flatH_len DV QV H n
    have hi := ih p r
    unfold flatH at hl hi ⊢
    rw [List.range_succ, List.flatMap_append]
    by_cases h : p < n
    · rw [List.getElem?_append_left (by omega)]
      exact hi h hr
    · obtain rfl : p = n := by omega
      rw [List.getElem?_append_right (by omega), hl, Nat.add_sub_cancel_left]
      simp

structure HRow (w wr : World) (g n : Nat) (DV QV : Nat → Value) (H : Nat → Hp) : Prop where
  below : Below w.heap.size w wr
  ge : w.heap.size ≤ g
  cells : ∃ cs T, wr.heap[g]? = some (.cells cs T (0, 0)) ∧ n * 7 ≤ cs.size ∧ ∀ p, p < n → ∀ r, r < 7 → cs[p * 7 + r]? = (hapC (H p) (DV p) (QV p))[r]?

section

variable {w wr w' : World} {g n : Nat} {DV QV : Nat → Value} {H : Nat → Hp}

theorem HRow.up (h : HRow w wr g n DV QV H) (hb : Below wr.heap.size wr w') : HRow w w' g n DV QV H := by
  obtain ⟨cs, T, h1, h2⟩ := h.cells
  exact ⟨h.below.trans (hb.mono h.below.size), h.ge, cs, T, stayB h1 hb, h2⟩

theorem HRow.lt (h : HRow w wr g n DV QV H) : g < wr.heap.size := by
  obtain ⟨cs, T, h1, h2⟩ := h.cells
  exact (Array.getElem?_eq_some_iff.1 h1).1

theorem HRow.at_ (h : HRow w wr g n DV QV H) {p r : Nat} (hp : p < n) (hr : r < 7) {u : Value} (hu : (hapC (H p) (DV p) (QV p))[r]? = some u) : wr.cell? ⟨g, p * 7 + r, none⟩ = some u ∧ wr.frozen? ⟨g, p * 7 + r, none⟩ = false := by
  obtain ⟨cs, T, h1, h2, h3⟩ := h.cells
  exact ⟨cell_at h1 (by rw [h3 p hp r hr]; exact hu), frozen_at h1⟩

theorem HRow.seven (h : HRow w wr g n DV QV H) {p : Nat} (hp : p < n) :
    wr.cell? ⟨g, p * 7, none⟩ = some (.int .i64 (H p).kd) ∧ wr.cell? ⟨g, p * 7 + 1, none⟩ = some (.int .i64 (H p).N) ∧ wr.cell? ⟨g, p * 7 + 2, none⟩ = some (.int .i64 (H p).M) ∧ wr.cell? ⟨g, p * 7 + 3, none⟩ = some (DV p) ∧
      wr.cell? ⟨g, p * 7 + 4, none⟩ = some (QV p) ∧ wr.cell? ⟨g, p * 7 + 5, none⟩ = some (.int .i64 (H p).need) ∧ wr.cell? ⟨g, p * 7 + 6, none⟩ = some (.int .i64 (H p).of) :=
  ⟨(h.at_ hp (r := 0) (by omega) rfl).1, (h.at_ hp (r := 1) (by omega) rfl).1, (h.at_ hp (r := 2) (by omega) rfl).1, (h.at_ hp (r := 3) (by omega) rfl).1, (h.at_ hp (r := 4) (by omega) rfl).1, (h.at_ hp (r := 5) (by omega) rfl).1, (h.at_ hp (r := 6) (by omega) rfl).1⟩

theorem HRow.free (h : HRow w wr g n DV QV H) (i : Nat) : wr.frozen? ⟨g, i, none⟩ = false := by
  obtain ⟨cs, T, h1, _⟩ := h.cells
  exact frozen_at h1

def setH (wr : World) (g o : Nat) (x : Hp) (vd vp : Value) : World := ((((((wr.setCell ⟨g, o, none⟩ (.int .i64 x.kd)).setCell ⟨g, o + 1, none⟩ (.int .i64 x.N)).setCell ⟨g, o + 2, none⟩ (.int .i64 x.M)).setCell ⟨g, o + 3, none⟩ vd).setCell ⟨g, o + 4, none⟩ vp).setCell ⟨g, o + 5, none⟩ (.int .i64 x.need)).setCell ⟨g, o + 6, none⟩ (.int .i64 x.of)

theorem HRow.set {x : Hp} {vd vp : Value} {k : Nat} (h : HRow w wr g n DV QV H) (hk : k < n) : HRow w (setH wr g (k * 7) x vd vp) g n (fun p => if p = k then vd else DV p) (fun p => if p = k then vp else QV p) (fun p => if p = k then x else H p) := by
  obtain ⟨cs, T, h1, h2, h3⟩ := h.cells
  have hg := h.ge
  refine ⟨((((((h.below.setCell (p := ⟨g, k * 7, none⟩) hg _).setCell (p := ⟨g, k * 7 + 1, none⟩) hg _).setCell (p := ⟨g, k * 7 + 2, none⟩) hg _).setCell (p := ⟨g, k * 7 + 3, none⟩) hg _).setCell (p := ⟨g, k * 7 + 4, none⟩) hg _).setCell (p := ⟨g, k * 7 + 5, none⟩) hg _).setCell (p := ⟨g, k * 7 + 6, none⟩) hg _, hg,
    ((((((cs.setIfInBounds (k * 7) (.int .i64 x.kd)).setIfInBounds (k * 7 + 1) (.int .i64 x.N)).setIfInBounds (k * 7 + 2) (.int .i64 x.M)).setIfInBounds (k * 7 + 3) vd).setIfInBounds (k * 7 + 4) vp).setIfInBounds (k * 7 + 5) (.int .i64 x.need)).setIfInBounds (k * 7 + 6) (.int .i64 x.of), T, ?_, by simpa using h2, fun p hp r hr => ?_⟩
  · simp [setH, World.setCell, Array.getElem?_modify, h1]
  · have hin : k * 7 + 6 < cs.size := by omega
    simp only [Array.getElem?_setIfInBounds, Array.size_setIfInBounds]
    by_cases e : p = k
    · subst e
      simp only [if_true]
      rcases (show r = 0 ∨ r = 1 ∨ r = 2 ∨ r = 3 ∨ r = 4 ∨ r = 5 ∨ r = 6 by omega) with rfl | rfl | rfl | rfl | rfl | rfl | rfl <;>
        (repeat (first | rw [if_neg (by omega)] | rw [if_pos (by omega)])) <;> simp [hapC]
    · simp only [if_neg e]
      repeat rw [if_neg (by omega)]
      exact h3 p hp r hr

theorem HRow.cut {k : Nat} {zs : List Value} (h : HRow w wr g n DV QV H) (hk : k ≤ n) : HRow w (wr.setCells g (k * 7) zs) g k DV QV H := by
  have key : ∀ (zs : List Value) (o : Nat) (wr : World), k * 7 ≤ o → HRow w wr g k DV QV H → HRow w (wr.setCells g o zs) g k DV QV H := by
    intro zs
    induction zs with
    | nil => intro o wr _ h; exact h
    | cons z zs ih =>
      intro o wr ho h
      refine ih (o + 1) _ (by omega) ?_
      obtain ⟨cs, T, h1, h2, h3⟩ := h.cells
      refine ⟨h.below.setCell (p := ⟨g, o, none⟩) h.ge _, h.ge, cs.setIfInBounds o z, T, by simp [World.setCell, Array.getElem?_modify, h1], by simpa using h2, fun p hp r hr => ?_⟩
      rw [Array.getElem?_setIfInBounds, if_neg (by omega)]
      exact h3 p hp r hr
  refine key zs (k * 7) wr (Nat.le_refl _) ?_
  obtain ⟨cs, T, h1, h2, h3⟩ := h.cells
  exact ⟨h.below, h.ge, cs, T, h1, by omega, fun p hp => h3 p (by omega)⟩

theorem HRow.congr {DV' QV' : Nat → Value} {H' : Nat → Hp} (h : HRow w wr g n DV QV H) (he : ∀ p, p < n → DV p = DV' p ∧ QV p = QV' p ∧ H p = H' p) : HRow w wr g n DV' QV' H' := by
  obtain ⟨cs, T, h1, h2, h3⟩ := h.cells
  refine ⟨h.below, h.ge, cs, T, h1, h2, fun p hp r hr => ?_⟩
  obtain ⟨e1, e2, e3⟩ := he p hp
  rw [h3 p hp r hr, e1, e2, e3]

theorem HRow.hpsl (h : HRow w wr g n DV QV H) {cap : Nat} (hc : n ≤ cap) (hr : n * 88 ≤ 140737488351232) (ha : ∀ p, p < n → HpAt w w.heap.size (H p) (DV p) (QV p)) : HpSl wr wr.heap.size (.slice (some ⟨g, 0, none⟩) n cap) n DV QV H :=
  ⟨_, cap, rfl, ⟨hc, hr⟩, Or.inr ⟨g, 0, rfl, h.lt, fun j hj => by
    rw [Nat.zero_add]
    exact ⟨h.seven hj, (ha j hj).up h.below⟩⟩⟩

end

theorem Tryz.infoHap : (Tryz.prog.info? 30).map (fun i => (i.zero, i.size, i.bytes)) = some (some (.agg #[.int .i64 0, .int .i64 0, .int .i64 0, .slice none 0 0, .slice none 0 0, .int .i64 0, .int .i64 0]), 7, 88) := by kernel_rfl

theorem cloneH {w : World} {v : Value} {n : Nat} {DV QV : Nat → Value} {H : Nat → Hp} (h : HpSl w w.heap.size v n DV QV H) :
    Calls Tryz.prog 77 #[v] w fun e w' => Below w.heap.size w w' ∧ ((n = 0 ∧ e = .returned (.slice none 0 0)) ∨ ∃ g cap, e = .returned (.slice (some ⟨g, 0, none⟩) n cap) ∧ n ≤ cap ∧ cap ≤ maxLen ∧ HRow w w' g n DV QV H) := by
  obtain ⟨ad, cap, rfl, ⟨hc, hr⟩, hx⟩ := h
  have q34 : ∀ (w : World) (a : Option Addr) (n c : Nat), (binOp .eql 45 (.slice a n c) (.slice none 0 0)).run Tryz.prog w = .ok (.bool a.isNone) w := fun w a n c => Lib.run_eql_slice_nil w _ _ a n c 0 0 Tryz.underlying45
  cases ad with
  | none =>
    have h0 : n = 0 := by
      rcases hx with h0 | ⟨bl, off, e, _⟩
      · exact h0
      · cases e
    subst h0
    clear hx
    go_enter Tryz.func77, Tryz.ntmps77
    go_wp2
    go_ret
    exact ⟨Below.refl _ _, Or.inl ⟨by first | trivial | rfl, rfl⟩⟩
  | some a =>
    have hfl := flatH_len DV QV H n
    have hnews : ∀ j u, (flatH DV QV H n)[j]? = some u → w.cell? (Addr.add a j) = some u := by
      intro j u hu
      have hj : j < n * 7 := by
        have := (List.getElem?_eq_some_iff.1 hu).1
        omega
      rcases hx with h0 | ⟨bl, off, e, hbl, hx⟩
      · omega
      injection e with e
      subst e
      obtain ⟨⟨g0, g1, g2, g3, g4, g5, g6⟩, _⟩ := hx (j / 7) (by omega)
      have hq := flatH_get DV QV H n (j / 7) (j % 7) (by omega) (by omega)
      rw [show j / 7 * 7 + j % 7 = j by omega, hu] at hq
      rw [Addr.add_lit]
      obtain ⟨p, hp⟩ : ∃ p, j / 7 = p := ⟨_, rfl⟩
      rw [hp] at g0 g1 g2 g3 g4 g5 g6 hq
      rcases (show j % 7 = 0 ∨ j % 7 = 1 ∨ j % 7 = 2 ∨ j % 7 = 3 ∨ j % 7 = 4 ∨ j % 7 = 5 ∨ j % 7 = 6 by omega) with e | e | e | e | e | e | e <;> rw [e] at hq <;> simp only [hapC, List.getElem?_cons_zero, List.getElem?_cons_succ] at hq
      · rw [show off + j = off + p * 7 by omega, g0, hq]
      · rw [show off + j = off + p * 7 + 1 by omega, g1, hq]
      · rw [show off + j = off + p * 7 + 2 by omega, g2, hq]
      · rw [show off + j = off + p * 7 + 3 by omega, g3, hq]
      · rw [show off + j = off + p * 7 + 4 by omega, g4, hq]
      · rw [show off + j = off + p * 7 + 5 by omega, g5, hq]
      · rw [show off + j = off + p * 7 + 6 by omega, g6, hq]
    have h1 : ∀ u ∈ flatH DV QV H n, u.oneCell' = true := by
      intro u hu
      unfold flatH at hu
      obtain ⟨i, hi, hu⟩ := List.mem_flatMap.1 hu
      have hi := List.mem_range.1 hi
      rcases hx with h0 | ⟨bl, off, e, hbl, hx⟩
      · omega
      obtain ⟨_, ⟨a1, c1, e1, _⟩, ⟨a2, c2, e2, _⟩⟩ := hx i hi
      simp only [hapC, List.mem_cons, List.not_mem_nil, or_false] at hu
      rcases hu with rfl | rfl | rfl | rfl | rfl | rfl | rfl
      · rfl
      · rfl
      · rfl
      · rw [e1]; rfl
      · rw [e2]; rfl
      · rfl
      · rfl
    have HNw := hid hnews
    have H1 := hid h1
    have HGt : Hid (∀ p r, p < n → r < 7 → (flatH DV QV H n)[p * 7 + r]? = (hapC (H p) (DV p) (QV p))[r]?) := flatH_get DV QV H n
    obtain ⟨ii, hi, hz0, hz1, hz2⟩ := info_parts Tryz.infoHap
    obtain ⟨F, hF⟩ : ∃ F, flatH DV QV H n = F := ⟨_, rfl⟩
    rw [hF] at HNw H1 hfl HGt
    have HLn := hid hfl
    clear hx hnews h1 hF hfl
    go_enter Tryz.func77, Tryz.ntmps77
    go_wp2_with (at_builtin; go_must (refine wpList_append_own _ rfl _ _ 45 rfl w.heap.size 30 ii (.agg #[.int .i64 0, .int .i64 0, .int .i64 0, .slice none 0 0, .slice none 0 0, .int .i64 0, .int .i64 0]) 7 88 Tryz.underlying45 hi hz0 hz1 hz2 rfl (by decide) _ _ _ rfl (World.ownsRow_made w #[] 0 (Nat.le_refl _) (Nat.zero_le _) (by simp)) a n cap F rfl HLn.out (fun j u hu => Lib.cell?_alloc_some _ (HNw.out j u hu)) H1.out (by unfold maxLen; omega) (by omega) (by simp) ?_; intro v1 w2 ho hg hnil; have HO := hid ho; have HG := hid hg; have HZ := hid hnil; clear ho hg hnil))
    go_ret
    have hb : Below w.heap.size w w2 := ((Below.refl _ _).alloc (Nat.le_refl _) _).grown HG.out (by simp) (fun k hk => by cases hk; exact Nat.le_refl _)
    refine ⟨hb, ?_⟩
    have h := HO.out
    rw [Nat.zero_add, List.nil_append] at h
    rcases h.2 with ⟨e1, e0⟩ | ⟨g, cp, cur, e1, hg, hh, hc1, hc2, hsz, hcur⟩
    · exact Or.inl ⟨e0, by rw [e1]; rfl⟩
    · refine Or.inr ⟨g, cp, by rw [e1]; rfl, hc1, hc2, hb, hg, cur, _, hh, by omega, fun p hp r hr => ?_⟩
      rw [← HGt.out p r hp hr, ← hcur, List.getElem?_take, if_pos (by omega)]
      simp

set_option maxHeartbeats 1000000 in
theorem strBend (x : Hp) (vd vp : Value) (w : World) : Calls Tryz.prog 78 #[hapV x vd vp] w fun e w' => e = .returned (.bool (decide (x.kd = 5))) ∧ Below w.heap.size w w' := by
  have hb := below_alloc w (.cells #[.int .i64 x.kd, .int .i64 x.N, .int .i64 x.M, vd, vp, .int .i64 x.need, .int .i64 x.of] 30)
  have k0 := heap_alloc_new w (.cells #[.int .i64 x.kd, .int .i64 x.N, .int .i64 x.M, vd, vp, .int .i64 x.need, .int .i64 x.of] 30)
  obtain ⟨U, hU⟩ : ∃ u, w.alloc (.cells #[.int .i64 x.kd, .int .i64 x.N, .int .i64 x.M, vd, vp, .int .i64 x.need, .int .i64 x.of] 30) = u := ⟨_, rfl⟩
  rw [hU] at hb k0
  have c0 : U.cell? ⟨w.heap.size, 0, none⟩ = some (.int .i64 x.kd) := cell_at k0 rfl
  have HB := hid hb
  clear hb k0
  unfold hapV
  go_enter Tryz.func78, Tryz.ntmps78
  go_wp2
  go_ret
  exact ⟨by first | rfl | (congr 2), HB.out⟩

end Go.Proofs.YtajmnlhfnhbleaaGreat
