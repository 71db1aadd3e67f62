/- Several texts of one proof, in their order. -/
import Derived.Test.YtfcpmpcfbhkacaaVb11
import Derived.Test.YtfcpmpcfbhkacaaVb6
import Derived.Lib.SliceRun

/- What chapter 3's laws share: plans in order, rows, the first shares, sums; the closed fact in later worlds. -/
namespace Go.Proofs.Ytfcpmpcfbhkacaa

open Go.RowKit CurveMath
set_option linter.unusedVariables false

theorem splitE_ok {nd of sz : Int} {n : Nat} {D : Nat → Int} (h : splitE nd of sz n D = 0) : planOk nd of sz = true ∧ (n : Int) = sz ∧ ∀ j, j < n → 0 ≤ D j ∧ D j ≤ 30 := by
  unfold splitE at h
  by_cases h1 : planOk nd of sz = true
  · rw [if_pos h1] at h
    by_cases h2 : (n : Int) = sz
    · rw [if_pos h2] at h
      by_cases h3 : numsB n D = true
      · refine ⟨h1, h2, fun j hj => ?_⟩
        exact (isNum_iff _).1 ((of_decide_eq_true h3) j hj)
      · rw [if_neg h3] at h; omega
    · rw [if_neg h2] at h; omega
  · rw [if_neg h1] at h; omega

/-- the curve goes through its points -/
theorem crv_own {n m : Nat} {X Y : Nat → Int} (h : Good n m X Y) (j : Nat) (hj : j < n) : crv n X Y (X j) = Y j := by
  have hm := h.same
  refine (crv_of n X Y (X j) (Y j) (h.ys j hj) ?_).symm
  unfold crvF
  exact (newt_at (fun i => toF (X i)) (fun i => toF (Y i)) n h.injF j hj).symm

theorem padD_num {n : Nat} {D : Nat → Int} (hD : ∀ j, j < n → 0 ≤ D j ∧ D j ≤ 30) (j : Nat) : 0 ≤ padD n D j ∧ padD n D j ≤ 30 := by
  unfold padD
  split
  · rename_i h; exact hD j h
  · omega

/-- a row of a content is in order -/
theorem good_row {d n : Nat} {D : Nat → Int} (hd : 1 ≤ d ∧ d ≤ 8) (hD : ∀ j, j < n → 0 ≤ D j ∧ D j ≤ 30) (r : Nat) : Good d d (fun i => (i : Int)) (fun i => padD n D (r * d + i)) :=
  ⟨rfl, hd, fun j hj => by omega, fun j hj => padD_num hD _, fun i j _ _ e => by have e2 : (i : Int) = (j : Int) := e; omega⟩

theorem shv_num (d n : Nat) (D : Nat → Int) (k r : Nat) : 0 ≤ shv d n D k r ∧ shv d n D k r ≤ 30 := crv_num _ _ _ _

end Go.Proofs.Ytfcpmpcfbhkacaa

/- What chapter 3's reference answers: plans, rows, shares, and whether two are alike. -/
namespace Go.Proofs.Ytfcpmpcfbhkacaa

open Go.RowKit CurveMath
set_option linter.unusedVariables false

end Go.Proofs.Ytfcpmpcfbhkacaa

/- Lists of shares that a call makes itself: cloned, grown one by one, one taken out. -/
namespace Go.Proofs.Ytfcpmpcfbhkacaa

open Go.RowKit CurveMath
set_option linter.unusedVariables false

/-- slices.Clone of a list of shares -/
theorem cloneS {w : World} {v : Value} {n : Nat} {N : Nat → Int} {V : Nat → Value} {L : Nat → Nat} {X : Nat → Nat → Int} (h : ShSl w w.heap.size v n N V L X) (hn : 1 ≤ n ∧ n ≤ 1000) :
    Calls Try.prog 35 #[v] w fun e w' => ∃ v', e = .returned v' ∧ OwnS w w' v' n N V := by
  obtain ⟨ad, cap, rfl, ⟨hc, hr⟩, hx⟩ := h
  rcases hx with h0 | ⟨b, off, rfl, hb, hx⟩
  · omega
  have hnews : ∀ j u, (flatS n N V)[j]? = some u → w.cell? ⟨b, off + j, none⟩ = some u := by
    intro j u hu
    rw [flatS_get] at hu
    by_cases h : j < n * 2
    · rw [if_pos h] at hu
      injection hu with hu
      rw [← hu]
      obtain ⟨c1, c2, _⟩ := hx (j / 2) (by omega)
      unfold cellS
      by_cases h2 : j % 2 = 0
      · rw [if_pos h2, ← c1]
        rw [show off + j / 2 * 2 = off + j by omega]
      · rw [if_neg h2, ← c2]
        rw [show off + j / 2 * 2 + 1 = off + j by omega]
    · rw [if_neg h] at hu; cases hu
  have h1 : ∀ u ∈ flatS n N V, u.oneCell' = true := flatS_one fun j hj => slice_one (hx j hj).2.2
  have HNw := hid hnews
  have H1 := hid h1
  clear hx hnews h1
  have q25 : ∀ (w : World) (a : Option Addr) (n c : Nat), (binOp .eql 25 (.slice a n c) (.slice none 0 0)).run Try.prog w = .ok (.bool a.isNone) w := fun w a n c => Lib.run_eql_slice_nil w _ _ a n c 0 0 Try.underlying25
  obtain ⟨ii, hi, hz0, hz1, hz2⟩ := info_parts Try.infoShare
  go_enter Try.func35, Try.ntmps35
  go_wp2_with (at_builtin; go_must (refine wpList_append_own _ rfl _ _ 25 rfl w.heap.size 27 ii (.agg #[.int .i64 0, .slice none 0 0]) 2 32 Try.underlying25 hi hz0 hz1 hz2 rfl (by decide) _ _ _ rfl (World.ownsRow_made w #[] 0 (Nat.le_refl _) (Nat.zero_le _) (by simp)) ⟨b, off, none⟩ n cap (flatS n N V) rfl (flatS_len _ _ _) (fun j u hu => by rw [Addr.add_lit]; exact Lib.cell?_alloc_some _ (HNw.out j u hu)) H1.out (by unfold maxLen; omega) (by omega) (by simp) ?_; intro v1 w2 ho hg _; have HO := hid ho; have HG := hid hg; clear ho hg))
  go_ret
  refine ⟨_, rfl, ?_, ?_⟩
  · have h := HO.out
    rw [Nat.zero_add, List.nil_append] at h
    exact h
  · exact ((Below.refl _ _).alloc (Nat.le_refl _) _).grown HG.out (by simp) (fun k hk => by cases hk; exact Nat.le_refl _)

/-- a store behind what is held -/
theorem owns_behind {w : World} {base g m cap off : Nat} {e : TypeId} {ys : List Value} {u : Value} (h : w.ownsRow base e 2 (.slice (some ⟨g, 0, none⟩) m cap) m ys) (ho : m * 2 ≤ off) : (w.setCell ⟨g, off, none⟩ u).ownsRow base e 2 (.slice (some ⟨g, 0, none⟩) m cap) m ys := by
  obtain ⟨hl, h2⟩ := h
  refine ⟨hl, ?_⟩
  rcases h2 with ⟨h0, _⟩ | ⟨g', cap', cur, hv, hg, hh, hc1, hc2, hsz, hcur⟩
  · cases h0
  · injection hv with e1 _ e3
    injection e1 with e1
    injection e1 with e1
    subst e1 e3
    refine Or.inr ⟨g, cap, cur.setIfInBounds off u, rfl, hg, ?_, hc1, hc2, by simpa using hsz, ?_⟩
    · simp [World.setCell, Array.getElem?_modify, hh]
    · rw [← hcur]
      apply List.ext_getElem?
      intro i
      rw [List.getElem?_take, List.getElem?_take]
      by_cases hi : i < m * 2
      · rw [if_pos hi, if_pos hi]
        simp only [Array.toList_setIfInBounds, List.getElem?_set]
        rw [if_neg (by omega)]
      · rw [if_neg hi, if_neg hi]

theorem grownBy_set {w w' : World} {g off : Nat} {u : Value} (h : w.grownBy w' (some g)) : w.grownBy (w'.setCell ⟨g, off, none⟩ u) (some g) := by
  refine ⟨h.os, h.tape, h.output, by simpa [World.setCell] using h.size, fun i hi hne => ?_⟩
  rw [← h.block i hi hne]
  have hg : g ≠ i := fun e => hne (by rw [e])
  simp [World.setCell, Array.getElem?_modify, hg]

/-- the first k of what is held -/
theorem owns_take {w : World} {base g n cap k : Nat} {e : TypeId} {ys : List Value} (h : w.ownsRow base e 2 (.slice (some ⟨g, 0, none⟩) n cap) n ys) (hk : k ≤ n) : w.ownsRow base e 2 (.slice (some ⟨g, 0, none⟩) k cap) k (ys.take (k * 2)) := by
  obtain ⟨hl, h2⟩ := h
  refine ⟨by rw [List.length_take, hl]; omega, ?_⟩
  rcases h2 with ⟨h0, _⟩ | ⟨g', cap', cur, hv, hg, hh, hc1, hc2, hsz, hcur⟩
  · cases h0
  · injection hv with e1 _ e3
    injection e1 with e1
    injection e1 with e1
    subst e1 e3
    refine Or.inr ⟨g, cap, cur, rfl, hg, hh, by omega, hc2, hsz, ?_⟩
    rw [← hcur, List.take_take, Nat.min_eq_left (by omega)]

theorem owns_cell {w : World} {base g n cap : Nat} {e : TypeId} {ys : List Value} (h : w.ownsRow base e 2 (.slice (some ⟨g, 0, none⟩) n cap) n ys) (i : Nat) (u : Value) (hu : ys[i]? = some u) : w.cell? ⟨g, i, none⟩ = some u := by
  obtain ⟨hl, h2⟩ := h
  rcases h2 with ⟨h0, _⟩ | ⟨g', cap', cur, hv, hg, hh, hc1, hc2, hsz, hcur⟩
  · cases h0
  · injection hv with e1 _ e3
    injection e1 with e1
    injection e1 with e1
    subst e1 e3
    rw [← hcur, List.getElem?_take] at hu
    by_cases hi : i < n * 2
    · rw [if_pos hi] at hu
      exact cell_at hh (by simpa using hu)
    · rw [if_neg hi] at hu; cases hu

/-- within the capacity there are cells, and none is frozen -/
theorem owns_room {w : World} {base g n cap : Nat} {e : TypeId} {ys : List Value} (h : w.ownsRow base e 2 (.slice (some ⟨g, 0, none⟩) n cap) n ys) (i : Nat) (hi : i < cap * 2) : (∃ u, w.cell? ⟨g, i, none⟩ = some u) ∧ w.frozen? ⟨g, i, none⟩ = false := by
  obtain ⟨hl, h2⟩ := h
  rcases h2 with ⟨h0, _⟩ | ⟨g', cap', cur, hv, hg, hh, hc1, hc2, hsz, hcur⟩
  · cases h0
  · injection hv with e1 _ e3
    injection e1 with e1
    injection e1 with e1
    subst e1 e3
    exact ⟨⟨_, cell_at hh (Array.getElem?_eq_getElem (by omega))⟩, frozen_at hh⟩

/-- clear of one share -/
theorem clear_one (w : World) (g o c : Nat) (h0 : ∃ u, w.cell? ⟨g, o, none⟩ = some u) (h1 : ∃ u, w.cell? ⟨g, o + 1, none⟩ = some u) (f0 : w.frozen? ⟨g, o, none⟩ = false) (f1 : w.frozen? ⟨g, o + 1, none⟩ = false) :
    (Builtin.clear_ #[25] 0 #[.slice (some ⟨g, o, none⟩) 1 c]).run Try.prog w = .ok (.tuple #[]) ((w.setCell ⟨g, o, none⟩ (.int .i64 0)).setCell ⟨g, o + 1, none⟩ (.slice none 0 0)) := by
  have hst := run_storeCells_cells (P := Try.prog) g o [.int .i64 0, .slice none 0 0] 0 w (fun j hj => by
      have hj' : j < 2 := by simpa using hj
      rcases (show j = 0 ∨ j = 1 by omega) with rfl | rfl
      · obtain ⟨u, hu⟩ := h0; simpa using by rw [hu]; rfl
      · obtain ⟨u, hu⟩ := h1; simpa using by rw [hu]; rfl) (fun j hj => by
      have hj' : j < 2 := by simpa using hj
      rcases (show j = 0 ∨ j = 1 by omega) with rfl | rfl
      · simpa using f0
      · simpa using f1) (by intro v hv; simp at hv; rcases hv with rfl | rfl <;> rfl)
  simp only [Nat.add_zero] at hst
  have hzc : (Builtin.zeroCells (Value.agg #[.int .i64 0, .slice none 0 0]).cells 1).toList = [.int .i64 0, .slice none 0 0] := by kernel_rfl
  unfold Builtin.clear_
  simp [hzc, hst, World.setCells]

set_option maxHeartbeats 1000000 in
/-- slices.Delete of one, of a list of the call's own -/
theorem deleteS (base g n cap k : Nat) (N : Nat → Int) (V : Nat → Value) (w : World) (hown : w.ownsRow base 27 2 (.slice (some ⟨g, 0, none⟩) n cap) n (flatS n N V)) (hk : k < n) (hn : n ≤ 1000) (hV : ∀ j, j < n → (V j).oneCell' = true) :
    Calls Try.prog 48 #[.slice (some ⟨g, 0, none⟩) n cap, .int .i64 k, .int .i64 ((k : Int) + 1)] w fun e w' => e = .returned (.slice (some ⟨g, 0, none⟩) (n - 1) cap) ∧
      w'.ownsRow base 27 2 (.slice (some ⟨g, 0, none⟩) (n - 1) cap) (n - 1) (flatS (n - 1) (without k N) (without k V)) ∧ w.grownBy w' (some g) := by
  obtain ⟨ii, hi, hz0, hz1, hz2⟩ := info_parts Try.infoShare
  have hzs := Try.zeroShare
  have hcap : n ≤ cap ∧ cap ≤ maxLen := by
    obtain ⟨_, h2⟩ := hown
    rcases h2 with ⟨h0, _⟩ | ⟨g', cap', cur, hv, hg, hh, hc1, hc2, hsz, hcur⟩
    · cases h0
    · injection hv with _ _ e3
      subst e3
      exact ⟨hc1, hc2⟩
  have hm : cap ≤ 9223372036854775807 := by have := hcap.2; unfold maxLen at this; omega
  have HOw := hid hown
  have HVo := hid hV
  clear hown hV
  have hk1 : (k : Int) < (n : Int) := by omega
  have hk2 : (k : Int) + 1 ≤ (n : Int) := by omega
  have hk3 : (n : Int) ≤ (cap : Int) := by have := hcap.1; omega
  have hne : ((k : Int) == (k : Int) + 1) = false := by simp; omega
  go_enter Try.func48, Try.ntmps48
  go_wp2_with fail
  have hne2 : Nonempty (Of (fun _ : World => True)) := ⟨⟨w, trivial⟩⟩
  refine region_mixed (fun _ => True) [([0, 1, 2, 3, 4, 5], 6)] [7] (by kernel_rfl) (by kernel_rfl) trivial ?_
  refine mixO_cons ?_
  repeat (go_big_quiet_step (fail))
  refine wpQuiet_nil ?_
  intro K hK
  obtain ⟨A, hA, hnews⟩ : ∃ A : Addr, (if cap = k + 1 then some (⟨g, 0, none⟩ : Addr) else some ⟨g, (k + 1) * 2, none⟩) = some A ∧ Hid (∀ j u, ((flatS n N V).drop ((k + 1) * 2))[j]? = some u → w.drew.cell? (A.add j) = some u) := by
    by_cases h : cap = k + 1
    · refine ⟨⟨g, 0, none⟩, by simp [h], fun j u hu => ?_⟩
      rw [List.getElem?_eq_none (by rw [List.length_drop, flatS_len]; omega)] at hu
      cases hu
    · refine ⟨⟨g, (k + 1) * 2, none⟩, by simp [h], fun j u hu => ?_⟩
      rw [List.getElem?_drop] at hu
      rw [Addr.add_lit]
      exact owns_cell HOw.out _ u hu
  rw [hA]
  go_wp2_with (at_builtin; go_must (refine wpList_append_fits _ rfl (.tmp 22) (.tmp 25) 25 rfl base 27 ii 2 Try.underlying25 hi hz1 g k cap ((flatS n N V).take (k * 2)) rfl (owns_take (w := w.drew) HOw.out (by omega)) A (n - (k + 1)) (cap - (k + 1)) ((flatS n N V).drop ((k + 1) * 2)) rfl (by rw [List.length_drop, flatS_len]; omega) hnews.out (fun u hu => flatS_one HVo.out u (List.mem_of_mem_drop hu)) (by omega) ?_; intro w1 ho1 hg1))
  rw [flatS_without N V hk, show k + (n - (k + 1)) = n - 1 by omega] at ho1
  refine ⟨rfl, hK _ _ trivial ?_⟩
  clear hK K
  refine mixO_nil ?_
  repeat (go_big_quiet_step (fail))
  refine wpQuiet_nil ?_
  have e9 : k + (n - (k + 1)) = n - 1 := by omega
  rw [e9]
  have HO1 := hid ho1
  have HG1 := hid hg1
  obtain ⟨⟨u0, r0⟩, f0⟩ := owns_room ho1 ((n - 1) * 2) (by omega)
  obtain ⟨⟨u1, r1⟩, f1⟩ := owns_room ho1 ((n - 1) * 2 + 1) (by omega)
  have hcl := clear_one w1 g ((n - 1) * 2) (cap - (n - 1)) ⟨u0, r0⟩ ⟨u1, r1⟩ f0 f1
  have hn1 : n - (n - 1) = 1 := by omega
  clear ho1 hg1 hnews hA
  go_wp2
  go_ret
  refine ⟨rfl, owns_behind (owns_behind HO1.out (Nat.le_refl _)) (by omega), grownBy_set (grownBy_set ?_)⟩
  exact ⟨HG1.out.os, HG1.out.tape, HG1.out.output, HG1.out.size, HG1.out.block⟩

end Go.Proofs.Ytfcpmpcfbhkacaa
