/- Several texts of one proof, in their order. -/
import Derived.Test.YtfcpmpcfbhkacaaVb26
import Derived.Maps.AppendAt

/- Package share's points of a row, and whether other shares fit a curve. -/
namespace Go.Proofs.Ytfcpmpcfbhkacaa

open Go.RowKit CurveMath
set_option linter.unusedVariables false

set_option maxHeartbeats 2000000 in
theorem shPoints (d cp r : Nat) (a : Option Addr) (N : Nat → Int) (V : Nat → Value) (L : Nat → Nat) (X : Nat → Nat → Int) (w : World) (hd : 1 ≤ d ∧ d ≤ 8) (hr : r ≤ 100) (hL : ∀ j, j < d → r < L j) (h : ShSl w w.heap.size (.slice a d cp) d N V L X) :
    Calls Try.prog 41 #[.slice a d cp, .int .i64 (r : Int)] w fun e w' => ∃ vx vy, e = .returned (.tuple #[vx, vy]) ∧ OwnI w w' vx d N ∧ OwnI w w' vy d (fun j => X j r) := by
  obtain ⟨ad, cap, e, ⟨hcap, hbig⟩, hx⟩ := h
  injection e with e3 _ e4
  subst e3 e4
  rcases hx with h0 | ⟨b, off, rfl, hb, hx⟩
  · omega
  have HX := hid hx
  have HL := hid hL
  obtain ⟨ii, hi, hzz0, hzz1, hzz2⟩ := info_parts Try.infoInt
  clear hx hL
  go_enter Try.func41, Try.ntmps41
  go_wp2
  go_loopw [4, 5, 10] (fun vx vy iv wr => ∃ k : Nat, k ≤ d ∧ iv = .int .i64 k ∧ Hid (Two w wr vx vy k N (fun j => X j r))) (fun _ _ iv _ => d - (intOf iv).toNat)
  case atStart => exact ⟨0, Nat.zero_le _, rfl, Two.nil _ _ _⟩
  case round =>
    obtain ⟨k, hk, rfl, TW⟩ := hrel
    by_cases hlt : k < d
    · have hki : (k : Int) < (d : Int) := by omega
      obtain ⟨x1, x2, x3⟩ := HX.out k hlt
      have hrL := HL.out k hlt
      have hbel := TW.out.a.2
      obtain ⟨av, cv, hve, hvc, h5⟩ := x3
      rcases h5 with h0 | ⟨bv, ov, rfl, hbv, h5⟩
      · omega
      have g1 : wr.cell? ⟨b, off + k * 2, none⟩ = some (.int .i64 (N k)) := by rw [hbel.cell hb]; exact x1
      have g2 : wr.cell? ⟨b, off + k * 2 + 1, none⟩ = some (.slice (some ⟨bv, ov, none⟩) (L k) cv) := by rw [hbel.cell hb, x2, hve]
      have hri : (r : Int) < (L k : Int) := by omega
      have hLb : ((L k : Nat) : Int) * 8 ≤ 140737488351232 := by omega
      have gx : w.cell? ⟨bv, ov + r, none⟩ = some (.int .i64 (X k r)) := h5 r hrL
      have T2 := hid (TW.out.below (below_alloc wr (.cells #[.int .i64 (N k), .slice (some ⟨bv, ov, none⟩) (L k) cv] 27)))
      obtain ⟨ax, cx, hvx⟩ := TW.out.a.shape
      obtain ⟨ay, cy, hvy⟩ := TW.out.b.shape
      subst hvx hvy
      have HF : Hid (∀ (w6 : World) (o : Obj), ((wr.alloc (.cells #[.int .i64 (N k), .slice (some ⟨bv, ov, none⟩) (L k) cv] 27)).alloc o).grownBy w6 (Value.slice ax k cx).ownBlock →
          w6.cell? ⟨wr.heap.size, 1, none⟩ = some (.slice (some ⟨bv, ov, none⟩) (L k) cv) ∧ w6.cell? ⟨bv, ov + r, none⟩ = some (.int .i64 (X k r))) := fun w6 o hg => by
        have hl : ∀ g, (Value.slice ax k cx).ownBlock = some g → w.heap.size ≤ g ∧ g < wr.heap.size := fun g hg => TW.out.a.1.lt g hg
        have hb1 := below_alloc wr (.cells #[.int .i64 (N k), .slice (some ⟨bv, ov, none⟩) (L k) cv] 27)
        have hb2 := below_alloc (wr.alloc (.cells #[.int .i64 (N k), .slice (some ⟨bv, ov, none⟩) (L k) cv] 27)) o
        have hc : (wr.alloc (.cells #[.int .i64 (N k), .slice (some ⟨bv, ov, none⟩) (L k) cv] 27)).cell? ⟨wr.heap.size, 1, none⟩ = some (.slice (some ⟨bv, ov, none⟩) (L k) cv) := cell_at (heap_alloc_new wr _) rfl
        refine ⟨hg.cell (by rw [hb2.cell (cell_lt hc)]; exact hc) (fun e => ?_), hg.cell (v := .int .i64 (X k r)) ?_ (fun e => ?_)⟩
        · have := (hl _ e.symm).2
          exact Nat.lt_irrefl _ this
        · have h6 : wr.cell? ⟨bv, ov + r, none⟩ = some (.int .i64 (X k r)) := by rw [hbel.cell hbv]; exact gx
          have h7 : (wr.alloc (.cells #[.int .i64 (N k), .slice (some ⟨bv, ov, none⟩) (L k) cv] 27)).cell? ⟨bv, ov + r, none⟩ = some (.int .i64 (X k r)) := by rw [hb1.cell (cell_lt h6)]; exact h6
          rw [hb2.cell (cell_lt h7)]; exact h7
        · have h8 := (hl _ e.symm).1
          have h9 : w.heap.size ≤ bv := h8
          omega
      clear x1 x2 hve h5 gx hbel
      go_wp2_with (first
        | (at_builtin; refine wpList_append_own_at _ rfl (.tmp 14) (.tmp 17) 24 rfl w.heap.size 3 ii (.int .i64 0) 1 8 Try.underlying24 hi hzz0 hzz1 hzz2 rfl (by decide) _ _ _ rfl (World.ownsRow.alloc T2.out.a.1 _) ⟨_, 0, none⟩ 1 1 [.int .i64 (N k)] rfl rfl (fun j u hj => by rw [Addr.add_lit]; match j, hj with | 0, hj => (simp at hj; subst hj; exact cell_at (by have h9 := heap_alloc_new (wr.alloc (.cells #[.int .i64 (N k), .slice (some ⟨bv, ov, none⟩) (L k) cv] 27)) (.cells #[.int .i64 (N k)] 3); simpa using h9) rfl)) (oneCell _) (by unfold maxLen; omega) (by omega) (by have := T2.out.a.2.size; simp at *; omega) ?_; intro v1 w6 ho6 hg6 _ hat6; obtain ⟨c6, d6⟩ := HF.out w6 _ hg6; have TA := hid (T2.out.after _ ho6 hg6 hat6); clear ho6 hg6 hat6)
        | (at_builtin; (refine wpList_append_own_at _ rfl (.tmp 19) (.tmp 25) 24 rfl w.heap.size 3 ii (.int .i64 0) 1 8 Try.underlying24 hi hzz0 hzz1 hzz2 rfl (by decide) _ _ _ rfl (World.ownsRow.alloc TA.out.2.1.1 _) ⟨_, 0, none⟩ 1 1 [.int .i64 (X k r)] rfl rfl (newCell _ _ _) (oneCell _) (by unfold maxLen; omega) (by omega) (by have := TA.out.2.1.2.size; simp; omega) ?_; intro v2 w7 ho7 hg7 _ hat7; have TB := hid (Two.both TA.out.1 TA.out.2.1 TA.out.2.2 _ ho7 hg7 hat7); clear ho7 hg7 hat7)))
      go_roundw
      case rel =>
        refine ⟨k + 1, by omega, by go_num, ⟨TB.out.a.congr fun j hj => ?_, TB.out.b.congr fun j hj => ?_, TB.out.ne⟩⟩
        · by_cases e : j = k
          · rw [if_pos e, e]
          · rw [if_neg e]
        · by_cases e : j = k
          · rw [if_pos e, e]
          · rw [if_neg e]
      case measure => simp only [intOf]; omega
    · have hke : k = d := by omega
      subst hke
      go_wp2
      go_ret2
      exact ⟨_, _, rfl, TW.out.a, TW.out.b⟩

/-- do these have in row r what the curve says? -/
def fitsB (d m r : Nat) (A B : Nat → Int) (N : Nat → Int) (X : Nat → Nat → Int) : Bool := decide (∀ j, j < m → X j r = crv d A B (N j))

set_option maxHeartbeats 2000000 in
theorem shFit (d m cp r bx bz : Nat) (a : Option Addr) (A B : Nat → Int) (N : Nat → Int) (V : Nat → Value) (L : Nat → Nat) (X : Nat → Nat → Int) (w : World) (hm : m ≤ 8) (hr : r ≤ 100) (hL : ∀ j, j < m → r < L j) (hN : ∀ j, j < m → 0 ≤ N j ∧ N j ≤ 30)
    (h : ShSl w w.heap.size (.slice a m cp) m N V L X) (hF : AtFn w bx bz d A B) (hG : Good d d A B) :
    Calls Try.prog 42 #[.slice a m cp, .int .i64 (r : Int), atF bx bz] w fun e w' => e = .returned (.bool (fitsB d m r A B N X)) ∧ Below w.heap.size w w' := by
  obtain ⟨ans, hans⟩ : ∃ b, fitsB d m r A B N X = b := ⟨_, rfl⟩
  rw [hans]
  obtain ⟨ad, cap, e, ⟨hcap, hbig⟩, hx⟩ := h
  injection e with e3 _ e4
  subst e3 e4
  have HX := hid hx
  have HL := hid hL
  have HN := hid hN
  have HF := hid hF
  have HG := hid hG
  have HA := hid hans
  unfold atF
  clear hx hL hN hF hG hans
  go_enter Try.func42, Try.ntmps42
  go_wp2
  go_loopw [11] (fun iv wr => ∃ k : Nat, k ≤ m ∧ iv = .int .i64 k ∧ Hid (Below w.heap.size w wr) ∧ Hid (∀ j, j < k → X j r = crv d A B (N j))) (fun iv _ => m - (intOf iv).toNat)
  case atStart => exact ⟨0, Nat.zero_le _, rfl, Below.refl _ _, fun j hj => absurd hj (Nat.not_lt_zero _)⟩
  case round =>
    obtain ⟨k, hk, rfl, HB, HE⟩ := hrel
    by_cases hlt : k < m
    · have hki : (k : Int) < (m : Int) := by omega
      have hx5 : ∃ b off, a = some ⟨b, off, none⟩ ∧ b < w.heap.size ∧ (w.cell? ⟨b, off + k * 2, none⟩ = some (.int .i64 (N k)) ∧ w.cell? ⟨b, off + k * 2 + 1, none⟩ = some (V k) ∧ IntSl w w.heap.size (V k) (L k) (X k)) := by
        rcases HX.out with h0 | ⟨b, off, rfl, hb, h5⟩
        · omega
        · exact ⟨b, off, rfl, hb, h5 k hlt⟩
      obtain ⟨b, off, rfl, hb, x1, x2, x3⟩ := hx5
      have hrL := HL.out k hlt
      obtain ⟨av, cv, hve, hvc, h5⟩ := x3
      rcases h5 with h0 | ⟨bv, ov, rfl, hbv, h5⟩
      · omega
      have g1 : wr.cell? ⟨b, off + k * 2, none⟩ = some (.int .i64 (N k)) := by rw [HB.out.cell hb]; exact x1
      have g2 : wr.cell? ⟨b, off + k * 2 + 1, none⟩ = some (.slice (some ⟨bv, ov, none⟩) (L k) cv) := by rw [HB.out.cell hb, x2, hve]
      have gx : wr.cell? ⟨bv, ov + r, none⟩ = some (.int .i64 (X k r)) := by rw [HB.out.cell hbv]; exact h5 r hrL
      have hri : (r : Int) < (L k : Int) := by omega
      have hLb : ((L k : Nat) : Int) * 8 ≤ 140737488351232 := by omega
      have hnk := HN.out k hlt
      have hbA := below_alloc wr (.cells #[.int .i64 (N k), .slice (some ⟨bv, ov, none⟩) (L k) cv] 27)
      have m0 : (wr.alloc (.cells #[.int .i64 (N k), .slice (some ⟨bv, ov, none⟩) (L k) cv] 27)).cell? ⟨wr.heap.size, 0, none⟩ = some (.int .i64 (N k)) := cell_at (heap_alloc_new wr _) rfl
      have m1 : (wr.alloc (.cells #[.int .i64 (N k), .slice (some ⟨bv, ov, none⟩) (L k) cv] 27)).cell? ⟨wr.heap.size, 1, none⟩ = some (.slice (some ⟨bv, ov, none⟩) (L k) cv) := cell_at (heap_alloc_new wr _) rfl
      have m2 : (wr.alloc (.cells #[.int .i64 (N k), .slice (some ⟨bv, ov, none⟩) (L k) cv] 27)).cell? ⟨bv, ov + r, none⟩ = some (.int .i64 (X k r)) := by rw [hbA.cell (cell_lt gx)]; exact gx
      obtain ⟨W, hW⟩ : ∃ W, wr.alloc (.cells #[.int .i64 (N k), .slice (some ⟨bv, ov, none⟩) (L k) cv] 27) = W := ⟨_, rfl⟩
      rw [hW] at hbA m0 m1 m2
      have HBW := hid (HB.out.trans (hbA.mono HB.out.size))
      have hne : Nonempty (Of (Below W.heap.size W)) := ⟨⟨W, Below.refl _ _⟩⟩
      have E0 : ∀ u : Of (Below W.heap.size W), u.val.cell? ⟨wr.heap.size, 0, none⟩ = some (.int .i64 (N k)) := fun u => by rw [u.is.cell (cell_lt m0)]; exact m0
      have E1 : ∀ u : Of (Below W.heap.size W), u.val.cell? ⟨wr.heap.size, 1, none⟩ = some (.slice (some ⟨bv, ov, none⟩) (L k) cv) := fun u => by rw [u.is.cell (cell_lt m1)]; exact m1
      have E2 : ∀ u : Of (Below W.heap.size W), u.val.cell? ⟨bv, ov + r, none⟩ = some (.int .i64 (X k r)) := fun u => by rw [u.is.cell (cell_lt m2)]; exact m2
      have HD1 : Hid (Below W.heap.size W W.drew) := ⟨rfl, rfl, rfl, Nat.le_refl _, fun _ _ => rfl⟩
      clear x1 x2 hve h5 gx hbA
      go_wp2_with fail
      refine region_mixed (Below W.heap.size W) [([0, 1, 2, 3, 4, 5, 6, 7], 8)] [9] (by kernel_rfl) (by kernel_rfl) HD1.out ?_
      refine mixO_cons ?_
      repeat (go_big_quiet_step (fail))
      refine wpQuiet_nil ?_
      intro K hK
      go_wp2_with fail
      refine Calls.mono (shAt bx bz d A B (N k) _ ((HF.out.up HBW.out).up HD1.out) HG.out hnk) ?_
      rintro e w9 ⟨rfl, hb9⟩
      have HB9 := hid (HD1.out.trans (hb9.mono HD1.out.size))
      clear hb9
      obtain ⟨x, hx⟩ : ∃ x, crv d A B (N k) = x := ⟨_, rfl⟩
      obtain ⟨y, hy⟩ : ∃ y, X k r = y := ⟨_, rfl⟩
      rw [hx]
      have HXx := hid hx
      have HYy := hid hy
      clear hx
      go_wp2
      refine ⟨rfl, hK _ _ HB9.out ?_⟩
      clear hK K
      refine mixO_nil ?_
      clear hy
      by_cases hxy : y = x
      · have hb : (y != x) = false := by simpa using hxy
        have HEq := hid hxy
        clear hxy
        repeat (go_big_quiet_step (fail))
        refine wpQuiet_nil ?_
        go_wp2
        go_roundw
        case rel =>
          refine ⟨k + 1, by omega, by go_num, HBW.out.trans (HB9.out.mono HBW.out.size), fun j hj => ?_⟩
          by_cases e : j = k
          · rw [e, HYy.out, HXx.out, HEq.out]
          · exact HE.out j (by omega)
        case measure => simp only [intOf]; omega
      · have hb : (y != x) = true := by simpa using hxy
        have hA := HA.out
        unfold fitsB at hA
        rw [decide_eq_false (fun h => hxy (by rw [← HYy.out, ← HXx.out]; exact h k hlt))] at hA
        subst hA
        clear hxy
        repeat (go_big_quiet_step (fail))
        refine wpQuiet_nil ?_
        go_wp2
        go_ret
        exact ⟨rfl, HBW.out.trans (HB9.out.mono HBW.out.size)⟩
    · have hke : k = m := by omega
      subst hke
      have hA := HA.out
      unfold fitsB at hA
      rw [decide_eq_true HE.out] at hA
      subst hA
      go_wp2
      go_ret
      exact ⟨rfl, HB.out⟩

end Go.Proofs.Ytfcpmpcfbhkacaa
