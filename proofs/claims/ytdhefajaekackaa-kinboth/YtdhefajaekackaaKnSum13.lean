/- Several texts of one proof, in their order. -/
import Derived.Test.YtdhefajaekackaaKnSum11
import Derived.Test.YtdhefajaekackaaKnSum12
import Derived.Maps.AppendAt

/- What package book counts in a map, and which versions it picks. -/
namespace Go.Proofs.Ytdhefajaekackaa

open Go.RowKit Go.Maps
set_option linter.unusedVariables false

set_option maxHeartbeats 1000000 in
theorem bkCount (g m : Nat) (c : Int → Int) (v : Value) (n : Nat) (X : Nat → Int) (M : Nat) (w : World) (hc : CntM w g m c) (hM : ∀ x, 0 ≤ c x ∧ c x ≤ (M : Int)) (hb : M + n ≤ 100000 ∧ m + n ≤ 100000) (h : IntSl w w.heap.size v n X) (hX : ∀ i, i < n → 0 ≤ X i ∧ X i ≤ 1000) :
    Calls Try.prog 54 #[.map (some g), v] w fun e w' => e = .returned (.tuple #[]) ∧ w.grownBy w' (some g) ∧ ∃ c', CntM w' g (m + n) c' ∧ Cnted c c' X M n := by
  obtain ⟨ap, cp, rfl, ⟨hcap, hbig⟩, hpc⟩ := h
  have HPc := hid hpc
  have HXb := hid hX
  have HNe : Hid (∀ (a : Addr) (u : Value), w.cell? a = some u → a.block ≠ g) := fun a u ha => hc.ne ha
  have HC := hid hc
  have HI : Hid (Cnted c c X M 0) := ⟨fun x => by have := hM x; omega, fun x => ⟨fun h => ⟨h, fun j hj => by omega⟩, fun h => h.1⟩⟩
  clear hpc hX hc hM
  go_enter Try.func54, Try.ntmps54
  go_wp2
  go_loopw [8] (fun iv wr => ∃ (i : Nat) (ci : Int → Int), i ≤ n ∧ iv = .int .i64 i ∧ Hid (w.grownBy wr (some g)) ∧ Hid (CntM wr g (m + i) ci) ∧ Hid (Cnted c ci X M i)) (fun iv _ => n - (intOf iv).toNat)
  case atStart => exact ⟨0, c, Nat.zero_le _, rfl, World.grownBy.refl _ _, HC, HI⟩
  case round =>
    obtain ⟨i, ci, hi, rfl, HG, HM, HN⟩ := hrel
    by_cases him : i < n
    · have himi : (i : Int) < (n : Int) := by omega
      rcases HPc.out with h0 | ⟨bp, op, rfl, hbp, hpx⟩
      · omega
      have e0 : wr.cell? ⟨bp, op + i, none⟩ = some (.int .i64 (X i)) := HG.out.cell (hpx i him) (by intro e; injection e with e; exact HNe.out _ _ (hpx i him) e)
      obtain ⟨x, hx⟩ : ∃ x, X i = x := ⟨_, rfl⟩
      rw [hx] at e0
      have hxb := HXb.out i him
      rw [hx] at hxb
      obtain ⟨D, hD, hat⟩ := HM.out
      have HD := hid hD
      have HAt := hid hat
      have HX := hid hx
      have HK := hid (keyInt hxb)
      obtain ⟨cx, hcx⟩ : ∃ cx, ci x = cx := ⟨_, rfl⟩
      have hbd := HN.out.1 x
      rw [hcx] at hbd
      have HCx := hid hcx
      clear hpx hx hD hat hcx
      go_wp2_with (first
        | (at_lookup; refine wpList_lookup_own_int _ rfl _ _ 81 rfl 3 3 .i64 keyedInt Try.underlying81 Try.underlying3 (zeroInt _) g (m + i) _ rfl HD.out _ _ rfl HK.out ?_; intro c0 hat0 hwc; obtain rfl : c0 = cx := (cnt_val HAt.out hat0).trans HCx.out; clear hat0 hwc)
        | (at_mapUpdate; refine wpList_mapUpdate_own _ rfl _ _ _ 81 rfl 3 3 keyedInt Try.underlying81 _ g (m + i) _ rfl HD.out (by unfold maxLen; omega) _ _ _ rfl rfl HK.out _ [] (plainElem_int Try.underlying3 (by first | exact wrap64_wf _ | exact WalkArith.wf_i64 (by omega))) ?_; intro w1 hown1 hgrow1; have HO1 := hid hown1; have HG1 := hid (HG.out.trans hgrow1); clear hown1 hgrow1))
      go_roundw
      case rel => exact ⟨i + 1, fun y => if y = x then c0 + 1 else ci y, by omega, by go_num, HG1, cntM_put HD.out HAt.out HO1.out, by have h := HN.out.step HX.out; rw [HCx.out] at h; exact h⟩
      case measure => simp only [intOf]; omega
    · have hie : n = i := by omega
      subst hie
      go_wp2
      go_end0
      exact ⟨rfl, HG.out, ci, HM.out, HN.out⟩

theorem bkAskB (bx g m : Nat) (c : Int → Int) (k : Int) (hk : 0 ≤ k ∧ k ≤ 1000) (w : World) (hx : w.cell? ⟨bx, 0, none⟩ = some (.map (some g))) (hc : CntM w g m c) :
    Calls Try.prog 57 #[.int .i64 k, .pointer (some ⟨bx, 0, none⟩)] w fun e w' => e = .returned (.bool (decide (0 < c k))) ∧ Below w.heap.size w w' := by
  obtain ⟨D, hD, hat⟩ := hc
  have HD := hid hD
  have HAt := hid hat
  have HK := hid (keyInt hk)
  obtain ⟨cx, hcx⟩ : ∃ cx, c k = cx := ⟨_, rfl⟩
  rw [hcx]
  have HCx := hid hcx
  clear hD hat hcx
  go_enter Try.func57, Try.ntmps57
  go_wp2_with (at_lookup; refine wpList_lookup_own_int _ rfl _ _ 81 rfl 3 3 .i64 keyedInt Try.underlying81 Try.underlying3 (zeroInt _) g m _ rfl HD.out _ _ rfl HK.out ?_; intro c0 hat0 hwc; obtain rfl : c0 = cx := (cnt_val HAt.out hat0).trans HCx.out; clear hat0 hwc)
  go_ret
  refine ⟨?_, Below.refl _ _⟩
  congr 2

set_option maxHeartbeats 1000000 in
theorem bkThoseB (bx g m : Nat) (c : Int → Int) (v : Value) (n : Nat) (hn : n ≤ 1000) (w : World) (hv : ∃ ad cap, v = .slice ad n cap) (hx : w.cell? ⟨bx, 0, none⟩ = some (.map (some g))) (hc : CntM w g m c) :
    Calls Try.prog 55 #[bookV v, .func (.func 57) #[] #[.pointer (some ⟨bx, 0, none⟩)]] w fun e w' => Below w.heap.size w w' ∧ ∃ vo, e = .returned vo ∧ OwnL w w' vo (pickL (fun k => decide (0 < c (k : Int))) n) := by
  have hbx := below_alloc w (.cells #[v] 24)
  obtain ⟨ad, cap, rfl⟩ := hv
  obtain ⟨ii, hii, hzz0, hzz1, hzz2⟩ := info_parts Try.infoInt
  obtain ⟨W, hW⟩ : ∃ W, w.alloc (.cells #[.slice ad n cap] 24) = W := ⟨_, rfl⟩
  rw [hW] at hbx
  have HBx := hid hbx
  have HX : Hid (W.cell? ⟨bx, 0, none⟩ = some (.map (some g))) := by show _ = _; rw [hbx.cell (cell_lt hx)]; exact hx
  have HC := hid (hc.up hbx)
  have b0 : W.cell? ⟨w.heap.size, 0, none⟩ = some (.slice ad n cap) := by rw [← hW]; exact cell_at (heap_alloc_new _ _) rfl
  clear hbx hx hc
  unfold bookV
  go_enter Try.func55, Try.ntmps55
  go_wp2
  clear b0
  go_loopw [5, 10] (fun vo iv wr => ∃ j : Nat, j ≤ n ∧ iv = .int .i64 j ∧ Hid (OwnL W wr vo (pickL (fun k => decide (0 < c (k : Int))) j))) (fun _ iv _ => n - (intOf iv).toNat)
  case atStart => exact ⟨0, Nat.zero_le _, rfl, OwnL.nil _⟩
  case round =>
    obtain ⟨j, hj, rfl, OW⟩ := hrel
    by_cases hlt : j < n
    · have hji : (j : Int) < (n : Int) := by omega
      have hsc := pickL_succ (fun k => decide (0 < c (k : Int))) j
      have hll := pickL_len (fun k => decide (0 < c (k : Int))) j
      have HAk := hid (bkAskB bx g m c (j : Int) (by omega) wr (by rw [OW.out.2.cell (cell_lt HX.out)]; exact HX.out) (HC.out.up (OW.out.2)))
      cases hf : decide (0 < c (j : Int)) with
      | true =>
        rw [hf, if_pos rfl] at hsc
        rw [hf] at HAk
        have HSc := hid hsc
        clear hsc hf
        go_wp2_with fail
        refine Calls.mono HAk.out ?_
        rintro e w2 ⟨rfl, hb2⟩
        have O2 := hid (OW.out.up hb2)
        have hge : W.heap.size ≤ w2.heap.size := O2.out.2.size
        clear hb2
        go_wp2_with (at_builtin; go_must (refine wpList_append_own _ rfl (.tmp 16) (.tmp 18) 25 rfl W.heap.size 3 ii (.int .i64 0) 1 8 Try.underlying25 hii hzz0 hzz1 hzz2 rfl (by decide) _ _ _ rfl (World.ownsRow.alloc O2.out.1 _) ⟨_, 0, none⟩ 1 1 [.int .i64 (j : Int)] rfl rfl (newCell _ _ _) (oneCell _) (by unfold maxLen; omega) (by omega) (by simp; omega) ?_; intro v1 w6 ho6 hg6 _; have O6 := hid (O2.out.push ho6 hg6); clear ho6 hg6))
        go_roundw
        case rel => exact ⟨j + 1, by omega, by go_num, by rw [HSc.out]; exact O6.out⟩
        case measure => simp only [intOf]; omega
      | false =>
        rw [hf, if_neg (by decide), List.append_nil] at hsc
        rw [hf] at HAk
        have HSc := hid hsc
        clear hsc hf
        go_wp2_with fail
        refine Calls.mono HAk.out ?_
        rintro e w2 ⟨rfl, hb2⟩
        have O2 := hid (OW.out.up hb2)
        clear hb2
        go_wp2
        go_roundw
        case rel => exact ⟨j + 1, by omega, by go_num, by rw [HSc.out]; exact O2.out⟩
        case measure => simp only [intOf]; omega
    · have hje : n = j := by omega
      subst hje
      go_wp2
      go_ret
      refine ⟨HBx.out.trans (OW.out.2.mono HBx.out.size), _, rfl, owns_base OW.out.1 HBx.out.size, HBx.out.trans (OW.out.2.mono HBx.out.size)⟩

end Go.Proofs.Ytdhefajaekackaa
