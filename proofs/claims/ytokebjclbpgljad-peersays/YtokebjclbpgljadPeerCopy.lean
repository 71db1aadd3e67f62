/- A kept one copied whole: its numbers in memory of their own (peer.own: make, copy, a new struct). -/
import Derived.Test.YtokebjclbpgljadPeerOwes
import Derived.Test.YtokebjclbpgljadBookCodeB
namespace Go.Proofs.Ytokebjclbpgljad
open Go.RowKit
set_option linter.unusedVariables false

set_option maxHeartbeats 1000000 in
theorem peOwn (uv : Value) (m : Nat) (X : Nat → Int) (ver N : Int) (w : World) (h : IntSl w w.heap.size uv m X) :
    Calls Try.prog 59 #[keptV ver N uv] w fun e w' => Below w.heap.size w w' ∧ ∃ uv', e = .returned (keptV ver N uv') ∧ IntSl w' w'.heap.size uv' m X ∧ Above w.heap.size uv' := by
  have hbA := ((Below.refl w.heap.size w).alloc (Nat.le_refl _) (.cells #[.int .i64 ver, .int .i64 N, uv] 58)).alloc (by simp) (.cells #[.int .i64 0, .int .i64 0, .slice none 0 0] 58)
  have HI := hid h
  obtain ⟨ap, cp, rfl, ⟨hcap, hbig⟩, hpc⟩ := h
  obtain ⟨W, hW⟩ : ∃ W, (w.alloc (.cells #[.int .i64 ver, .int .i64 N, .slice ap m cp] 58)).alloc (.cells #[.int .i64 0, .int .i64 0, .slice none 0 0] 58) = W := ⟨_, rfl⟩
  rw [hW] at hbA
  have k0 : W.heap[w.heap.size]? = some (.cells #[.int .i64 ver, .int .i64 N, .slice ap m cp] 58 (0, 0)) := by rw [← hW]; exact heap_two_old w _ _
  have k1 : W.heap[w.heap.size + 1]? = some (.cells #[.int .i64 0, .int .i64 0, .slice none 0 0] 58 (0, 0)) := by rw [← hW]; exact heap_two_new w _ _
  have hsz : w.heap.size + 1 < W.heap.size := (Array.getElem?_eq_some_iff.1 k1).1
  have s0 : W.cell? ⟨w.heap.size, 2, none⟩ = some (.slice ap m cp) := cell_at k0 rfl
  obtain ⟨ii, hii, hz0, hz1, hz2⟩ := info_parts Try.infoInt
  have HBW := hid hbA
  have HK0 := hid k0
  have HK1 := hid k1
  have HSz := hid hsz
  clear hbA hpc k0 k1 hsz
  unfold keptV
  go_enter Try.func59, Try.ntmps59
  go_wp2_with (at_make; refine wpList_make_full _ rfl (.tmp 7) (.tmp 7) 25 rfl _ 3 ii (.int .i64 0) 1 Try.underlying25 hii hz0 hz1 _ _ _ _ m rfl rfl rfl rfl (by rw [hz2]; omega) (by unfold maxLen; omega) (Nat.le_refl _) ?_; intro w1 ho1 hg1; have HB1 := hid (below_of_grown hg1); have t0 : w1.cell? ⟨w.heap.size, 2, none⟩ = some (.slice ap m cp) := (HB1.out.cell (cell_lt s0)).trans s0; obtain ⟨w2, hrun, hm2, hb2⟩ := copy_all (made_block ho1) ((HI.out.up HBW.out).up HB1.out) HB1.out; have HM2 := hid hm2; have HB2 := hid hb2; obtain ⟨c0, c1, c2⟩ := three_at ((hb2.block _ (Nat.lt_of_succ_lt HSz.out)).trans HK0.out); obtain ⟨d0, d1, d2⟩ := three_at ((hb2.block _ HSz.out).trans HK1.out); have f0 := frozen_at (i := 0) ((hb2.block _ HSz.out).trans HK1.out); have f1 := frozen_at (i := 1) ((hb2.block _ HSz.out).trans HK1.out); have f2 := frozen_at (i := 2) ((hb2.block _ HSz.out).trans HK1.out); clear ho1 hg1 hm2 hb2)
  have hB3 : Below w.heap.size w (put3 w2 (w.heap.size + 1) (.int .i64 ver) (.int .i64 N) (.slice (some ⟨W.heap.size, 0, none⟩) m m)) := put3_below (HBW.out.trans (HB2.out.mono HBW.out.size)) (by omega)
  have hH := put3_whole ((HB2.out.block _ HSz.out).trans HK1.out) (.int .i64 ver) (.int .i64 N) (.slice (some ⟨W.heap.size, 0, none⟩) m m)
  refine bodyPost_ret (results_cell_row rfl _ _ (w.heap.size + 1) 58 #[.int .i64 ver, .int .i64 N, .slice (some ⟨W.heap.size, 0, none⟩) m m] (0, 0) _ rfl hH Try.underlying58 rfl (by kernel_rfl)) rfl ?_
  refine ⟨hB3, _, rfl, ⟨_, _, rfl, ⟨Nat.le_refl _, by omega⟩, ?_⟩, fun ad n' c' e' => by injection e' with e1; injection e1 with e1; subst e1; exact HBW.out.size⟩
  by_cases hm : m = 0
  · exact Or.inl hm
  · have hsz := HSz.out
    have hc : ∀ j, j < m → (put3 w2 (w.heap.size + 1) (.int .i64 ver) (.int .i64 N) (.slice (some ⟨W.heap.size, 0, none⟩) m m)).cell? ⟨W.heap.size, 0 + j, none⟩ = some (.int .i64 (X j)) := fun j hj => by
      have h9 := HM2.out j hj
      rw [World.cell?] at h9 ⊢
      rw [put3_other (by show W.heap.size ≠ w.heap.size + 1; omega), Nat.zero_add]
      exact h9
    exact Or.inr ⟨_, 0, rfl, cell_lt (hc 0 (by omega)), hc⟩

end Go.Proofs.Ytokebjclbpgljad
