/- Several texts of one proof, in their order. -/
import Derived.Test.YtikchpffkhohlaaGreatSSum4
import Derived.Test.YtikchpffkhohlaaGreatSSum3
import Derived.Laws.ResultCell
import Derived.Laws.Rows

namespace Go.Proofs.YtikchpffkhohlaaGreat
open Go.RowKit
set_option linter.unusedVariables false
def AddPost (w : World) (n : Nat) (b b' : Bk) (PV' : Nat → Value) (e : Ending) (w' : World) : Prop :=
 Below w.heap.size w w' ∧ ∃ (r : Value) (m : Nat), e = .returned (.tuple #[bookV r, .int .i64 (addE n b b')]) ∧ m = (if addE n b b' = 0 then n + 1 else 0) ∧ VeSl w' w'.heap.size r m PV' b'
theorem adds_store {W U w0 : World} {bm n : Nat} {v : Value} {PV : Nat → Value} {b : Bk} (hm : U.heap[bm]? = some (.cells #[.slice none 0 0] 24 (0, 0))) (hv : OwnV w0 U v n PV b) (hW : Below W.heap.size W U) (hb : W.heap.size ≤ bm) :
  Below W.heap.size W (U.setCell ⟨bm, 0, none⟩ v) ∧ (U.setCell ⟨bm, 0, none⟩ v).heap[bm]? = some (.cells #[v] 24 (0, 0)) ∧ (U.setCell ⟨bm, 0, none⟩ v).ownsRow w0.heap.size 60 4 v n (flatV n PV b) :=
 ⟨hW.setCell (p := ⟨bm, 0, none⟩) hb _, by simp [World.setCell, Array.getElem?_modify, hm], owns_set_other hv.1 (owns_ne hv.1 hm (by decide)) _⟩
theorem adds_err {w w5 : World} {n : Nat} {b b' : Bk} {PV' : Nat → Value} {c : Int} {u : Value} (he : addE n b b' = c) (hc : c ≠ 0) (hb : Below w.heap.size w w5) : AddPost w n b b' PV' (.returned (.tuple #[.agg #[.slice none 0 0], .int .i64 c])) (w5.setCell ⟨w.heap.size + 2, 0, none⟩ u) := by
 refine ⟨hb.setCell (p := ⟨w.heap.size + 2, 0, none⟩) (by show w.heap.size ≤ w.heap.size + 2; omega) _, .slice none 0 0, 0, by rw [he]; rfl, by rw [he, if_neg hc], none, 0, rfl, ⟨Nat.le_refl _, by omega⟩, Or.inl rfl⟩
theorem adds_ok {w w5 w0 : World} {n : Nat} {b b' : Bk} {PV' : Nat → Value} {r : Value} (he : addE n b b' = 0) (hb : Below w.heap.size w w5) (ho : w5.ownsRow w0.heap.size 60 4 r (n + 1) (flatV (n + 1) PV' b')) (hs : w.heap.size + 2 < w0.heap.size) (hn : (n + 1) * 48 ≤ 140737488351232)
  (hl : ∀ w', Below w.heap.size w w' → ∀ j, j < n + 1 → IntSl w' w'.heap.size (PV' j) (b'.PL j) (b'.PX j)) : AddPost w n b b' PV' (.returned (.tuple #[.agg #[r], .int .i64 0])) (w5.setCell ⟨w.heap.size + 2, 0, none⟩ r) := by
 have hY := hb.setCell (p := ⟨w.heap.size + 2, 0, none⟩) (by show w.heap.size ≤ w.heap.size + 2; omega) r
 exact ⟨hY, r, n + 1, by rw [he]; rfl, by rw [he, if_pos rfl], rowV_shl (ownsRow_setCell_below ho (a := ⟨w.heap.size + 2, 0, none⟩) hs _) hn (hl _ hY)⟩
set_option maxHeartbeats 8000000 in
set_option maxRecDepth 10000 in
theorem adds_any (v : Value) (n : Nat) (PV : Nat → Value) (b : Bk) (pv : Value) (lp : Nat) (X : Nat → Int) (nd of sz : Int) (w : World) (h : VeSl w w.heap.size v n PV b) (hp : IntSl w w.heap.size pv lp X) :
  Calls Tryz.prog 52 #[bookV v, verV pv nd of sz] w (AddPost w n b (snocB n b lp X nd of sz) (snocP n PV pv)) := by
 have HV := hid h
 have HLs : Hid (∀ w', Below w.heap.size w w' → ∀ j, j < n + 1 → IntSl w' w'.heap.size (snocP n PV pv j) ((snocB n b lp X nd of sz).PL j) ((snocB n b lp X nd of sz).PX j)) := fun w' hb' j hj => by
  by_cases e : j = n
  ·subst e; simp only [snocP, snocB, if_true]; exact hp.up hb'
  ·simp only [snocP, snocB, if_neg e]
   obtain ⟨_, _, _, _, h2⟩ := h
   rcases h2 with h0 | ⟨_, _, _, _, h5⟩
   ·omega
   ·exact (h5 j (by omega)).2.2.2.2.up hb'
 obtain ⟨ad, cap, rfl, ⟨hcap, hbig⟩, hx⟩ := h
 obtain ⟨ap, cp, rfl, _, _⟩ := hp
 obtain ⟨ii, hii, hz0, hz1, hz2⟩ := info_parts Tryz.infoVer
 have hb3 : Below w.heap.size w (((w.alloc (.cells #[.slice ad n cap] 24)).alloc (.cells #[.slice ap lp cp, .int .i64 nd, .int .i64 of, .int .i64 sz] 60)).alloc (.cells #[.slice none 0 0] 24)) := ((Below.refl _ _).alloc (Nat.le_refl _) _).alloc (by simp) _ |>.alloc (by simp; omega) _
 have c1 : (((w.alloc (.cells #[.slice ad n cap] 24)).alloc (.cells #[.slice ap lp cp, .int .i64 nd, .int .i64 of, .int .i64 sz] 60)).alloc (.cells #[.slice none 0 0] 24)).heap[w.heap.size]? = some (.cells #[.slice ad n cap] 24 (0, 0)) := by rw [Below.heap_alloc _ _ _ (by simp; omega), Below.heap_alloc _ _ _ (by simp)]; exact heap_alloc_new _ _
 have c2 : (((w.alloc (.cells #[.slice ad n cap] 24)).alloc (.cells #[.slice ap lp cp, .int .i64 nd, .int .i64 of, .int .i64 sz] 60)).alloc (.cells #[.slice none 0 0] 24)).heap[w.heap.size + 1]? = some (.cells #[.slice ap lp cp, .int .i64 nd, .int .i64 of, .int .i64 sz] 60 (0, 0)) := by
  rw [Below.heap_alloc _ _ _ (by simp)]
  have := heap_alloc_new (w.alloc (.cells #[.slice ad n cap] 24)) (.cells #[.slice ap lp cp, .int .i64 nd, .int .i64 of, .int .i64 sz] 60)
  simpa using this
 have c3 : (((w.alloc (.cells #[.slice ad n cap] 24)).alloc (.cells #[.slice ap lp cp, .int .i64 nd, .int .i64 of, .int .i64 sz] 60)).alloc (.cells #[.slice none 0 0] 24)).heap[w.heap.size + 2]? = some (.cells #[.slice none 0 0] 24 (0, 0)) := by
  have := heap_alloc_new ((w.alloc (.cells #[.slice ad n cap] 24)).alloc (.cells #[.slice ap lp cp, .int .i64 nd, .int .i64 of, .int .i64 sz] 60)) (.cells #[.slice none 0 0] 24)
  simpa using this
 have HCk := hid (checkBook_any _ n PV b _ (HV.out.up hb3))
 obtain ⟨c, hcc⟩ : ∃ c, bookE n b = c := ⟨_, rfl⟩
 rw [hcc] at HCk
 have HB3 := hid hb3
 have HC1 := hid c1
 have HC2 := hid c2
 have HC3 := hid c3
 clear hx hb3 c1 c2 c3
 unfold bookV at HCk
 unfold bookV verV
 go_enter Tryz.func52, Tryz.ntmps52
 go_wp2_with fail
 refine Calls.mono HCk.out ?_
 rintro e W ⟨rfl, hbW⟩
 have d1 : W.heap[w.heap.size]? = some (.cells #[.slice ad n cap] 24 (0, 0)) := by rw [hbW.block _ (Array.getElem?_eq_some_iff.1 HC1.out).1]; exact HC1.out
 have d2 : W.heap[w.heap.size + 1]? = some (.cells #[.slice ap lp cp, .int .i64 nd, .int .i64 of, .int .i64 sz] 60 (0, 0)) := by rw [hbW.block _ (Array.getElem?_eq_some_iff.1 HC2.out).1]; exact HC2.out
 have d3 : W.heap[w.heap.size + 2]? = some (.cells #[.slice none 0 0] 24 (0, 0)) := by rw [hbW.block _ (Array.getElem?_eq_some_iff.1 HC3.out).1]; exact HC3.out
 have HWW := hid (HB3.out.trans (hbW.mono HB3.out.size))
 have HR0 := hid d3
 clear hbW HC1 HC2 HC3 HCk
 by_cases hc0 : c = 0
 ·subst hc0
  have HE0 := hid hcc
  have hn12 : n ≤ 12 := (right_of hcc).le
  clear hcc
  have e1 : W.cell? ⟨w.heap.size, 0, none⟩ = some (.slice ad n cap) := cell_at d1 rfl
  have e20 : W.cell? ⟨w.heap.size + 1, 0, none⟩ = some (.slice ap lp cp) := cell_at d2 rfl
  have e21 : W.cell? ⟨w.heap.size + 1, 1, none⟩ = some (.int .i64 nd) := cell_at d2 rfl
  have e22 : W.cell? ⟨w.heap.size + 1, 2, none⟩ = some (.int .i64 of) := cell_at d2 rfl
  have e23 : W.cell? ⟨w.heap.size + 1, 3, none⟩ = some (.int .i64 sz) := cell_at d2 rfl
  have hne : Nonempty (Of (Below W.heap.size W)) := ⟨⟨W, Below.refl _ _⟩⟩
  have F1 : ∀ u : Of (Below W.heap.size W), u.val.cell? ⟨w.heap.size, 0, none⟩ = some (.slice ad n cap) := fun u => by rw [u.is.cell (cell_lt e1)]; exact e1
  have F20 : ∀ u : Of (Below W.heap.size W), u.val.cell? ⟨w.heap.size + 1, 0, none⟩ = some (.slice ap lp cp) := fun u => by rw [u.is.cell (cell_lt e20)]; exact e20
  have F21 : ∀ u : Of (Below W.heap.size W), u.val.cell? ⟨w.heap.size + 1, 1, none⟩ = some (.int .i64 nd) := fun u => by rw [u.is.cell (cell_lt e21)]; exact e21
  have F22 : ∀ u : Of (Below W.heap.size W), u.val.cell? ⟨w.heap.size + 1, 2, none⟩ = some (.int .i64 of) := fun u => by rw [u.is.cell (cell_lt e22)]; exact e22
  have F23 : ∀ u : Of (Below W.heap.size W), u.val.cell? ⟨w.heap.size + 1, 3, none⟩ = some (.int .i64 sz) := fun u => by rw [u.is.cell (cell_lt e23)]; exact e23
  have hw2 : w.heap.size + 2 < W.heap.size := (Array.getElem?_eq_some_iff.1 d3).1
  clear d1 d2 d3 e1 e20 e21 e22 e23
  go_wp2_with fail
  refine region_tree (Below W.heap.size W) (by kernel_rfl) ?_
  obtain ⟨U0, hU0⟩ : ∃ U, W.drew = U := ⟨_, rfl⟩
  have HD0 : Hid (Below W.heap.size W U0) := by rw [← hU0]; exact ⟨rfl, rfl, rfl, Nat.le_refl _, fun _ _ => rfl⟩
  have HW0 : Hid (Below w.heap.size w U0) := HWW.out.trans (HD0.out.mono HWW.out.size)
  rw [hU0]
  clear hU0
  refine anyM_reads [0, 1, 3] (by kernel_rfl) HD0.out (by rfl) (by kernel_rfl) (by kernel_rfl) (by simp only [pickO, List.getElem?_cons_zero, List.getElem?_cons_succ]; exact rfl) ?_
  repeat (go_big_quiet_step (fail))
  refine wpQuiet_nil ?_
  refine anyM_pick [2, 4, 7] (by kernel_rfl) (by decide) ?_
  intro i hi
  simp only [List.mem_cons, List.not_mem_nil, or_false] at hi
  rcases hi with rfl | rfl | rfl
  ·refine ⟨_, rfl, ?_⟩
   intro K hK
   go_wp2_with fail
   refine Calls.mono (cloneV (HV.out.up HW0.out) (by omega)) ?_
   rintro e U1 ⟨v', rfl, ho⟩
   have BL1 := hid ho.2
   have HOw := hid ho
   have HW1 : Hid (Below w.heap.size w U1) := HW0.out.trans (ho.2.mono HW0.out.size)
   have HD1 : Hid (Below W.heap.size W U1) := HD0.out.trans (ho.2.mono HD0.out.size)
   clear ho
   go_wp2
   refine ⟨rfl, hK _ _ HD1.out ?_⟩
   clear hK K
   refine anyM_pick [4, 7] (by kernel_rfl) (by decide) ?_
   intro i hi
   simp only [List.mem_cons, List.not_mem_nil, or_false] at hi
   rcases hi with rfl | rfl
   ·refine ⟨_, rfl, ?_⟩
    intro K hK
    go_wp2
    have hb := below_alloc U1 (.cells #[.slice ap lp cp, .int .i64 nd, .int .i64 of, .int .i64 sz] 60)
    have hn := heap_alloc_new U1 (.cells #[.slice ap lp cp, .int .i64 nd, .int .i64 of, .int .i64 sz] 60)
    refine ⟨rfl, hK _ _ (HD1.out.trans (hb.mono HD1.out.size)) ?_⟩
    clear hK K
    have HCe := hid (cells_four U1 (.slice ap lp cp) (.int .i64 nd) (.int .i64 of) (.int .i64 sz) 60)
    obtain ⟨U2, hU2⟩ : ∃ U, World.alloc U1 (.cells #[.slice ap lp cp, .int .i64 nd, .int .i64 of, .int .i64 sz] 60) = U := ⟨_, rfl⟩
    rw [hU2] at hb hn HCe ⊢
    have BL2 := hid hb
    have HW2 : Hid (Below w.heap.size w U2) := HW1.out.trans (hb.mono HW1.out.size)
    have HD2 : Hid (Below W.heap.size W U2) := HD1.out.trans (hb.mono HD1.out.size)
    clear hb hn hU2
    refine anyM_pick [5, 7] (by kernel_rfl) (by decide) ?_
    intro i hi
    simp only [List.mem_cons, List.not_mem_nil, or_false] at hi
    rcases hi with rfl | rfl
    ·refine ⟨_, rfl, ?_⟩
     intro K hK
     have hown := (HOw.out.up BL2.out)
     have hce : ∀ j u, ([.slice ap lp cp, .int .i64 nd, .int .i64 of, .int .i64 sz] : List Value)[j]? = some u → U2.cell? (Addr.add ⟨U1.heap.size, 0, none⟩ j) = some u := fun j u hu => by have h9 := HCe.out j u hu; rw [Addr.add_lit] at h9 ⊢; rw [(Below.refl _ _).cell (cell_lt h9)]; exact h9
     have hbs := hown.2.size
     have HOn := hid hown
     have HCf := hid hce
     clear hown hce
     go_wp2_with (at_builtin; go_must (refine wpList_append_own _ rfl (.tmp 17) (.tmp 19) 22 rfl U0.heap.size 60 ii (.agg #[.slice none 0 0, .int .i64 0, .int .i64 0, .int .i64 0]) 4 48 Tryz.underlying22 hii hz0 hz1 hz2 rfl (by decide) _ _ _ rfl HOn.out.1 ⟨_, 0, none⟩ 1 1 [.slice ap lp cp, .int .i64 nd, .int .i64 of, .int .i64 sz] rfl rfl HCf.out (by intro u hu; simp at hu; rcases hu with rfl | rfl | rfl | rfl <;> rfl) (by unfold maxLen; omega) (by omega) (by omega) ?_; intro v9 U3 ho9 hg9 _; have HO9 := hid ho9; have HG9 := hid hg9; clear ho9 hg9))
     have HSz : Hid (w.heap.size + 2 < U0.heap.size) := Nat.lt_of_lt_of_le hw2 HD0.out.size
     have HVn : Hid (OwnV U0 U3 v9 (n + 1) (snocP n PV (.slice ap lp cp)) (snocB n b lp X nd of sz)) := HOn.out.pushV HO9.out HG9.out
     obtain ⟨a9, c9, hs9⟩ := owns_sliceV HVn.out.1
     subst hs9
     have HD3 : Hid (Below W.heap.size W U3) := HD0.out.trans (HVn.out.2.mono HD0.out.size)
     have HW3 : Hid (Below w.heap.size w U3) := HW0.out.trans (HVn.out.2.mono HW0.out.size)
     refine ⟨rfl, hK _ _ HD3.out ?_⟩
     clear hK K
     refine anyM_reads [6] (by kernel_rfl) HD3.out (by rfl) (by kernel_rfl) (by kernel_rfl) (by simp only [pickO, List.getElem?_cons_zero, List.getElem?_cons_succ]; exact rfl) ?_
     repeat (go_big_quiet_step (fail))
     refine wpQuiet_nil ?_
     refine anyM_pick [7] (by kernel_rfl) (by decide) ?_
     intro i hi
     simp only [List.mem_cons, List.not_mem_nil, or_false] at hi
     subst hi
     refine ⟨_, rfl, ?_⟩
     intro K hK
     go_wp2
     have hb := below_alloc U3 (.cells #[.slice none 0 0] 24)
     have hn := heap_alloc_new U3 (.cells #[.slice none 0 0] 24)
     refine ⟨rfl, hK _ _ (HD3.out.trans (hb.mono HD3.out.size)) ?_⟩
     clear hK K
     obtain ⟨U4, hU4⟩ : ∃ U, World.alloc U3 (.cells #[.slice none 0 0] 24) = U := ⟨_, rfl⟩
     rw [hU4] at hb hn ⊢
     have BL4 := hid hb
     have HW4 : Hid (Below w.heap.size w U4) := HW3.out.trans (hb.mono HW3.out.size)
     have HD4 : Hid (Below W.heap.size W U4) := HD3.out.trans (hb.mono HD3.out.size)
     have HMo := hid hn
     clear hb hn hU4
     refine anyM_pick [8] (by kernel_rfl) (by decide) ?_
     intro i hi
     simp only [List.mem_cons, List.not_mem_nil, or_false] at hi
     subst hi
     refine ⟨_, rfl, ?_⟩
     intro K hK
     have hm9 := HMo.out
     have hv9 := (HVn.out.up BL4.out)
     have k0 : U4.cell? ⟨U3.heap.size, 0, none⟩ = some (.slice none 0 0) := cell_at hm9 rfl
     have k1 : U4.frozen? ⟨U3.heap.size, 0, none⟩ = false := frozen_at hm9
     have HFn := hid (adds_store hm9 hv9 HD4.out (by have := HD3.out.size; exact this))
     clear hm9 hv9
     go_wp2
     refine ⟨rfl, hK _ _ HFn.out.1 ?_⟩
     clear hK K
     refine anyM_end (by kernel_rfl) ?_
     obtain ⟨Y, hY⟩ : ∃ Y, World.setCell U4 ⟨U3.heap.size, 0, none⟩ (.slice a9 (n + 1) c9) = Y := ⟨_, rfl⟩
     rw [hY] at HFn ⊢
     have o0 : Y.cell? ⟨U3.heap.size, 0, none⟩ = some (.slice a9 (n + 1) c9) := cell_at HFn.out.2.1 rfl
     have HWY : Hid (Below w.heap.size w Y) := HWW.out.trans (HFn.out.1.mono HWW.out.size)
     have hvs := rowV_shl HFn.out.2.2 (by omega) (HLs.out Y HWY.out)
     have r0 : Y.heap[w.heap.size + 2]? = some (.cells #[.slice none 0 0] 24 (0, 0)) := by rw [HFn.out.1.block _ (Array.getElem?_eq_some_iff.1 HR0.out).1]; exact HR0.out
     have HCk := hid (checkBook_any _ (n + 1) _ _ Y hvs)
     unfold bookV at HCk
     clear hY hvs
     go_wp2_with fail
     refine Calls.mono HCk.out ?_
     rintro e w5 ⟨rfl, hb5⟩
     have r5 : w5.heap[w.heap.size + 2]? = some (.cells #[.slice none 0 0] 24 (0, 0)) := by rw [hb5.block _ (Array.getElem?_eq_some_iff.1 r0).1]; exact r0
     have o5 : w5.cell? ⟨U3.heap.size, 0, none⟩ = some (.slice a9 (n + 1) c9) := by rw [hb5.cell (cell_lt o0)]; exact o0
     have r5c : w5.cell? ⟨w.heap.size + 2, 0, none⟩ = some (.slice none 0 0) := cell_at r5 rfl
     have r5f : w5.frozen? ⟨w.heap.size + 2, 0, none⟩ = false := frozen_at r5
     have HB5 := hid (HWY.out.trans (hb5.mono HWY.out.size))
     have HO5 := hid (owns_below HFn.out.2.2 hb5)
     have HR5 := hid r5
     clear hb5 r0 o0
     obtain ⟨c, hcc⟩ : ∃ c, bookE (n + 1) (snocB n b lp X nd of sz) = c := ⟨_, rfl⟩
     have HAe : Hid (addE n b (snocB n b lp X nd of sz) = c) := by unfold addE; rw [if_pos HE0.out]; exact hcc
     rw [hcc]
     clear hcc
     by_cases hc0 : c = 0
     ·subst hc0
      go_wp2
      refine bodyPost_ret (results_cell2 rfl _ _ (w.heap.size + 2) 24 #[.slice a9 (n + 1) c9] (0, 0) _ rfl (set_one HR5.out _) Tryz.underlying24 rfl (by kernel_rfl)) rfl ?_
      exact adds_ok HAe.out HB5.out HO5.out HSz.out (by omega) HLs.out
     ·have hcb : (c != 0) = true := by simpa using hc0
      have HC0 := hid hc0
      clear hc0
      go_wp2
      refine bodyPost_ret (results_cell2 rfl _ _ (w.heap.size + 2) 24 #[.slice none 0 0] (0, 0) _ rfl (set_one HR5.out _) Tryz.underlying24 rfl (by kernel_rfl)) rfl ?_
      exact adds_err HAe.out HC0.out HB5.out
    ·refine ⟨_, rfl, ?_⟩
     intro K hK
     go_wp2
     have hb := below_alloc U2 (.cells #[.slice none 0 0] 24)
     have hn := heap_alloc_new U2 (.cells #[.slice none 0 0] 24)
     refine ⟨rfl, hK _ _ (HD2.out.trans (hb.mono HD2.out.size)) ?_⟩
     clear hK K
     obtain ⟨U3, hU3⟩ : ∃ U, World.alloc U2 (.cells #[.slice none 0 0] 24) = U := ⟨_, rfl⟩
     rw [hU3] at hb hn ⊢
     have BL3 := hid hb
     have HW3 : Hid (Below w.heap.size w U3) := HW2.out.trans (hb.mono HW2.out.size)
     have HD3 : Hid (Below W.heap.size W U3) := HD2.out.trans (hb.mono HD2.out.size)
     have HMo := hid hn
     clear hb hn hU3
     refine anyM_pick [5] (by kernel_rfl) (by decide) ?_
     intro i hi
     simp only [List.mem_cons, List.not_mem_nil, or_false] at hi
     subst hi
     refine ⟨_, rfl, ?_⟩
     intro K hK
     have hown := (HOw.out.up (BL2.out.trans (BL3.out.mono (BL2.out).size)))
     have hce : ∀ j u, ([.slice ap lp cp, .int .i64 nd, .int .i64 of, .int .i64 sz] : List Value)[j]? = some u → U3.cell? (Addr.add ⟨U1.heap.size, 0, none⟩ j) = some u := fun j u hu => by have h9 := HCe.out j u hu; rw [Addr.add_lit] at h9 ⊢; rw [BL3.out.cell (cell_lt h9)]; exact h9
     have hbs := hown.2.size
     have HOn := hid hown
     have HCf := hid hce
     clear hown hce
     go_wp2_with (at_builtin; go_must (refine wpList_append_own _ rfl (.tmp 17) (.tmp 19) 22 rfl U0.heap.size 60 ii (.agg #[.slice none 0 0, .int .i64 0, .int .i64 0, .int .i64 0]) 4 48 Tryz.underlying22 hii hz0 hz1 hz2 rfl (by decide) _ _ _ rfl HOn.out.1 ⟨_, 0, none⟩ 1 1 [.slice ap lp cp, .int .i64 nd, .int .i64 of, .int .i64 sz] rfl rfl HCf.out (by intro u hu; simp at hu; rcases hu with rfl | rfl | rfl | rfl <;> rfl) (by unfold maxLen; omega) (by omega) (by omega) ?_; intro v9 U4 ho9 hg9 _; have HO9 := hid ho9; have HG9 := hid hg9; clear ho9 hg9))
     have HSz : Hid (w.heap.size + 2 < U0.heap.size) := Nat.lt_of_lt_of_le hw2 HD0.out.size
     have HVn : Hid (OwnV U0 U4 v9 (n + 1) (snocP n PV (.slice ap lp cp)) (snocB n b lp X nd of sz)) := HOn.out.pushV HO9.out HG9.out
     obtain ⟨a9, c9, hs9⟩ := owns_sliceV HVn.out.1
     subst hs9
     have HD4 : Hid (Below W.heap.size W U4) := HD0.out.trans (HVn.out.2.mono HD0.out.size)
     have HW4 : Hid (Below w.heap.size w U4) := HW0.out.trans (HVn.out.2.mono HW0.out.size)
     have HMo2 : Hid (U4.heap[U2.heap.size]? = some (.cells #[.slice none 0 0] 24 (0, 0))) := by
      have h8 : U3.heap[U2.heap.size]? = some (.cells #[.slice none 0 0] 24 (0, 0)) := by rw [(Below.refl _ _).block _ (Array.getElem?_eq_some_iff.1 HMo.out).1]; exact HMo.out
      show U4.heap[U2.heap.size]? = _
      rw [HG9.out.block _ (Array.getElem?_eq_some_iff.1 h8).1 (fun e => owns_ne HOn.out.1 h8 (by decide) e.symm)]; exact h8
     refine ⟨rfl, hK _ _ HD4.out ?_⟩
     clear hK K
     refine anyM_reads [6] (by kernel_rfl) HD4.out (by rfl) (by kernel_rfl) (by kernel_rfl) (by simp only [pickO, List.getElem?_cons_zero, List.getElem?_cons_succ]; exact rfl) ?_
     repeat (go_big_quiet_step (fail))
     refine wpQuiet_nil ?_
     refine anyM_pick [8] (by kernel_rfl) (by decide) ?_
     intro i hi
     simp only [List.mem_cons, List.not_mem_nil, or_false] at hi
     subst hi
     refine ⟨_, rfl, ?_⟩
     intro K hK
     have hm9 := HMo2.out
     have hv9 := HVn.out
     have k0 : U4.cell? ⟨U2.heap.size, 0, none⟩ = some (.slice none 0 0) := cell_at hm9 rfl
     have k1 : U4.frozen? ⟨U2.heap.size, 0, none⟩ = false := frozen_at hm9
     have HFn := hid (adds_store hm9 hv9 HD4.out (by have := HD2.out.size; exact this))
     clear hm9 hv9
     go_wp2
     refine ⟨rfl, hK _ _ HFn.out.1 ?_⟩
     clear hK K
     refine anyM_end (by kernel_rfl) ?_
     obtain ⟨Y, hY⟩ : ∃ Y, World.setCell U4 ⟨U2.heap.size, 0, none⟩ (.slice a9 (n + 1) c9) = Y := ⟨_, rfl⟩
     rw [hY] at HFn ⊢
     have o0 : Y.cell? ⟨U2.heap.size, 0, none⟩ = some (.slice a9 (n + 1) c9) := cell_at HFn.out.2.1 rfl
     have HWY : Hid (Below w.heap.size w Y) := HWW.out.trans (HFn.out.1.mono HWW.out.size)
     have hvs := rowV_shl HFn.out.2.2 (by omega) (HLs.out Y HWY.out)
     have r0 : Y.heap[w.heap.size + 2]? = some (.cells #[.slice none 0 0] 24 (0, 0)) := by rw [HFn.out.1.block _ (Array.getElem?_eq_some_iff.1 HR0.out).1]; exact HR0.out
     have HCk := hid (checkBook_any _ (n + 1) _ _ Y hvs)
     unfold bookV at HCk
     clear hY hvs
     go_wp2_with fail
     refine Calls.mono HCk.out ?_
     rintro e w5 ⟨rfl, hb5⟩
     have r5 : w5.heap[w.heap.size + 2]? = some (.cells #[.slice none 0 0] 24 (0, 0)) := by rw [hb5.block _ (Array.getElem?_eq_some_iff.1 r0).1]; exact r0
     have o5 : w5.cell? ⟨U2.heap.size, 0, none⟩ = some (.slice a9 (n + 1) c9) := by rw [hb5.cell (cell_lt o0)]; exact o0
     have r5c : w5.cell? ⟨w.heap.size + 2, 0, none⟩ = some (.slice none 0 0) := cell_at r5 rfl
     have r5f : w5.frozen? ⟨w.heap.size + 2, 0, none⟩ = false := frozen_at r5
     have HB5 := hid (HWY.out.trans (hb5.mono HWY.out.size))
     have HO5 := hid (owns_below HFn.out.2.2 hb5)
     have HR5 := hid r5
     clear hb5 r0 o0
     obtain ⟨c, hcc⟩ : ∃ c, bookE (n + 1) (snocB n b lp X nd of sz) = c := ⟨_, rfl⟩
     have HAe : Hid (addE n b (snocB n b lp X nd of sz) = c) := by unfold addE; rw [if_pos HE0.out]; exact hcc
     rw [hcc]
     clear hcc
     by_cases hc0 : c = 0
     ·subst hc0
      go_wp2
      refine bodyPost_ret (results_cell2 rfl _ _ (w.heap.size + 2) 24 #[.slice a9 (n + 1) c9] (0, 0) _ rfl (set_one HR5.out _) Tryz.underlying24 rfl (by kernel_rfl)) rfl ?_
      exact adds_ok HAe.out HB5.out HO5.out HSz.out (by omega) HLs.out
     ·have hcb : (c != 0) = true := by simpa using hc0
      have HC0 := hid hc0
      clear hc0
      go_wp2
      refine bodyPost_ret (results_cell2 rfl _ _ (w.heap.size + 2) 24 #[.slice none 0 0] (0, 0) _ rfl (set_one HR5.out _) Tryz.underlying24 rfl (by kernel_rfl)) rfl ?_
      exact adds_err HAe.out HC0.out HB5.out
   ·refine ⟨_, rfl, ?_⟩
    intro K hK
    go_wp2
    have hb := below_alloc U1 (.cells #[.slice none 0 0] 24)
    have hn := heap_alloc_new U1 (.cells #[.slice none 0 0] 24)
    refine ⟨rfl, hK _ _ (HD1.out.trans (hb.mono HD1.out.size)) ?_⟩
    clear hK K
    obtain ⟨U2, hU2⟩ : ∃ U, World.alloc U1 (.cells #[.slice none 0 0] 24) = U := ⟨_, rfl⟩
    rw [hU2] at hb hn ⊢
    have BL2 := hid hb
    have HW2 : Hid (Below w.heap.size w U2) := HW1.out.trans (hb.mono HW1.out.size)
    have HD2 : Hid (Below W.heap.size W U2) := HD1.out.trans (hb.mono HD1.out.size)
    have HMo := hid hn
    clear hb hn hU2
    refine anyM_pick [4] (by kernel_rfl) (by decide) ?_
    intro i hi
    simp only [List.mem_cons, List.not_mem_nil, or_false] at hi
    subst hi
    refine ⟨_, rfl, ?_⟩
    intro K hK
    go_wp2
    have hb := below_alloc U2 (.cells #[.slice ap lp cp, .int .i64 nd, .int .i64 of, .int .i64 sz] 60)
    have hn := heap_alloc_new U2 (.cells #[.slice ap lp cp, .int .i64 nd, .int .i64 of, .int .i64 sz] 60)
    refine ⟨rfl, hK _ _ (HD2.out.trans (hb.mono HD2.out.size)) ?_⟩
    clear hK K
    have HCe := hid (cells_four U2 (.slice ap lp cp) (.int .i64 nd) (.int .i64 of) (.int .i64 sz) 60)
    obtain ⟨U3, hU3⟩ : ∃ U, World.alloc U2 (.cells #[.slice ap lp cp, .int .i64 nd, .int .i64 of, .int .i64 sz] 60) = U := ⟨_, rfl⟩
    rw [hU3] at hb hn HCe ⊢
    have BL3 := hid hb
    have HW3 : Hid (Below w.heap.size w U3) := HW2.out.trans (hb.mono HW2.out.size)
    have HD3 : Hid (Below W.heap.size W U3) := HD2.out.trans (hb.mono HD2.out.size)
    clear hb hn hU3
    refine anyM_pick [5] (by kernel_rfl) (by decide) ?_
    intro i hi
    simp only [List.mem_cons, List.not_mem_nil, or_false] at hi
    subst hi
    refine ⟨_, rfl, ?_⟩
    intro K hK
    have hown := (HOw.out.up (BL2.out.trans (BL3.out.mono (BL2.out).size)))
    have hce : ∀ j u, ([.slice ap lp cp, .int .i64 nd, .int .i64 of, .int .i64 sz] : List Value)[j]? = some u → U3.cell? (Addr.add ⟨U2.heap.size, 0, none⟩ j) = some u := fun j u hu => by have h9 := HCe.out j u hu; rw [Addr.add_lit] at h9 ⊢; rw [(Below.refl _ _).cell (cell_lt h9)]; exact h9
    have hbs := hown.2.size
    have HOn := hid hown
    have HCf := hid hce
    clear hown hce
    go_wp2_with (at_builtin; go_must (refine wpList_append_own _ rfl (.tmp 17) (.tmp 19) 22 rfl U0.heap.size 60 ii (.agg #[.slice none 0 0, .int .i64 0, .int .i64 0, .int .i64 0]) 4 48 Tryz.underlying22 hii hz0 hz1 hz2 rfl (by decide) _ _ _ rfl HOn.out.1 ⟨_, 0, none⟩ 1 1 [.slice ap lp cp, .int .i64 nd, .int .i64 of, .int .i64 sz] rfl rfl HCf.out (by intro u hu; simp at hu; rcases hu with rfl | rfl | rfl | rfl <;> rfl) (by unfold maxLen; omega) (by omega) (by omega) ?_; intro v9 U4 ho9 hg9 _; have HO9 := hid ho9; have HG9 := hid hg9; clear ho9 hg9))
    have HSz : Hid (w.heap.size + 2 < U0.heap.size) := Nat.lt_of_lt_of_le hw2 HD0.out.size
    have HVn : Hid (OwnV U0 U4 v9 (n + 1) (snocP n PV (.slice ap lp cp)) (snocB n b lp X nd of sz)) := HOn.out.pushV HO9.out HG9.out
    obtain ⟨a9, c9, hs9⟩ := owns_sliceV HVn.out.1
    subst hs9
    have HD4 : Hid (Below W.heap.size W U4) := HD0.out.trans (HVn.out.2.mono HD0.out.size)
    have HW4 : Hid (Below w.heap.size w U4) := HW0.out.trans (HVn.out.2.mono HW0.out.size)
    have HMo2 : Hid (U4.heap[U1.heap.size]? = some (.cells #[.slice none 0 0] 24 (0, 0))) := by
     have h8 : U3.heap[U1.heap.size]? = some (.cells #[.slice none 0 0] 24 (0, 0)) := by rw [BL3.out.block _ (Array.getElem?_eq_some_iff.1 HMo.out).1]; exact HMo.out
     show U4.heap[U1.heap.size]? = _
     rw [HG9.out.block _ (Array.getElem?_eq_some_iff.1 h8).1 (fun e => owns_ne HOn.out.1 h8 (by decide) e.symm)]; exact h8
    refine ⟨rfl, hK _ _ HD4.out ?_⟩
    clear hK K
    refine anyM_reads [6] (by kernel_rfl) HD4.out (by rfl) (by kernel_rfl) (by kernel_rfl) (by simp only [pickO, List.getElem?_cons_zero, List.getElem?_cons_succ]; exact rfl) ?_
    repeat (go_big_quiet_step (fail))
    refine wpQuiet_nil ?_
    refine anyM_pick [8] (by kernel_rfl) (by decide) ?_
    intro i hi
    simp only [List.mem_cons, List.not_mem_nil, or_false] at hi
    subst hi
    refine ⟨_, rfl, ?_⟩
    intro K hK
    have hm9 := HMo2.out
    have hv9 := HVn.out
    have k0 : U4.cell? ⟨U1.heap.size, 0, none⟩ = some (.slice none 0 0) := cell_at hm9 rfl
    have k1 : U4.frozen? ⟨U1.heap.size, 0, none⟩ = false := frozen_at hm9
    have HFn := hid (adds_store hm9 hv9 HD4.out (by have := HD1.out.size; exact this))
    clear hm9 hv9
    go_wp2
    refine ⟨rfl, hK _ _ HFn.out.1 ?_⟩
    clear hK K
    refine anyM_end (by kernel_rfl) ?_
    obtain ⟨Y, hY⟩ : ∃ Y, World.setCell U4 ⟨U1.heap.size, 0, none⟩ (.slice a9 (n + 1) c9) = Y := ⟨_, rfl⟩
    rw [hY] at HFn ⊢
    have o0 : Y.cell? ⟨U1.heap.size, 0, none⟩ = some (.slice a9 (n + 1) c9) := cell_at HFn.out.2.1 rfl
    have HWY : Hid (Below w.heap.size w Y) := HWW.out.trans (HFn.out.1.mono HWW.out.size)
    have hvs := rowV_shl HFn.out.2.2 (by omega) (HLs.out Y HWY.out)
    have r0 : Y.heap[w.heap.size + 2]? = some (.cells #[.slice none 0 0] 24 (0, 0)) := by rw [HFn.out.1.block _ (Array.getElem?_eq_some_iff.1 HR0.out).1]; exact HR0.out
    have HCk := hid (checkBook_any _ (n + 1) _ _ Y hvs)
    unfold bookV at HCk
    clear hY hvs
    go_wp2_with fail
    refine Calls.mono HCk.out ?_
    rintro e w5 ⟨rfl, hb5⟩
    have r5 : w5.heap[w.heap.size + 2]? = some (.cells #[.slice none 0 0] 24 (0, 0)) := by rw [hb5.block _ (Array.getElem?_eq_some_iff.1 r0).1]; exact r0
    have o5 : w5.cell? ⟨U1.heap.size, 0, none⟩ = some (.slice a9 (n + 1) c9) := by rw [hb5.cell (cell_lt o0)]; exact o0
    have r5c : w5.cell? ⟨w.heap.size + 2, 0, none⟩ = some (.slice none 0 0) := cell_at r5 rfl
    have r5f : w5.frozen? ⟨w.heap.size + 2, 0, none⟩ = false := frozen_at r5
    have HB5 := hid (HWY.out.trans (hb5.mono HWY.out.size))
    have HO5 := hid (owns_below HFn.out.2.2 hb5)
    have HR5 := hid r5
    clear hb5 r0 o0
    obtain ⟨c, hcc⟩ : ∃ c, bookE (n + 1) (snocB n b lp X nd of sz) = c := ⟨_, rfl⟩
    have HAe : Hid (addE n b (snocB n b lp X nd of sz) = c) := by unfold addE; rw [if_pos HE0.out]; exact hcc
    rw [hcc]
    clear hcc
    by_cases hc0 : c = 0
    ·subst hc0
     go_wp2
     refine bodyPost_ret (results_cell2 rfl _ _ (w.heap.size + 2) 24 #[.slice a9 (n + 1) c9] (0, 0) _ rfl (set_one HR5.out _) Tryz.underlying24 rfl (by kernel_rfl)) rfl ?_
     exact adds_ok HAe.out HB5.out HO5.out HSz.out (by omega) HLs.out
    ·have hcb : (c != 0) = true := by simpa using hc0
     have HC0 := hid hc0
     clear hc0
     go_wp2
     refine bodyPost_ret (results_cell2 rfl _ _ (w.heap.size + 2) 24 #[.slice none 0 0] (0, 0) _ rfl (set_one HR5.out _) Tryz.underlying24 rfl (by kernel_rfl)) rfl ?_
     exact adds_err HAe.out HC0.out HB5.out
  ·refine ⟨_, rfl, ?_⟩
   intro K hK
   go_wp2
   have hb := below_alloc U0 (.cells #[.slice ap lp cp, .int .i64 nd, .int .i64 of, .int .i64 sz] 60)
   have hn := heap_alloc_new U0 (.cells #[.slice ap lp cp, .int .i64 nd, .int .i64 of, .int .i64 sz] 60)
   refine ⟨rfl, hK _ _ (HD0.out.trans (hb.mono HD0.out.size)) ?_⟩
   clear hK K
   have HCe := hid (cells_four U0 (.slice ap lp cp) (.int .i64 nd) (.int .i64 of) (.int .i64 sz) 60)
   obtain ⟨U1, hU1⟩ : ∃ U, World.alloc U0 (.cells #[.slice ap lp cp, .int .i64 nd, .int .i64 of, .int .i64 sz] 60) = U := ⟨_, rfl⟩
   rw [hU1] at hb hn HCe ⊢
   have BL1 := hid hb
   have HW1 : Hid (Below w.heap.size w U1) := HW0.out.trans (hb.mono HW0.out.size)
   have HD1 : Hid (Below W.heap.size W U1) := HD0.out.trans (hb.mono HD0.out.size)
   clear hb hn hU1
   refine anyM_pick [2, 7] (by kernel_rfl) (by decide) ?_
   intro i hi
   simp only [List.mem_cons, List.not_mem_nil, or_false] at hi
   rcases hi with rfl | rfl
   ·refine ⟨_, rfl, ?_⟩
    intro K hK
    go_wp2_with fail
    refine Calls.mono (cloneV (HV.out.up HW1.out) (by omega)) ?_
    rintro e U2 ⟨v', rfl, ho⟩
    have BL2 := hid ho.2
    have HOw := hid ho
    have HW2 : Hid (Below w.heap.size w U2) := HW1.out.trans (ho.2.mono HW1.out.size)
    have HD2 : Hid (Below W.heap.size W U2) := HD1.out.trans (ho.2.mono HD1.out.size)
    clear ho
    go_wp2
    refine ⟨rfl, hK _ _ HD2.out ?_⟩
    clear hK K
    refine anyM_pick [5, 7] (by kernel_rfl) (by decide) ?_
    intro i hi
    simp only [List.mem_cons, List.not_mem_nil, or_false] at hi
    rcases hi with rfl | rfl
    ·refine ⟨_, rfl, ?_⟩
     intro K hK
     have hown := HOw.out
     have hce : ∀ j u, ([.slice ap lp cp, .int .i64 nd, .int .i64 of, .int .i64 sz] : List Value)[j]? = some u → U2.cell? (Addr.add ⟨U0.heap.size, 0, none⟩ j) = some u := fun j u hu => by have h9 := HCe.out j u hu; rw [Addr.add_lit] at h9 ⊢; rw [BL2.out.cell (cell_lt h9)]; exact h9
     have hbs := hown.2.size
     have HOn := hid hown
     have HCf := hid hce
     clear hown hce
     go_wp2_with (at_builtin; go_must (refine wpList_append_own _ rfl (.tmp 17) (.tmp 19) 22 rfl U1.heap.size 60 ii (.agg #[.slice none 0 0, .int .i64 0, .int .i64 0, .int .i64 0]) 4 48 Tryz.underlying22 hii hz0 hz1 hz2 rfl (by decide) _ _ _ rfl HOn.out.1 ⟨_, 0, none⟩ 1 1 [.slice ap lp cp, .int .i64 nd, .int .i64 of, .int .i64 sz] rfl rfl HCf.out (by intro u hu; simp at hu; rcases hu with rfl | rfl | rfl | rfl <;> rfl) (by unfold maxLen; omega) (by omega) (by omega) ?_; intro v9 U3 ho9 hg9 _; have HO9 := hid ho9; have HG9 := hid hg9; clear ho9 hg9))
     have HSz : Hid (w.heap.size + 2 < U1.heap.size) := Nat.lt_of_lt_of_le hw2 HD1.out.size
     have HVn : Hid (OwnV U1 U3 v9 (n + 1) (snocP n PV (.slice ap lp cp)) (snocB n b lp X nd of sz)) := HOn.out.pushV HO9.out HG9.out
     obtain ⟨a9, c9, hs9⟩ := owns_sliceV HVn.out.1
     subst hs9
     have HD3 : Hid (Below W.heap.size W U3) := HD1.out.trans (HVn.out.2.mono HD1.out.size)
     have HW3 : Hid (Below w.heap.size w U3) := HW1.out.trans (HVn.out.2.mono HW1.out.size)
     refine ⟨rfl, hK _ _ HD3.out ?_⟩
     clear hK K
     refine anyM_reads [6] (by kernel_rfl) HD3.out (by rfl) (by kernel_rfl) (by kernel_rfl) (by simp only [pickO, List.getElem?_cons_zero, List.getElem?_cons_succ]; exact rfl) ?_
     repeat (go_big_quiet_step (fail))
     refine wpQuiet_nil ?_
     refine anyM_pick [7] (by kernel_rfl) (by decide) ?_
     intro i hi
     simp only [List.mem_cons, List.not_mem_nil, or_false] at hi
     subst hi
     refine ⟨_, rfl, ?_⟩
     intro K hK
     go_wp2
     have hb := below_alloc U3 (.cells #[.slice none 0 0] 24)
     have hn := heap_alloc_new U3 (.cells #[.slice none 0 0] 24)
     refine ⟨rfl, hK _ _ (HD3.out.trans (hb.mono HD3.out.size)) ?_⟩
     clear hK K
     obtain ⟨U4, hU4⟩ : ∃ U, World.alloc U3 (.cells #[.slice none 0 0] 24) = U := ⟨_, rfl⟩
     rw [hU4] at hb hn ⊢
     have BL4 := hid hb
     have HW4 : Hid (Below w.heap.size w U4) := HW3.out.trans (hb.mono HW3.out.size)
     have HD4 : Hid (Below W.heap.size W U4) := HD3.out.trans (hb.mono HD3.out.size)
     have HMo := hid hn
     clear hb hn hU4
     refine anyM_pick [8] (by kernel_rfl) (by decide) ?_
     intro i hi
     simp only [List.mem_cons, List.not_mem_nil, or_false] at hi
     subst hi
     refine ⟨_, rfl, ?_⟩
     intro K hK
     have hm9 := HMo.out
     have hv9 := (HVn.out.up BL4.out)
     have k0 : U4.cell? ⟨U3.heap.size, 0, none⟩ = some (.slice none 0 0) := cell_at hm9 rfl
     have k1 : U4.frozen? ⟨U3.heap.size, 0, none⟩ = false := frozen_at hm9
     have HFn := hid (adds_store hm9 hv9 HD4.out (by have := HD3.out.size; exact this))
     clear hm9 hv9
     go_wp2
     refine ⟨rfl, hK _ _ HFn.out.1 ?_⟩
     clear hK K
     refine anyM_end (by kernel_rfl) ?_
     obtain ⟨Y, hY⟩ : ∃ Y, World.setCell U4 ⟨U3.heap.size, 0, none⟩ (.slice a9 (n + 1) c9) = Y := ⟨_, rfl⟩
     rw [hY] at HFn ⊢
     have o0 : Y.cell? ⟨U3.heap.size, 0, none⟩ = some (.slice a9 (n + 1) c9) := cell_at HFn.out.2.1 rfl
     have HWY : Hid (Below w.heap.size w Y) := HWW.out.trans (HFn.out.1.mono HWW.out.size)
     have hvs := rowV_shl HFn.out.2.2 (by omega) (HLs.out Y HWY.out)
     have r0 : Y.heap[w.heap.size + 2]? = some (.cells #[.slice none 0 0] 24 (0, 0)) := by rw [HFn.out.1.block _ (Array.getElem?_eq_some_iff.1 HR0.out).1]; exact HR0.out
     have HCk := hid (checkBook_any _ (n + 1) _ _ Y hvs)
     unfold bookV at HCk
     clear hY hvs
     go_wp2_with fail
     refine Calls.mono HCk.out ?_
     rintro e w5 ⟨rfl, hb5⟩
     have r5 : w5.heap[w.heap.size + 2]? = some (.cells #[.slice none 0 0] 24 (0, 0)) := by rw [hb5.block _ (Array.getElem?_eq_some_iff.1 r0).1]; exact r0
     have o5 : w5.cell? ⟨U3.heap.size, 0, none⟩ = some (.slice a9 (n + 1) c9) := by rw [hb5.cell (cell_lt o0)]; exact o0
     have r5c : w5.cell? ⟨w.heap.size + 2, 0, none⟩ = some (.slice none 0 0) := cell_at r5 rfl
     have r5f : w5.frozen? ⟨w.heap.size + 2, 0, none⟩ = false := frozen_at r5
     have HB5 := hid (HWY.out.trans (hb5.mono HWY.out.size))
     have HO5 := hid (owns_below HFn.out.2.2 hb5)
     have HR5 := hid r5
     clear hb5 r0 o0
     obtain ⟨c, hcc⟩ : ∃ c, bookE (n + 1) (snocB n b lp X nd of sz) = c := ⟨_, rfl⟩
     have HAe : Hid (addE n b (snocB n b lp X nd of sz) = c) := by unfold addE; rw [if_pos HE0.out]; exact hcc
     rw [hcc]
     clear hcc
     by_cases hc0 : c = 0
     ·subst hc0
      go_wp2
      refine bodyPost_ret (results_cell2 rfl _ _ (w.heap.size + 2) 24 #[.slice a9 (n + 1) c9] (0, 0) _ rfl (set_one HR5.out _) Tryz.underlying24 rfl (by kernel_rfl)) rfl ?_
      exact adds_ok HAe.out HB5.out HO5.out HSz.out (by omega) HLs.out
     ·have hcb : (c != 0) = true := by simpa using hc0
      have HC0 := hid hc0
      clear hc0
      go_wp2
      refine bodyPost_ret (results_cell2 rfl _ _ (w.heap.size + 2) 24 #[.slice none 0 0] (0, 0) _ rfl (set_one HR5.out _) Tryz.underlying24 rfl (by kernel_rfl)) rfl ?_
      exact adds_err HAe.out HC0.out HB5.out
    ·refine ⟨_, rfl, ?_⟩
     intro K hK
     go_wp2
     have hb := below_alloc U2 (.cells #[.slice none 0 0] 24)
     have hn := heap_alloc_new U2 (.cells #[.slice none 0 0] 24)
     refine ⟨rfl, hK _ _ (HD2.out.trans (hb.mono HD2.out.size)) ?_⟩
     clear hK K
     obtain ⟨U3, hU3⟩ : ∃ U, World.alloc U2 (.cells #[.slice none 0 0] 24) = U := ⟨_, rfl⟩
     rw [hU3] at hb hn ⊢
     have BL3 := hid hb
     have HW3 : Hid (Below w.heap.size w U3) := HW2.out.trans (hb.mono HW2.out.size)
     have HD3 : Hid (Below W.heap.size W U3) := HD2.out.trans (hb.mono HD2.out.size)
     have HMo := hid hn
     clear hb hn hU3
     refine anyM_pick [5] (by kernel_rfl) (by decide) ?_
     intro i hi
     simp only [List.mem_cons, List.not_mem_nil, or_false] at hi
     subst hi
     refine ⟨_, rfl, ?_⟩
     intro K hK
     have hown := (HOw.out.up BL3.out)
     have hce : ∀ j u, ([.slice ap lp cp, .int .i64 nd, .int .i64 of, .int .i64 sz] : List Value)[j]? = some u → U3.cell? (Addr.add ⟨U0.heap.size, 0, none⟩ j) = some u := fun j u hu => by have h9 := HCe.out j u hu; rw [Addr.add_lit] at h9 ⊢; rw [(BL2.out.trans (BL3.out.mono (BL2.out).size)).cell (cell_lt h9)]; exact h9
     have hbs := hown.2.size
     have HOn := hid hown
     have HCf := hid hce
     clear hown hce
     go_wp2_with (at_builtin; go_must (refine wpList_append_own _ rfl (.tmp 17) (.tmp 19) 22 rfl U1.heap.size 60 ii (.agg #[.slice none 0 0, .int .i64 0, .int .i64 0, .int .i64 0]) 4 48 Tryz.underlying22 hii hz0 hz1 hz2 rfl (by decide) _ _ _ rfl HOn.out.1 ⟨_, 0, none⟩ 1 1 [.slice ap lp cp, .int .i64 nd, .int .i64 of, .int .i64 sz] rfl rfl HCf.out (by intro u hu; simp at hu; rcases hu with rfl | rfl | rfl | rfl <;> rfl) (by unfold maxLen; omega) (by omega) (by omega) ?_; intro v9 U4 ho9 hg9 _; have HO9 := hid ho9; have HG9 := hid hg9; clear ho9 hg9))
     have HSz : Hid (w.heap.size + 2 < U1.heap.size) := Nat.lt_of_lt_of_le hw2 HD1.out.size
     have HVn : Hid (OwnV U1 U4 v9 (n + 1) (snocP n PV (.slice ap lp cp)) (snocB n b lp X nd of sz)) := HOn.out.pushV HO9.out HG9.out
     obtain ⟨a9, c9, hs9⟩ := owns_sliceV HVn.out.1
     subst hs9
     have HD4 : Hid (Below W.heap.size W U4) := HD1.out.trans (HVn.out.2.mono HD1.out.size)
     have HW4 : Hid (Below w.heap.size w U4) := HW1.out.trans (HVn.out.2.mono HW1.out.size)
     have HMo2 : Hid (U4.heap[U2.heap.size]? = some (.cells #[.slice none 0 0] 24 (0, 0))) := by
      have h8 : U3.heap[U2.heap.size]? = some (.cells #[.slice none 0 0] 24 (0, 0)) := by rw [(Below.refl _ _).block _ (Array.getElem?_eq_some_iff.1 HMo.out).1]; exact HMo.out
      show U4.heap[U2.heap.size]? = _
      rw [HG9.out.block _ (Array.getElem?_eq_some_iff.1 h8).1 (fun e => owns_ne HOn.out.1 h8 (by decide) e.symm)]; exact h8
     refine ⟨rfl, hK _ _ HD4.out ?_⟩
     clear hK K
     refine anyM_reads [6] (by kernel_rfl) HD4.out (by rfl) (by kernel_rfl) (by kernel_rfl) (by simp only [pickO, List.getElem?_cons_zero, List.getElem?_cons_succ]; exact rfl) ?_
     repeat (go_big_quiet_step (fail))
     refine wpQuiet_nil ?_
     refine anyM_pick [8] (by kernel_rfl) (by decide) ?_
     intro i hi
     simp only [List.mem_cons, List.not_mem_nil, or_false] at hi
     subst hi
     refine ⟨_, rfl, ?_⟩
     intro K hK
     have hm9 := HMo2.out
     have hv9 := HVn.out
     have k0 : U4.cell? ⟨U2.heap.size, 0, none⟩ = some (.slice none 0 0) := cell_at hm9 rfl
     have k1 : U4.frozen? ⟨U2.heap.size, 0, none⟩ = false := frozen_at hm9
     have HFn := hid (adds_store hm9 hv9 HD4.out (by have := HD2.out.size; exact this))
     clear hm9 hv9
     go_wp2
     refine ⟨rfl, hK _ _ HFn.out.1 ?_⟩
     clear hK K
     refine anyM_end (by kernel_rfl) ?_
     obtain ⟨Y, hY⟩ : ∃ Y, World.setCell U4 ⟨U2.heap.size, 0, none⟩ (.slice a9 (n + 1) c9) = Y := ⟨_, rfl⟩
     rw [hY] at HFn ⊢
     have o0 : Y.cell? ⟨U2.heap.size, 0, none⟩ = some (.slice a9 (n + 1) c9) := cell_at HFn.out.2.1 rfl
     have HWY : Hid (Below w.heap.size w Y) := HWW.out.trans (HFn.out.1.mono HWW.out.size)
     have hvs := rowV_shl HFn.out.2.2 (by omega) (HLs.out Y HWY.out)
     have r0 : Y.heap[w.heap.size + 2]? = some (.cells #[.slice none 0 0] 24 (0, 0)) := by rw [HFn.out.1.block _ (Array.getElem?_eq_some_iff.1 HR0.out).1]; exact HR0.out
     have HCk := hid (checkBook_any _ (n + 1) _ _ Y hvs)
     unfold bookV at HCk
     clear hY hvs
     go_wp2_with fail
     refine Calls.mono HCk.out ?_
     rintro e w5 ⟨rfl, hb5⟩
     have r5 : w5.heap[w.heap.size + 2]? = some (.cells #[.slice none 0 0] 24 (0, 0)) := by rw [hb5.block _ (Array.getElem?_eq_some_iff.1 r0).1]; exact r0
     have o5 : w5.cell? ⟨U2.heap.size, 0, none⟩ = some (.slice a9 (n + 1) c9) := by rw [hb5.cell (cell_lt o0)]; exact o0
     have r5c : w5.cell? ⟨w.heap.size + 2, 0, none⟩ = some (.slice none 0 0) := cell_at r5 rfl
     have r5f : w5.frozen? ⟨w.heap.size + 2, 0, none⟩ = false := frozen_at r5
     have HB5 := hid (HWY.out.trans (hb5.mono HWY.out.size))
     have HO5 := hid (owns_below HFn.out.2.2 hb5)
     have HR5 := hid r5
     clear hb5 r0 o0
     obtain ⟨c, hcc⟩ : ∃ c, bookE (n + 1) (snocB n b lp X nd of sz) = c := ⟨_, rfl⟩
     have HAe : Hid (addE n b (snocB n b lp X nd of sz) = c) := by unfold addE; rw [if_pos HE0.out]; exact hcc
     rw [hcc]
     clear hcc
     by_cases hc0 : c = 0
     ·subst hc0
      go_wp2
      refine bodyPost_ret (results_cell2 rfl _ _ (w.heap.size + 2) 24 #[.slice a9 (n + 1) c9] (0, 0) _ rfl (set_one HR5.out _) Tryz.underlying24 rfl (by kernel_rfl)) rfl ?_
      exact adds_ok HAe.out HB5.out HO5.out HSz.out (by omega) HLs.out
     ·have hcb : (c != 0) = true := by simpa using hc0
      have HC0 := hid hc0
      clear hc0
      go_wp2
      refine bodyPost_ret (results_cell2 rfl _ _ (w.heap.size + 2) 24 #[.slice none 0 0] (0, 0) _ rfl (set_one HR5.out _) Tryz.underlying24 rfl (by kernel_rfl)) rfl ?_
      exact adds_err HAe.out HC0.out HB5.out
   ·refine ⟨_, rfl, ?_⟩
    intro K hK
    go_wp2
    have hb := below_alloc U1 (.cells #[.slice none 0 0] 24)
    have hn := heap_alloc_new U1 (.cells #[.slice none 0 0] 24)
    refine ⟨rfl, hK _ _ (HD1.out.trans (hb.mono HD1.out.size)) ?_⟩
    clear hK K
    obtain ⟨U2, hU2⟩ : ∃ U, World.alloc U1 (.cells #[.slice none 0 0] 24) = U := ⟨_, rfl⟩
    rw [hU2] at hb hn ⊢
    have BL2 := hid hb
    have HW2 : Hid (Below w.heap.size w U2) := HW1.out.trans (hb.mono HW1.out.size)
    have HD2 : Hid (Below W.heap.size W U2) := HD1.out.trans (hb.mono HD1.out.size)
    have HMo := hid hn
    clear hb hn hU2
    refine anyM_pick [2] (by kernel_rfl) (by decide) ?_
    intro i hi
    simp only [List.mem_cons, List.not_mem_nil, or_false] at hi
    subst hi
    refine ⟨_, rfl, ?_⟩
    intro K hK
    go_wp2_with fail
    refine Calls.mono (cloneV (HV.out.up HW2.out) (by omega)) ?_
    rintro e U3 ⟨v', rfl, ho⟩
    have BL3 := hid ho.2
    have HOw := hid ho
    have HW3 : Hid (Below w.heap.size w U3) := HW2.out.trans (ho.2.mono HW2.out.size)
    have HD3 : Hid (Below W.heap.size W U3) := HD2.out.trans (ho.2.mono HD2.out.size)
    clear ho
    go_wp2
    refine ⟨rfl, hK _ _ HD3.out ?_⟩
    clear hK K
    refine anyM_pick [5] (by kernel_rfl) (by decide) ?_
    intro i hi
    simp only [List.mem_cons, List.not_mem_nil, or_false] at hi
    subst hi
    refine ⟨_, rfl, ?_⟩
    intro K hK
    have hown := HOw.out
    have hce : ∀ j u, ([.slice ap lp cp, .int .i64 nd, .int .i64 of, .int .i64 sz] : List Value)[j]? = some u → U3.cell? (Addr.add ⟨U0.heap.size, 0, none⟩ j) = some u := fun j u hu => by have h9 := HCe.out j u hu; rw [Addr.add_lit] at h9 ⊢; rw [(BL2.out.trans (BL3.out.mono (BL2.out).size)).cell (cell_lt h9)]; exact h9
    have hbs := hown.2.size
    have HOn := hid hown
    have HCf := hid hce
    clear hown hce
    go_wp2_with (at_builtin; go_must (refine wpList_append_own _ rfl (.tmp 17) (.tmp 19) 22 rfl U2.heap.size 60 ii (.agg #[.slice none 0 0, .int .i64 0, .int .i64 0, .int .i64 0]) 4 48 Tryz.underlying22 hii hz0 hz1 hz2 rfl (by decide) _ _ _ rfl HOn.out.1 ⟨_, 0, none⟩ 1 1 [.slice ap lp cp, .int .i64 nd, .int .i64 of, .int .i64 sz] rfl rfl HCf.out (by intro u hu; simp at hu; rcases hu with rfl | rfl | rfl | rfl <;> rfl) (by unfold maxLen; omega) (by omega) (by omega) ?_; intro v9 U4 ho9 hg9 _; have HO9 := hid ho9; have HG9 := hid hg9; clear ho9 hg9))
    have HSz : Hid (w.heap.size + 2 < U2.heap.size) := Nat.lt_of_lt_of_le hw2 HD2.out.size
    have HVn : Hid (OwnV U2 U4 v9 (n + 1) (snocP n PV (.slice ap lp cp)) (snocB n b lp X nd of sz)) := HOn.out.pushV HO9.out HG9.out
    obtain ⟨a9, c9, hs9⟩ := owns_sliceV HVn.out.1
    subst hs9
    have HD4 : Hid (Below W.heap.size W U4) := HD2.out.trans (HVn.out.2.mono HD2.out.size)
    have HW4 : Hid (Below w.heap.size w U4) := HW2.out.trans (HVn.out.2.mono HW2.out.size)
    have HMo2 : Hid (U4.heap[U1.heap.size]? = some (.cells #[.slice none 0 0] 24 (0, 0))) := by
     have h8 : U3.heap[U1.heap.size]? = some (.cells #[.slice none 0 0] 24 (0, 0)) := by rw [BL3.out.block _ (Array.getElem?_eq_some_iff.1 HMo.out).1]; exact HMo.out
     show U4.heap[U1.heap.size]? = _
     rw [HG9.out.block _ (Array.getElem?_eq_some_iff.1 h8).1 (fun e => owns_ne HOn.out.1 h8 (by decide) e.symm)]; exact h8
    refine ⟨rfl, hK _ _ HD4.out ?_⟩
    clear hK K
    refine anyM_reads [6] (by kernel_rfl) HD4.out (by rfl) (by kernel_rfl) (by kernel_rfl) (by simp only [pickO, List.getElem?_cons_zero, List.getElem?_cons_succ]; exact rfl) ?_
    repeat (go_big_quiet_step (fail))
    refine wpQuiet_nil ?_
    refine anyM_pick [8] (by kernel_rfl) (by decide) ?_
    intro i hi
    simp only [List.mem_cons, List.not_mem_nil, or_false] at hi
    subst hi
    refine ⟨_, rfl, ?_⟩
    intro K hK
    have hm9 := HMo2.out
    have hv9 := HVn.out
    have k0 : U4.cell? ⟨U1.heap.size, 0, none⟩ = some (.slice none 0 0) := cell_at hm9 rfl
    have k1 : U4.frozen? ⟨U1.heap.size, 0, none⟩ = false := frozen_at hm9
    have HFn := hid (adds_store hm9 hv9 HD4.out (by have := HD1.out.size; exact this))
    clear hm9 hv9
    go_wp2
    refine ⟨rfl, hK _ _ HFn.out.1 ?_⟩
    clear hK K
    refine anyM_end (by kernel_rfl) ?_
    obtain ⟨Y, hY⟩ : ∃ Y, World.setCell U4 ⟨U1.heap.size, 0, none⟩ (.slice a9 (n + 1) c9) = Y := ⟨_, rfl⟩
    rw [hY] at HFn ⊢
    have o0 : Y.cell? ⟨U1.heap.size, 0, none⟩ = some (.slice a9 (n + 1) c9) := cell_at HFn.out.2.1 rfl
    have HWY : Hid (Below w.heap.size w Y) := HWW.out.trans (HFn.out.1.mono HWW.out.size)
    have hvs := rowV_shl HFn.out.2.2 (by omega) (HLs.out Y HWY.out)
    have r0 : Y.heap[w.heap.size + 2]? = some (.cells #[.slice none 0 0] 24 (0, 0)) := by rw [HFn.out.1.block _ (Array.getElem?_eq_some_iff.1 HR0.out).1]; exact HR0.out
    have HCk := hid (checkBook_any _ (n + 1) _ _ Y hvs)
    unfold bookV at HCk
    clear hY hvs
    go_wp2_with fail
    refine Calls.mono HCk.out ?_
    rintro e w5 ⟨rfl, hb5⟩
    have r5 : w5.heap[w.heap.size + 2]? = some (.cells #[.slice none 0 0] 24 (0, 0)) := by rw [hb5.block _ (Array.getElem?_eq_some_iff.1 r0).1]; exact r0
    have o5 : w5.cell? ⟨U1.heap.size, 0, none⟩ = some (.slice a9 (n + 1) c9) := by rw [hb5.cell (cell_lt o0)]; exact o0
    have r5c : w5.cell? ⟨w.heap.size + 2, 0, none⟩ = some (.slice none 0 0) := cell_at r5 rfl
    have r5f : w5.frozen? ⟨w.heap.size + 2, 0, none⟩ = false := frozen_at r5
    have HB5 := hid (HWY.out.trans (hb5.mono HWY.out.size))
    have HO5 := hid (owns_below HFn.out.2.2 hb5)
    have HR5 := hid r5
    clear hb5 r0 o0
    obtain ⟨c, hcc⟩ : ∃ c, bookE (n + 1) (snocB n b lp X nd of sz) = c := ⟨_, rfl⟩
    have HAe : Hid (addE n b (snocB n b lp X nd of sz) = c) := by unfold addE; rw [if_pos HE0.out]; exact hcc
    rw [hcc]
    clear hcc
    by_cases hc0 : c = 0
    ·subst hc0
     go_wp2
     refine bodyPost_ret (results_cell2 rfl _ _ (w.heap.size + 2) 24 #[.slice a9 (n + 1) c9] (0, 0) _ rfl (set_one HR5.out _) Tryz.underlying24 rfl (by kernel_rfl)) rfl ?_
     exact adds_ok HAe.out HB5.out HO5.out HSz.out (by omega) HLs.out
    ·have hcb : (c != 0) = true := by simpa using hc0
     have HC0 := hid hc0
     clear hc0
     go_wp2
     refine bodyPost_ret (results_cell2 rfl _ _ (w.heap.size + 2) 24 #[.slice none 0 0] (0, 0) _ rfl (set_one HR5.out _) Tryz.underlying24 rfl (by kernel_rfl)) rfl ?_
     exact adds_err HAe.out HC0.out HB5.out
  ·refine ⟨_, rfl, ?_⟩
   intro K hK
   go_wp2
   have hb := below_alloc U0 (.cells #[.slice none 0 0] 24)
   have hn := heap_alloc_new U0 (.cells #[.slice none 0 0] 24)
   refine ⟨rfl, hK _ _ (HD0.out.trans (hb.mono HD0.out.size)) ?_⟩
   clear hK K
   obtain ⟨U1, hU1⟩ : ∃ U, World.alloc U0 (.cells #[.slice none 0 0] 24) = U := ⟨_, rfl⟩
   rw [hU1] at hb hn ⊢
   have BL1 := hid hb
   have HW1 : Hid (Below w.heap.size w U1) := HW0.out.trans (hb.mono HW0.out.size)
   have HD1 : Hid (Below W.heap.size W U1) := HD0.out.trans (hb.mono HD0.out.size)
   have HMo := hid hn
   clear hb hn hU1
   refine anyM_pick [2, 4] (by kernel_rfl) (by decide) ?_
   intro i hi
   simp only [List.mem_cons, List.not_mem_nil, or_false] at hi
   rcases hi with rfl | rfl
   ·refine ⟨_, rfl, ?_⟩
    intro K hK
    go_wp2_with fail
    refine Calls.mono (cloneV (HV.out.up HW1.out) (by omega)) ?_
    rintro e U2 ⟨v', rfl, ho⟩
    have BL2 := hid ho.2
    have HOw := hid ho
    have HW2 : Hid (Below w.heap.size w U2) := HW1.out.trans (ho.2.mono HW1.out.size)
    have HD2 : Hid (Below W.heap.size W U2) := HD1.out.trans (ho.2.mono HD1.out.size)
    clear ho
    go_wp2
    refine ⟨rfl, hK _ _ HD2.out ?_⟩
    clear hK K
    refine anyM_pick [4] (by kernel_rfl) (by decide) ?_
    intro i hi
    simp only [List.mem_cons, List.not_mem_nil, or_false] at hi
    subst hi
    refine ⟨_, rfl, ?_⟩
    intro K hK
    go_wp2
    have hb := below_alloc U2 (.cells #[.slice ap lp cp, .int .i64 nd, .int .i64 of, .int .i64 sz] 60)
    have hn := heap_alloc_new U2 (.cells #[.slice ap lp cp, .int .i64 nd, .int .i64 of, .int .i64 sz] 60)
    refine ⟨rfl, hK _ _ (HD2.out.trans (hb.mono HD2.out.size)) ?_⟩
    clear hK K
    have HCe := hid (cells_four U2 (.slice ap lp cp) (.int .i64 nd) (.int .i64 of) (.int .i64 sz) 60)
    obtain ⟨U3, hU3⟩ : ∃ U, World.alloc U2 (.cells #[.slice ap lp cp, .int .i64 nd, .int .i64 of, .int .i64 sz] 60) = U := ⟨_, rfl⟩
    rw [hU3] at hb hn HCe ⊢
    have BL3 := hid hb
    have HW3 : Hid (Below w.heap.size w U3) := HW2.out.trans (hb.mono HW2.out.size)
    have HD3 : Hid (Below W.heap.size W U3) := HD2.out.trans (hb.mono HD2.out.size)
    clear hb hn hU3
    refine anyM_pick [5] (by kernel_rfl) (by decide) ?_
    intro i hi
    simp only [List.mem_cons, List.not_mem_nil, or_false] at hi
    subst hi
    refine ⟨_, rfl, ?_⟩
    intro K hK
    have hown := (HOw.out.up BL3.out)
    have hce : ∀ j u, ([.slice ap lp cp, .int .i64 nd, .int .i64 of, .int .i64 sz] : List Value)[j]? = some u → U3.cell? (Addr.add ⟨U2.heap.size, 0, none⟩ j) = some u := fun j u hu => by have h9 := HCe.out j u hu; rw [Addr.add_lit] at h9 ⊢; rw [(Below.refl _ _).cell (cell_lt h9)]; exact h9
    have hbs := hown.2.size
    have HOn := hid hown
    have HCf := hid hce
    clear hown hce
    go_wp2_with (at_builtin; go_must (refine wpList_append_own _ rfl (.tmp 17) (.tmp 19) 22 rfl U1.heap.size 60 ii (.agg #[.slice none 0 0, .int .i64 0, .int .i64 0, .int .i64 0]) 4 48 Tryz.underlying22 hii hz0 hz1 hz2 rfl (by decide) _ _ _ rfl HOn.out.1 ⟨_, 0, none⟩ 1 1 [.slice ap lp cp, .int .i64 nd, .int .i64 of, .int .i64 sz] rfl rfl HCf.out (by intro u hu; simp at hu; rcases hu with rfl | rfl | rfl | rfl <;> rfl) (by unfold maxLen; omega) (by omega) (by omega) ?_; intro v9 U4 ho9 hg9 _; have HO9 := hid ho9; have HG9 := hid hg9; clear ho9 hg9))
    have HSz : Hid (w.heap.size + 2 < U1.heap.size) := Nat.lt_of_lt_of_le hw2 HD1.out.size
    have HVn : Hid (OwnV U1 U4 v9 (n + 1) (snocP n PV (.slice ap lp cp)) (snocB n b lp X nd of sz)) := HOn.out.pushV HO9.out HG9.out
    obtain ⟨a9, c9, hs9⟩ := owns_sliceV HVn.out.1
    subst hs9
    have HD4 : Hid (Below W.heap.size W U4) := HD1.out.trans (HVn.out.2.mono HD1.out.size)
    have HW4 : Hid (Below w.heap.size w U4) := HW1.out.trans (HVn.out.2.mono HW1.out.size)
    have HMo2 : Hid (U4.heap[U0.heap.size]? = some (.cells #[.slice none 0 0] 24 (0, 0))) := by
     have h8 : U3.heap[U0.heap.size]? = some (.cells #[.slice none 0 0] 24 (0, 0)) := by rw [(BL2.out.trans (BL3.out.mono (BL2.out).size)).block _ (Array.getElem?_eq_some_iff.1 HMo.out).1]; exact HMo.out
     show U4.heap[U0.heap.size]? = _
     rw [HG9.out.block _ (Array.getElem?_eq_some_iff.1 h8).1 (fun e => owns_ne HOn.out.1 h8 (by decide) e.symm)]; exact h8
    refine ⟨rfl, hK _ _ HD4.out ?_⟩
    clear hK K
    refine anyM_reads [6] (by kernel_rfl) HD4.out (by rfl) (by kernel_rfl) (by kernel_rfl) (by simp only [pickO, List.getElem?_cons_zero, List.getElem?_cons_succ]; exact rfl) ?_
    repeat (go_big_quiet_step (fail))
    refine wpQuiet_nil ?_
    refine anyM_pick [8] (by kernel_rfl) (by decide) ?_
    intro i hi
    simp only [List.mem_cons, List.not_mem_nil, or_false] at hi
    subst hi
    refine ⟨_, rfl, ?_⟩
    intro K hK
    have hm9 := HMo2.out
    have hv9 := HVn.out
    have k0 : U4.cell? ⟨U0.heap.size, 0, none⟩ = some (.slice none 0 0) := cell_at hm9 rfl
    have k1 : U4.frozen? ⟨U0.heap.size, 0, none⟩ = false := frozen_at hm9
    have HFn := hid (adds_store hm9 hv9 HD4.out (by have := HD0.out.size; exact this))
    clear hm9 hv9
    go_wp2
    refine ⟨rfl, hK _ _ HFn.out.1 ?_⟩
    clear hK K
    refine anyM_end (by kernel_rfl) ?_
    obtain ⟨Y, hY⟩ : ∃ Y, World.setCell U4 ⟨U0.heap.size, 0, none⟩ (.slice a9 (n + 1) c9) = Y := ⟨_, rfl⟩
    rw [hY] at HFn ⊢
    have o0 : Y.cell? ⟨U0.heap.size, 0, none⟩ = some (.slice a9 (n + 1) c9) := cell_at HFn.out.2.1 rfl
    have HWY : Hid (Below w.heap.size w Y) := HWW.out.trans (HFn.out.1.mono HWW.out.size)
    have hvs := rowV_shl HFn.out.2.2 (by omega) (HLs.out Y HWY.out)
    have r0 : Y.heap[w.heap.size + 2]? = some (.cells #[.slice none 0 0] 24 (0, 0)) := by rw [HFn.out.1.block _ (Array.getElem?_eq_some_iff.1 HR0.out).1]; exact HR0.out
    have HCk := hid (checkBook_any _ (n + 1) _ _ Y hvs)
    unfold bookV at HCk
    clear hY hvs
    go_wp2_with fail
    refine Calls.mono HCk.out ?_
    rintro e w5 ⟨rfl, hb5⟩
    have r5 : w5.heap[w.heap.size + 2]? = some (.cells #[.slice none 0 0] 24 (0, 0)) := by rw [hb5.block _ (Array.getElem?_eq_some_iff.1 r0).1]; exact r0
    have o5 : w5.cell? ⟨U0.heap.size, 0, none⟩ = some (.slice a9 (n + 1) c9) := by rw [hb5.cell (cell_lt o0)]; exact o0
    have r5c : w5.cell? ⟨w.heap.size + 2, 0, none⟩ = some (.slice none 0 0) := cell_at r5 rfl
    have r5f : w5.frozen? ⟨w.heap.size + 2, 0, none⟩ = false := frozen_at r5
    have HB5 := hid (HWY.out.trans (hb5.mono HWY.out.size))
    have HO5 := hid (owns_below HFn.out.2.2 hb5)
    have HR5 := hid r5
    clear hb5 r0 o0
    obtain ⟨c, hcc⟩ : ∃ c, bookE (n + 1) (snocB n b lp X nd of sz) = c := ⟨_, rfl⟩
    have HAe : Hid (addE n b (snocB n b lp X nd of sz) = c) := by unfold addE; rw [if_pos HE0.out]; exact hcc
    rw [hcc]
    clear hcc
    by_cases hc0 : c = 0
    ·subst hc0
     go_wp2
     refine bodyPost_ret (results_cell2 rfl _ _ (w.heap.size + 2) 24 #[.slice a9 (n + 1) c9] (0, 0) _ rfl (set_one HR5.out _) Tryz.underlying24 rfl (by kernel_rfl)) rfl ?_
     exact adds_ok HAe.out HB5.out HO5.out HSz.out (by omega) HLs.out
    ·have hcb : (c != 0) = true := by simpa using hc0
     have HC0 := hid hc0
     clear hc0
     go_wp2
     refine bodyPost_ret (results_cell2 rfl _ _ (w.heap.size + 2) 24 #[.slice none 0 0] (0, 0) _ rfl (set_one HR5.out _) Tryz.underlying24 rfl (by kernel_rfl)) rfl ?_
     exact adds_err HAe.out HC0.out HB5.out
   ·refine ⟨_, rfl, ?_⟩
    intro K hK
    go_wp2
    have hb := below_alloc U1 (.cells #[.slice ap lp cp, .int .i64 nd, .int .i64 of, .int .i64 sz] 60)
    have hn := heap_alloc_new U1 (.cells #[.slice ap lp cp, .int .i64 nd, .int .i64 of, .int .i64 sz] 60)
    refine ⟨rfl, hK _ _ (HD1.out.trans (hb.mono HD1.out.size)) ?_⟩
    clear hK K
    have HCe := hid (cells_four U1 (.slice ap lp cp) (.int .i64 nd) (.int .i64 of) (.int .i64 sz) 60)
    obtain ⟨U2, hU2⟩ : ∃ U, World.alloc U1 (.cells #[.slice ap lp cp, .int .i64 nd, .int .i64 of, .int .i64 sz] 60) = U := ⟨_, rfl⟩
    rw [hU2] at hb hn HCe ⊢
    have BL2 := hid hb
    have HW2 : Hid (Below w.heap.size w U2) := HW1.out.trans (hb.mono HW1.out.size)
    have HD2 : Hid (Below W.heap.size W U2) := HD1.out.trans (hb.mono HD1.out.size)
    clear hb hn hU2
    refine anyM_pick [2] (by kernel_rfl) (by decide) ?_
    intro i hi
    simp only [List.mem_cons, List.not_mem_nil, or_false] at hi
    subst hi
    refine ⟨_, rfl, ?_⟩
    intro K hK
    go_wp2_with fail
    refine Calls.mono (cloneV (HV.out.up HW2.out) (by omega)) ?_
    rintro e U3 ⟨v', rfl, ho⟩
    have BL3 := hid ho.2
    have HOw := hid ho
    have HW3 : Hid (Below w.heap.size w U3) := HW2.out.trans (ho.2.mono HW2.out.size)
    have HD3 : Hid (Below W.heap.size W U3) := HD2.out.trans (ho.2.mono HD2.out.size)
    clear ho
    go_wp2
    refine ⟨rfl, hK _ _ HD3.out ?_⟩
    clear hK K
    refine anyM_pick [5] (by kernel_rfl) (by decide) ?_
    intro i hi
    simp only [List.mem_cons, List.not_mem_nil, or_false] at hi
    subst hi
    refine ⟨_, rfl, ?_⟩
    intro K hK
    have hown := HOw.out
    have hce : ∀ j u, ([.slice ap lp cp, .int .i64 nd, .int .i64 of, .int .i64 sz] : List Value)[j]? = some u → U3.cell? (Addr.add ⟨U1.heap.size, 0, none⟩ j) = some u := fun j u hu => by have h9 := HCe.out j u hu; rw [Addr.add_lit] at h9 ⊢; rw [BL3.out.cell (cell_lt h9)]; exact h9
    have hbs := hown.2.size
    have HOn := hid hown
    have HCf := hid hce
    clear hown hce
    go_wp2_with (at_builtin; go_must (refine wpList_append_own _ rfl (.tmp 17) (.tmp 19) 22 rfl U2.heap.size 60 ii (.agg #[.slice none 0 0, .int .i64 0, .int .i64 0, .int .i64 0]) 4 48 Tryz.underlying22 hii hz0 hz1 hz2 rfl (by decide) _ _ _ rfl HOn.out.1 ⟨_, 0, none⟩ 1 1 [.slice ap lp cp, .int .i64 nd, .int .i64 of, .int .i64 sz] rfl rfl HCf.out (by intro u hu; simp at hu; rcases hu with rfl | rfl | rfl | rfl <;> rfl) (by unfold maxLen; omega) (by omega) (by omega) ?_; intro v9 U4 ho9 hg9 _; have HO9 := hid ho9; have HG9 := hid hg9; clear ho9 hg9))
    have HSz : Hid (w.heap.size + 2 < U2.heap.size) := Nat.lt_of_lt_of_le hw2 HD2.out.size
    have HVn : Hid (OwnV U2 U4 v9 (n + 1) (snocP n PV (.slice ap lp cp)) (snocB n b lp X nd of sz)) := HOn.out.pushV HO9.out HG9.out
    obtain ⟨a9, c9, hs9⟩ := owns_sliceV HVn.out.1
    subst hs9
    have HD4 : Hid (Below W.heap.size W U4) := HD2.out.trans (HVn.out.2.mono HD2.out.size)
    have HW4 : Hid (Below w.heap.size w U4) := HW2.out.trans (HVn.out.2.mono HW2.out.size)
    have HMo2 : Hid (U4.heap[U0.heap.size]? = some (.cells #[.slice none 0 0] 24 (0, 0))) := by
     have h8 : U3.heap[U0.heap.size]? = some (.cells #[.slice none 0 0] 24 (0, 0)) := by rw [(BL2.out.trans (BL3.out.mono (BL2.out).size)).block _ (Array.getElem?_eq_some_iff.1 HMo.out).1]; exact HMo.out
     show U4.heap[U0.heap.size]? = _
     rw [HG9.out.block _ (Array.getElem?_eq_some_iff.1 h8).1 (fun e => owns_ne HOn.out.1 h8 (by decide) e.symm)]; exact h8
    refine ⟨rfl, hK _ _ HD4.out ?_⟩
    clear hK K
    refine anyM_reads [6] (by kernel_rfl) HD4.out (by rfl) (by kernel_rfl) (by kernel_rfl) (by simp only [pickO, List.getElem?_cons_zero, List.getElem?_cons_succ]; exact rfl) ?_
    repeat (go_big_quiet_step (fail))
    refine wpQuiet_nil ?_
    refine anyM_pick [8] (by kernel_rfl) (by decide) ?_
    intro i hi
    simp only [List.mem_cons, List.not_mem_nil, or_false] at hi
    subst hi
    refine ⟨_, rfl, ?_⟩
    intro K hK
    have hm9 := HMo2.out
    have hv9 := HVn.out
    have k0 : U4.cell? ⟨U0.heap.size, 0, none⟩ = some (.slice none 0 0) := cell_at hm9 rfl
    have k1 : U4.frozen? ⟨U0.heap.size, 0, none⟩ = false := frozen_at hm9
    have HFn := hid (adds_store hm9 hv9 HD4.out (by have := HD0.out.size; exact this))
    clear hm9 hv9
    go_wp2
    refine ⟨rfl, hK _ _ HFn.out.1 ?_⟩
    clear hK K
    refine anyM_end (by kernel_rfl) ?_
    obtain ⟨Y, hY⟩ : ∃ Y, World.setCell U4 ⟨U0.heap.size, 0, none⟩ (.slice a9 (n + 1) c9) = Y := ⟨_, rfl⟩
    rw [hY] at HFn ⊢
    have o0 : Y.cell? ⟨U0.heap.size, 0, none⟩ = some (.slice a9 (n + 1) c9) := cell_at HFn.out.2.1 rfl
    have HWY : Hid (Below w.heap.size w Y) := HWW.out.trans (HFn.out.1.mono HWW.out.size)
    have hvs := rowV_shl HFn.out.2.2 (by omega) (HLs.out Y HWY.out)
    have r0 : Y.heap[w.heap.size + 2]? = some (.cells #[.slice none 0 0] 24 (0, 0)) := by rw [HFn.out.1.block _ (Array.getElem?_eq_some_iff.1 HR0.out).1]; exact HR0.out
    have HCk := hid (checkBook_any _ (n + 1) _ _ Y hvs)
    unfold bookV at HCk
    clear hY hvs
    go_wp2_with fail
    refine Calls.mono HCk.out ?_
    rintro e w5 ⟨rfl, hb5⟩
    have r5 : w5.heap[w.heap.size + 2]? = some (.cells #[.slice none 0 0] 24 (0, 0)) := by rw [hb5.block _ (Array.getElem?_eq_some_iff.1 r0).1]; exact r0
    have o5 : w5.cell? ⟨U0.heap.size, 0, none⟩ = some (.slice a9 (n + 1) c9) := by rw [hb5.cell (cell_lt o0)]; exact o0
    have r5c : w5.cell? ⟨w.heap.size + 2, 0, none⟩ = some (.slice none 0 0) := cell_at r5 rfl
    have r5f : w5.frozen? ⟨w.heap.size + 2, 0, none⟩ = false := frozen_at r5
    have HB5 := hid (HWY.out.trans (hb5.mono HWY.out.size))
    have HO5 := hid (owns_below HFn.out.2.2 hb5)
    have HR5 := hid r5
    clear hb5 r0 o0
    obtain ⟨c, hcc⟩ : ∃ c, bookE (n + 1) (snocB n b lp X nd of sz) = c := ⟨_, rfl⟩
    have HAe : Hid (addE n b (snocB n b lp X nd of sz) = c) := by unfold addE; rw [if_pos HE0.out]; exact hcc
    rw [hcc]
    clear hcc
    by_cases hc0 : c = 0
    ·subst hc0
     go_wp2
     refine bodyPost_ret (results_cell2 rfl _ _ (w.heap.size + 2) 24 #[.slice a9 (n + 1) c9] (0, 0) _ rfl (set_one HR5.out _) Tryz.underlying24 rfl (by kernel_rfl)) rfl ?_
     exact adds_ok HAe.out HB5.out HO5.out HSz.out (by omega) HLs.out
    ·have hcb : (c != 0) = true := by simpa using hc0
     have HC0 := hid hc0
     clear hc0
     go_wp2
     refine bodyPost_ret (results_cell2 rfl _ _ (w.heap.size + 2) 24 #[.slice none 0 0] (0, 0) _ rfl (set_one HR5.out _) Tryz.underlying24 rfl (by kernel_rfl)) rfl ?_
     exact adds_err HAe.out HC0.out HB5.out
 ·have hcb : (c != 0) = true := by simpa using hc0
  have hae : addE n b (snocB n b lp X nd of sz) = c := by unfold addE; rw [hcc, if_neg hc0]
  have HAe := hid hae
  clear hae
  have HC0 := hid hc0
  have r5c : W.cell? ⟨w.heap.size + 2, 0, none⟩ = some (.slice none 0 0) := cell_at d3 rfl
  have r5f : W.frozen? ⟨w.heap.size + 2, 0, none⟩ = false := frozen_at d3
  clear hc0 hcc d1 d2 d3
  go_wp2
  refine bodyPost_ret (results_cell2 rfl _ _ (w.heap.size + 2) 24 #[.slice none 0 0] (0, 0) _ rfl (set_one HR0.out _) Tryz.underlying24 rfl (by kernel_rfl)) rfl ?_
  exact adds_err HAe.out HC0.out HWW.out
end Go.Proofs.YtikchpffkhohlaaGreat
