/- Several texts of one proof, in their order. -/
import Derived.Test.YtjfnpjmhippdoafGreatFinds23
import Derived.Test.YtjfnpjmhippdoafGreatFinds9

/- A mesh copied whole (mesh.whole): its versions, its peers, what they keep, in memory of their own (written by a program). -/
namespace Go.Proofs.YtjfnpjmhippdoafGreat

open Go.RowKit Go.Maps CurveMath
set_option linter.unusedVariables false

/-- the three that are made first, in whatever order -/
structure WmMade (W w' : World) (n np gv gp gc : Nat) : Prop where
  below : Below W.heap.size W w'
  ver : CRow w' gv 60 (n * 4) 0 (fun _ => undef)
  prow : CRow w' gp 45 (np * 3) 0 (fun _ => undef)
  cc : w'.heap[gc]? = some (.cells #[.slice none 0 0, .slice none 0 0] 27 (0, 0))
  ge : W.heap.size ≤ gv ∧ W.heap.size ≤ gp ∧ W.heap.size ≤ gc
  ne : gv ≠ gp ∧ gv ≠ gc ∧ gp ≠ gc

theorem WmMade.start {w W w' : World} {ab : Option Addr} {n cb : Nat} {al : Option Addr} {np cl gv gp gc : Nat} {b : Bk} (h : WmMade W w' n np gv gp gc) (hb : Below w.heap.size w W)
    (k1 : W.heap[w.heap.size]? = some (.cells #[.slice ab n cb, .slice al np cl] 27 (0, 0))) (k2 : W.heap[w.heap.size + 1]? = some (.cells #[.slice none 0 0, .slice none 0 0] 27 (0, 0))) :
    W1Inv w (put2 w' gc (.slice (some ⟨gv, 0, none⟩) n n) (.slice (some ⟨gp, 0, none⟩) np np)) ab n cb al np cl gv gp gc w'.heap.size b 0 (fun _ => undef) := by
  obtain ⟨g1, g2, g3⟩ := h.ge
  obtain ⟨n1, n2, n3⟩ := h.ne
  have l2 : w.heap.size + 1 < W.heap.size := (Array.getElem?_eq_some_iff.1 k2).1
  have lc : gc < w'.heap.size := (Array.getElem?_eq_some_iff.1 h.cc).1
  have hB : Below W.heap.size W (put2 w' gc (.slice (some ⟨gv, 0, none⟩) n n) (.slice (some ⟨gp, 0, none⟩) np np)) := put2_below h.below g3
  refine ⟨⟨hb.trans (hB.mono hb.size), stayB k1 hB, stayB k2 hB, put2_whole h.cc _ _, by omega, ⟨n1, n2, n3⟩, ⟨h.ver.lt, h.prow.lt, lc⟩⟩, ?_, (h.prow.other n3 _).other n3 _, fun j hj => by omega, by rw [put2_size]; exact Nat.le_refl _⟩
  exact ((h.ver.other n2 _).other n2 _).congr fun i hi => by omega

set_option maxHeartbeats 16000000 in
set_option maxRecDepth 10000 in
theorem msWhole (vb : Value) (n : Nat) (PV : Nat → Value) (b : Bk) (vl : Value) (np : Nat) (KV : Nat → Value) (UV : Nat → Nat → Value) (P : Ps) (w : World) (hv : VeSl w w.heap.size vb n PV b) (hl : PsSl w w.heap.size vl np KV UV P) (hn : n ≤ 1000) (hnp : np ≤ 1000) :
    Calls Tryz.prog 57 #[meshV vb vl] w (WmPost w n b np P) := by
  have hb0 := ((Below.refl w.heap.size w).alloc (Nat.le_refl _) (.cells #[vb, vl] 27)).alloc (by simp) (.cells #[.slice none 0 0, .slice none 0 0] 27)
  have k1 := heap_two_old w (.cells #[vb, vl] 27) (.cells #[.slice none 0 0, .slice none 0 0] 27)
  have k2 := heap_two_new w (.cells #[vb, vl] 27) (.cells #[.slice none 0 0, .slice none 0 0] 27)
  obtain ⟨W, hW⟩ : ∃ W, (w.alloc (.cells #[vb, vl] 27)).alloc (.cells #[.slice none 0 0, .slice none 0 0] 27) = W := ⟨_, rfl⟩
  rw [hW] at hb0 k1 k2
  have HL := hid hl
  obtain ⟨ad, cap0, rfl, ⟨_, hbv⟩, hxv⟩ := hv
  obtain ⟨al, cl, rfl, _, _⟩ := hl
  obtain ⟨iv, hiv, hvz0, hvz1, hvz2⟩ := info_parts Tryz.infoVer
  obtain ⟨ip, hip, hpz0, hpz1, hpz2⟩ := info_parts Tryz.infoPeer
  obtain ⟨ik, hik, hkz0, hkz1, hkz2⟩ := info_parts Tryz.infoKept
  obtain ⟨m0, m1⟩ := two_at k1
  have B0 := hid hb0
  have K1 := hid k1
  have K2 := hid k2
  have HX := hid hxv
  have HW := hid hW
  clear hb0 k1 k2 hxv hW
  unfold meshV
  go_enter Tryz.func57, Tryz.ntmps57
  go_wp2_with fail
  rw [HW.out]
  refine region_tree_to (Below W.heap.size W) 12 #[true, true, true, true, true, true, true, true, true, true, true, true, false] 12 (fun a' w' => ∃ gv gp gc : Nat, (∃ j10 j11 j12 j13 j14 j15 j16 j17 j18 j19 : Value, a' = ⟨#[.agg #[.slice ad n cap0, .slice al np cl], .pointer (some ⟨w.heap.size, 0, none⟩), .pointer (some ⟨w.heap.size + 1, 0, none⟩), .pointer (some ⟨gc, 0, none⟩), undef, undef, undef, undef, undef, undef, j10, j11, j12, j13, j14, j15, j16, j17, j18, j19, .agg #[.slice (some ⟨gv, 0, none⟩) n n, .slice (some ⟨gp, 0, none⟩) np np], undef, undef, undef, undef, undef, undef, undef, undef, undef, undef, undef, undef, undef, undef, undef, undef, undef, undef, undef, undef, undef, undef, undef, undef, undef, undef, undef, undef, undef, undef, undef, undef, undef, undef, undef, undef, undef, undef, undef, undef, undef, undef, undef, undef, undef, undef, undef, undef, undef, undef, undef, undef, undef, undef, undef, undef, undef, undef, undef, undef, undef, undef, undef, undef, undef, undef, undef, undef, undef, undef, undef, undef], []⟩) ∧ WmMade W w' n np gv gp gc) (by kernel_rfl) (by kernel_rfl) (by kernel_rfl) rfl (by simp only [pickO, List.getElem?_cons_zero, List.getElem?_cons_succ]; exact rfl) rfl ?_ ?_
  · obtain ⟨U0, hU0⟩ : ∃ u, W.drew = u := ⟨_, rfl⟩
    have HD : Hid (Below W.heap.size W U0) := by rw [← hU0]; exact drew_below W
    rw [hU0]
    clear hU0
    have hne : Nonempty (Of (Below W.heap.size W)) := ⟨⟨W, Below.refl _ _⟩⟩
    have F0 : ∀ u : Of (Below W.heap.size W), u.val.cell? ⟨w.heap.size, 0, none⟩ = some (.slice ad n cap0) := fun u => by rw [u.is.cell (cell_lt m0)]; exact m0
    have F1 : ∀ u : Of (Below W.heap.size W), u.val.cell? ⟨w.heap.size, 1, none⟩ = some (.slice al np cl) := fun u => by rw [u.is.cell (cell_lt m1)]; exact m1
    refine anyL_readsO (f := 5) (c := 12) (q := [0, 1, 2, 3, 6, 7, 8]) (by simp only [pickO, List.getElem?_cons_zero, List.getElem?_cons_succ]; exact rfl) (by kernel_rfl) (by kernel_rfl) HD.out (by kernel_rfl) (by kernel_rfl) (by kernel_rfl) ?_
    repeat (go_big_quiet_step (fail))
    refine wpQuiet_nil ?_
    clear m0 m1
    refine anyL_pick (f := 4) [4, 9, 11] (by kernel_rfl) (by decide) ?_
    intro i hi
    simp only [List.mem_cons, List.not_mem_nil, or_false] at hi
    rcases hi with rfl | rfl | rfl
    · refine ⟨_, rfl, ?_⟩
      intro K hK
      go_wp2_with (at_make; refine wpList_make_full _ rfl (.tmp 13) (.tmp 13) 22 rfl _ 60 iv (.agg #[.slice none 0 0, .int .i64 0, .int .i64 0, .int .i64 0]) 4 Tryz.underlying22 hiv hvz0 hvz1 _ _ _ _ n rfl rfl rfl rfl (by rw [hvz2]; omega) (by unfold maxLen; omega) (Nat.le_refl _) ?_; intro U1 ho1 hg1; have hb := below_of_grown hg1; have RV := hid (CRow.made ho1 (fun _ => undef)); have HB1 := hid hb; clear ho1 hg1 hb)
      have hb := HB1.out
      have LV : W.heap.size ≤ U0.heap.size := HD.out.size
      have Z0 : U0.heap.size < U1.heap.size := RV.out.lt
      replace HD := hid (HD.out.trans (hb.mono HD.out.size))
      clear hb HB1
      refine ⟨rfl, hK _ _ HD.out ?_⟩
      clear hK K
      refine anyL_readsO (f := 3) (c := 12) (q := [5]) (by simp only [pickO, List.getElem?_cons_zero, List.getElem?_cons_succ]; exact rfl) (by kernel_rfl) (by kernel_rfl) HD.out (by kernel_rfl) (by kernel_rfl) (by kernel_rfl) ?_
      repeat (go_big_quiet_step (fail))
      refine wpQuiet_nil ?_
      refine anyL_pick (f := 2) [9, 11] (by kernel_rfl) (by decide) ?_
      intro i hi
      simp only [List.mem_cons, List.not_mem_nil, or_false] at hi
      rcases hi with rfl | rfl
      · refine ⟨_, rfl, ?_⟩
        intro K hK
        go_wp2_with (at_make; refine wpList_make_full _ rfl (.tmp 18) (.tmp 18) 25 rfl _ 45 ip (.agg #[.bool false, .int .i64 0, .slice none 0 0]) 3 Tryz.underlying25 hip hpz0 hpz1 _ _ _ _ np rfl rfl rfl rfl (by rw [hpz2]; omega) (by unfold maxLen; omega) (Nat.le_refl _) ?_; intro U2 ho1 hg1; have hb := below_of_grown hg1; have RP := hid (CRow.made ho1 (fun _ => undef)); have HB1 := hid hb; clear ho1 hg1 hb)
        have hb := HB1.out
        have LP : W.heap.size ≤ U1.heap.size := HD.out.size
        have Z1 : U1.heap.size < U2.heap.size := RP.out.lt
        replace RV := hid (RV.out.up hb)
        replace HD := hid (HD.out.trans (hb.mono HD.out.size))
        clear hb HB1
        refine ⟨rfl, hK _ _ HD.out ?_⟩
        clear hK K
        refine anyL_readsO (f := 1) (c := 12) (q := [10]) (by simp only [pickO, List.getElem?_cons_zero, List.getElem?_cons_succ]; exact rfl) (by kernel_rfl) (by kernel_rfl) HD.out (by kernel_rfl) (by kernel_rfl) (by kernel_rfl) ?_
        repeat (go_big_quiet_step (fail))
        refine wpQuiet_nil ?_
        refine anyL_pick (f := 0) [11] (by kernel_rfl) (by decide) ?_
        intro i hi
        simp only [List.mem_cons, List.not_mem_nil, or_false] at hi
        subst hi
        refine ⟨_, rfl, ?_⟩
        intro K hK
        go_wp2
        have hb := below_alloc U2 (.cells #[.slice none 0 0, .slice none 0 0] 27)
        have KC := hid (heap_alloc_new U2 (.cells #[.slice none 0 0, .slice none 0 0] 27))
        obtain ⟨U3, hV⟩ : ∃ v, World.alloc U2 (.cells #[.slice none 0 0, .slice none 0 0] 27) = v := ⟨_, rfl⟩
        rw [hV] at hb KC
        have LC : W.heap.size ≤ U2.heap.size := HD.out.size
        have Z2 : U2.heap.size < U3.heap.size := (Array.getElem?_eq_some_iff.1 KC.out).1
        replace RV := hid (RV.out.up hb)
        replace RP := hid (RP.out.up hb)
        have HD1 := hid (HD.out.trans (hb.mono HD.out.size))
        refine ⟨rfl, hK _ _ (by rw [hV]; exact HD1.out) ?_⟩
        rw [hV]
        replace HD := HD1
        clear hK K hb hV HD1
        have s1 : U0.heap.size < U1.heap.size := Z0
        have s2 : U1.heap.size < U2.heap.size := Z1
        refine anyL_end (by kernel_rfl) ?_
        exact ⟨U0.heap.size, U1.heap.size, U2.heap.size, ⟨_, _, _, _, _, _, _, _, _, _, rfl⟩, ⟨HD.out, RV.out, RP.out, KC.out, ⟨LV, LP, LC⟩, ⟨(by omega), (by omega), (by omega)⟩⟩⟩
      · refine ⟨_, rfl, ?_⟩
        intro K hK
        go_wp2
        have hb := below_alloc U1 (.cells #[.slice none 0 0, .slice none 0 0] 27)
        have KC := hid (heap_alloc_new U1 (.cells #[.slice none 0 0, .slice none 0 0] 27))
        obtain ⟨U2, hV⟩ : ∃ v, World.alloc U1 (.cells #[.slice none 0 0, .slice none 0 0] 27) = v := ⟨_, rfl⟩
        rw [hV] at hb KC
        have LC : W.heap.size ≤ U1.heap.size := HD.out.size
        have Z1 : U1.heap.size < U2.heap.size := (Array.getElem?_eq_some_iff.1 KC.out).1
        replace RV := hid (RV.out.up hb)
        have HD1 := hid (HD.out.trans (hb.mono HD.out.size))
        refine ⟨rfl, hK _ _ (by rw [hV]; exact HD1.out) ?_⟩
        rw [hV]
        replace HD := HD1
        clear hK K hb hV HD1
        refine anyL_pick (f := 1) [9] (by kernel_rfl) (by decide) ?_
        intro i hi
        simp only [List.mem_cons, List.not_mem_nil, or_false] at hi
        subst hi
        refine ⟨_, rfl, ?_⟩
        intro K hK
        go_wp2_with (at_make; refine wpList_make_full _ rfl (.tmp 18) (.tmp 18) 25 rfl _ 45 ip (.agg #[.bool false, .int .i64 0, .slice none 0 0]) 3 Tryz.underlying25 hip hpz0 hpz1 _ _ _ _ np rfl rfl rfl rfl (by rw [hpz2]; omega) (by unfold maxLen; omega) (Nat.le_refl _) ?_; intro U3 ho1 hg1; have hb := below_of_grown hg1; have RP := hid (CRow.made ho1 (fun _ => undef)); have HB1 := hid hb; clear ho1 hg1 hb)
        have hb := HB1.out
        have LP : W.heap.size ≤ U2.heap.size := HD.out.size
        have Z2 : U2.heap.size < U3.heap.size := RP.out.lt
        replace RV := hid (RV.out.up hb)
        replace KC := hid (stayB KC.out hb)
        replace HD := hid (HD.out.trans (hb.mono HD.out.size))
        clear hb HB1
        refine ⟨rfl, hK _ _ HD.out ?_⟩
        clear hK K
        refine anyL_readsO (f := 0) (c := 12) (q := [10]) (by simp only [pickO, List.getElem?_cons_zero, List.getElem?_cons_succ]; exact rfl) (by kernel_rfl) (by kernel_rfl) HD.out (by kernel_rfl) (by kernel_rfl) (by kernel_rfl) ?_
        repeat (go_big_quiet_step (fail))
        refine wpQuiet_nil ?_
        have s1 : U0.heap.size < U1.heap.size := Z0
        have s2 : U1.heap.size < U2.heap.size := Z1
        refine anyL_end (by kernel_rfl) ?_
        exact ⟨U0.heap.size, U2.heap.size, U1.heap.size, ⟨_, _, _, _, _, _, _, _, _, _, rfl⟩, ⟨HD.out, RV.out, RP.out, KC.out, ⟨LV, LP, LC⟩, ⟨(by omega), (by omega), (by omega)⟩⟩⟩
    · refine ⟨_, rfl, ?_⟩
      intro K hK
      go_wp2_with (at_make; refine wpList_make_full _ rfl (.tmp 18) (.tmp 18) 25 rfl _ 45 ip (.agg #[.bool false, .int .i64 0, .slice none 0 0]) 3 Tryz.underlying25 hip hpz0 hpz1 _ _ _ _ np rfl rfl rfl rfl (by rw [hpz2]; omega) (by unfold maxLen; omega) (Nat.le_refl _) ?_; intro U1 ho1 hg1; have hb := below_of_grown hg1; have RP := hid (CRow.made ho1 (fun _ => undef)); have HB1 := hid hb; clear ho1 hg1 hb)
      have hb := HB1.out
      have LP : W.heap.size ≤ U0.heap.size := HD.out.size
      have Z0 : U0.heap.size < U1.heap.size := RP.out.lt
      replace HD := hid (HD.out.trans (hb.mono HD.out.size))
      clear hb HB1
      refine ⟨rfl, hK _ _ HD.out ?_⟩
      clear hK K
      refine anyL_pick (f := 3) [4, 11] (by kernel_rfl) (by decide) ?_
      intro i hi
      simp only [List.mem_cons, List.not_mem_nil, or_false] at hi
      rcases hi with rfl | rfl
      · refine ⟨_, rfl, ?_⟩
        intro K hK
        go_wp2_with (at_make; refine wpList_make_full _ rfl (.tmp 13) (.tmp 13) 22 rfl _ 60 iv (.agg #[.slice none 0 0, .int .i64 0, .int .i64 0, .int .i64 0]) 4 Tryz.underlying22 hiv hvz0 hvz1 _ _ _ _ n rfl rfl rfl rfl (by rw [hvz2]; omega) (by unfold maxLen; omega) (Nat.le_refl _) ?_; intro U2 ho1 hg1; have hb := below_of_grown hg1; have RV := hid (CRow.made ho1 (fun _ => undef)); have HB1 := hid hb; clear ho1 hg1 hb)
        have hb := HB1.out
        have LV : W.heap.size ≤ U1.heap.size := HD.out.size
        have Z1 : U1.heap.size < U2.heap.size := RV.out.lt
        replace RP := hid (RP.out.up hb)
        replace HD := hid (HD.out.trans (hb.mono HD.out.size))
        clear hb HB1
        refine ⟨rfl, hK _ _ HD.out ?_⟩
        clear hK K
        refine anyL_readsO (f := 2) (c := 12) (q := [5]) (by simp only [pickO, List.getElem?_cons_zero, List.getElem?_cons_succ]; exact rfl) (by kernel_rfl) (by kernel_rfl) HD.out (by kernel_rfl) (by kernel_rfl) (by kernel_rfl) ?_
        repeat (go_big_quiet_step (fail))
        refine wpQuiet_nil ?_
        refine anyL_readsO (f := 1) (c := 12) (q := [10]) (by simp only [pickO, List.getElem?_cons_zero, List.getElem?_cons_succ]; exact rfl) (by kernel_rfl) (by kernel_rfl) HD.out (by kernel_rfl) (by kernel_rfl) (by kernel_rfl) ?_
        repeat (go_big_quiet_step (fail))
        refine wpQuiet_nil ?_
        refine anyL_pick (f := 0) [11] (by kernel_rfl) (by decide) ?_
        intro i hi
        simp only [List.mem_cons, List.not_mem_nil, or_false] at hi
        subst hi
        refine ⟨_, rfl, ?_⟩
        intro K hK
        go_wp2
        have hb := below_alloc U2 (.cells #[.slice none 0 0, .slice none 0 0] 27)
        have KC := hid (heap_alloc_new U2 (.cells #[.slice none 0 0, .slice none 0 0] 27))
        obtain ⟨U3, hV⟩ : ∃ v, World.alloc U2 (.cells #[.slice none 0 0, .slice none 0 0] 27) = v := ⟨_, rfl⟩
        rw [hV] at hb KC
        have LC : W.heap.size ≤ U2.heap.size := HD.out.size
        have Z2 : U2.heap.size < U3.heap.size := (Array.getElem?_eq_some_iff.1 KC.out).1
        replace RP := hid (RP.out.up hb)
        replace RV := hid (RV.out.up hb)
        have HD1 := hid (HD.out.trans (hb.mono HD.out.size))
        refine ⟨rfl, hK _ _ (by rw [hV]; exact HD1.out) ?_⟩
        rw [hV]
        replace HD := HD1
        clear hK K hb hV HD1
        have s1 : U0.heap.size < U1.heap.size := Z0
        have s2 : U1.heap.size < U2.heap.size := Z1
        refine anyL_end (by kernel_rfl) ?_
        exact ⟨U1.heap.size, U0.heap.size, U2.heap.size, ⟨_, _, _, _, _, _, _, _, _, _, rfl⟩, ⟨HD.out, RV.out, RP.out, KC.out, ⟨LV, LP, LC⟩, ⟨(by omega), (by omega), (by omega)⟩⟩⟩
      · refine ⟨_, rfl, ?_⟩
        intro K hK
        go_wp2
        have hb := below_alloc U1 (.cells #[.slice none 0 0, .slice none 0 0] 27)
        have KC := hid (heap_alloc_new U1 (.cells #[.slice none 0 0, .slice none 0 0] 27))
        obtain ⟨U2, hV⟩ : ∃ v, World.alloc U1 (.cells #[.slice none 0 0, .slice none 0 0] 27) = v := ⟨_, rfl⟩
        rw [hV] at hb KC
        have LC : W.heap.size ≤ U1.heap.size := HD.out.size
        have Z1 : U1.heap.size < U2.heap.size := (Array.getElem?_eq_some_iff.1 KC.out).1
        replace RP := hid (RP.out.up hb)
        have HD1 := hid (HD.out.trans (hb.mono HD.out.size))
        refine ⟨rfl, hK _ _ (by rw [hV]; exact HD1.out) ?_⟩
        rw [hV]
        replace HD := HD1
        clear hK K hb hV HD1
        refine anyL_pick (f := 2) [4] (by kernel_rfl) (by decide) ?_
        intro i hi
        simp only [List.mem_cons, List.not_mem_nil, or_false] at hi
        subst hi
        refine ⟨_, rfl, ?_⟩
        intro K hK
        go_wp2_with (at_make; refine wpList_make_full _ rfl (.tmp 13) (.tmp 13) 22 rfl _ 60 iv (.agg #[.slice none 0 0, .int .i64 0, .int .i64 0, .int .i64 0]) 4 Tryz.underlying22 hiv hvz0 hvz1 _ _ _ _ n rfl rfl rfl rfl (by rw [hvz2]; omega) (by unfold maxLen; omega) (Nat.le_refl _) ?_; intro U3 ho1 hg1; have hb := below_of_grown hg1; have RV := hid (CRow.made ho1 (fun _ => undef)); have HB1 := hid hb; clear ho1 hg1 hb)
        have hb := HB1.out
        have LV : W.heap.size ≤ U2.heap.size := HD.out.size
        have Z2 : U2.heap.size < U3.heap.size := RV.out.lt
        replace RP := hid (RP.out.up hb)
        replace KC := hid (stayB KC.out hb)
        replace HD := hid (HD.out.trans (hb.mono HD.out.size))
        clear hb HB1
        refine ⟨rfl, hK _ _ HD.out ?_⟩
        clear hK K
        refine anyL_readsO (f := 1) (c := 12) (q := [5]) (by simp only [pickO, List.getElem?_cons_zero, List.getElem?_cons_succ]; exact rfl) (by kernel_rfl) (by kernel_rfl) HD.out (by kernel_rfl) (by kernel_rfl) (by kernel_rfl) ?_
        repeat (go_big_quiet_step (fail))
        refine wpQuiet_nil ?_
        refine anyL_readsO (f := 0) (c := 12) (q := [10]) (by simp only [pickO, List.getElem?_cons_zero, List.getElem?_cons_succ]; exact rfl) (by kernel_rfl) (by kernel_rfl) HD.out (by kernel_rfl) (by kernel_rfl) (by kernel_rfl) ?_
        repeat (go_big_quiet_step (fail))
        refine wpQuiet_nil ?_
        have s1 : U0.heap.size < U1.heap.size := Z0
        have s2 : U1.heap.size < U2.heap.size := Z1
        refine anyL_end (by kernel_rfl) ?_
        exact ⟨U2.heap.size, U0.heap.size, U1.heap.size, ⟨_, _, _, _, _, _, _, _, _, _, rfl⟩, ⟨HD.out, RV.out, RP.out, KC.out, ⟨LV, LP, LC⟩, ⟨(by omega), (by omega), (by omega)⟩⟩⟩
    · refine ⟨_, rfl, ?_⟩
      intro K hK
      go_wp2
      have hb := below_alloc U0 (.cells #[.slice none 0 0, .slice none 0 0] 27)
      have KC := hid (heap_alloc_new U0 (.cells #[.slice none 0 0, .slice none 0 0] 27))
      obtain ⟨U1, hV⟩ : ∃ v, World.alloc U0 (.cells #[.slice none 0 0, .slice none 0 0] 27) = v := ⟨_, rfl⟩
      rw [hV] at hb KC
      have LC : W.heap.size ≤ U0.heap.size := HD.out.size
      have Z0 : U0.heap.size < U1.heap.size := (Array.getElem?_eq_some_iff.1 KC.out).1
      have HD1 := hid (HD.out.trans (hb.mono HD.out.size))
      refine ⟨rfl, hK _ _ (by rw [hV]; exact HD1.out) ?_⟩
      rw [hV]
      replace HD := HD1
      clear hK K hb hV HD1
      refine anyL_pick (f := 3) [4, 9] (by kernel_rfl) (by decide) ?_
      intro i hi
      simp only [List.mem_cons, List.not_mem_nil, or_false] at hi
      rcases hi with rfl | rfl
      · refine ⟨_, rfl, ?_⟩
        intro K hK
        go_wp2_with (at_make; refine wpList_make_full _ rfl (.tmp 13) (.tmp 13) 22 rfl _ 60 iv (.agg #[.slice none 0 0, .int .i64 0, .int .i64 0, .int .i64 0]) 4 Tryz.underlying22 hiv hvz0 hvz1 _ _ _ _ n rfl rfl rfl rfl (by rw [hvz2]; omega) (by unfold maxLen; omega) (Nat.le_refl _) ?_; intro U2 ho1 hg1; have hb := below_of_grown hg1; have RV := hid (CRow.made ho1 (fun _ => undef)); have HB1 := hid hb; clear ho1 hg1 hb)
        have hb := HB1.out
        have LV : W.heap.size ≤ U1.heap.size := HD.out.size
        have Z1 : U1.heap.size < U2.heap.size := RV.out.lt
        replace KC := hid (stayB KC.out hb)
        replace HD := hid (HD.out.trans (hb.mono HD.out.size))
        clear hb HB1
        refine ⟨rfl, hK _ _ HD.out ?_⟩
        clear hK K
        refine anyL_readsO (f := 2) (c := 12) (q := [5]) (by simp only [pickO, List.getElem?_cons_zero, List.getElem?_cons_succ]; exact rfl) (by kernel_rfl) (by kernel_rfl) HD.out (by kernel_rfl) (by kernel_rfl) (by kernel_rfl) ?_
        repeat (go_big_quiet_step (fail))
        refine wpQuiet_nil ?_
        refine anyL_pick (f := 1) [9] (by kernel_rfl) (by decide) ?_
        intro i hi
        simp only [List.mem_cons, List.not_mem_nil, or_false] at hi
        subst hi
        refine ⟨_, rfl, ?_⟩
        intro K hK
        go_wp2_with (at_make; refine wpList_make_full _ rfl (.tmp 18) (.tmp 18) 25 rfl _ 45 ip (.agg #[.bool false, .int .i64 0, .slice none 0 0]) 3 Tryz.underlying25 hip hpz0 hpz1 _ _ _ _ np rfl rfl rfl rfl (by rw [hpz2]; omega) (by unfold maxLen; omega) (Nat.le_refl _) ?_; intro U3 ho1 hg1; have hb := below_of_grown hg1; have RP := hid (CRow.made ho1 (fun _ => undef)); have HB1 := hid hb; clear ho1 hg1 hb)
        have hb := HB1.out
        have LP : W.heap.size ≤ U2.heap.size := HD.out.size
        have Z2 : U2.heap.size < U3.heap.size := RP.out.lt
        replace KC := hid (stayB KC.out hb)
        replace RV := hid (RV.out.up hb)
        replace HD := hid (HD.out.trans (hb.mono HD.out.size))
        clear hb HB1
        refine ⟨rfl, hK _ _ HD.out ?_⟩
        clear hK K
        refine anyL_readsO (f := 0) (c := 12) (q := [10]) (by simp only [pickO, List.getElem?_cons_zero, List.getElem?_cons_succ]; exact rfl) (by kernel_rfl) (by kernel_rfl) HD.out (by kernel_rfl) (by kernel_rfl) (by kernel_rfl) ?_
        repeat (go_big_quiet_step (fail))
        refine wpQuiet_nil ?_
        have s1 : U0.heap.size < U1.heap.size := Z0
        have s2 : U1.heap.size < U2.heap.size := Z1
        refine anyL_end (by kernel_rfl) ?_
        exact ⟨U1.heap.size, U2.heap.size, U0.heap.size, ⟨_, _, _, _, _, _, _, _, _, _, rfl⟩, ⟨HD.out, RV.out, RP.out, KC.out, ⟨LV, LP, LC⟩, ⟨(by omega), (by omega), (by omega)⟩⟩⟩
      · refine ⟨_, rfl, ?_⟩
        intro K hK
        go_wp2_with (at_make; refine wpList_make_full _ rfl (.tmp 18) (.tmp 18) 25 rfl _ 45 ip (.agg #[.bool false, .int .i64 0, .slice none 0 0]) 3 Tryz.underlying25 hip hpz0 hpz1 _ _ _ _ np rfl rfl rfl rfl (by rw [hpz2]; omega) (by unfold maxLen; omega) (Nat.le_refl _) ?_; intro U2 ho1 hg1; have hb := below_of_grown hg1; have RP := hid (CRow.made ho1 (fun _ => undef)); have HB1 := hid hb; clear ho1 hg1 hb)
        have hb := HB1.out
        have LP : W.heap.size ≤ U1.heap.size := HD.out.size
        have Z1 : U1.heap.size < U2.heap.size := RP.out.lt
        replace KC := hid (stayB KC.out hb)
        replace HD := hid (HD.out.trans (hb.mono HD.out.size))
        clear hb HB1
        refine ⟨rfl, hK _ _ HD.out ?_⟩
        clear hK K
        refine anyL_pick (f := 2) [4] (by kernel_rfl) (by decide) ?_
        intro i hi
        simp only [List.mem_cons, List.not_mem_nil, or_false] at hi
        subst hi
        refine ⟨_, rfl, ?_⟩
        intro K hK
        go_wp2_with (at_make; refine wpList_make_full _ rfl (.tmp 13) (.tmp 13) 22 rfl _ 60 iv (.agg #[.slice none 0 0, .int .i64 0, .int .i64 0, .int .i64 0]) 4 Tryz.underlying22 hiv hvz0 hvz1 _ _ _ _ n rfl rfl rfl rfl (by rw [hvz2]; omega) (by unfold maxLen; omega) (Nat.le_refl _) ?_; intro U3 ho1 hg1; have hb := below_of_grown hg1; have RV := hid (CRow.made ho1 (fun _ => undef)); have HB1 := hid hb; clear ho1 hg1 hb)
        have hb := HB1.out
        have LV : W.heap.size ≤ U2.heap.size := HD.out.size
        have Z2 : U2.heap.size < U3.heap.size := RV.out.lt
        replace KC := hid (stayB KC.out hb)
        replace RP := hid (RP.out.up hb)
        replace HD := hid (HD.out.trans (hb.mono HD.out.size))
        clear hb HB1
        refine ⟨rfl, hK _ _ HD.out ?_⟩
        clear hK K
        refine anyL_readsO (f := 1) (c := 12) (q := [5]) (by simp only [pickO, List.getElem?_cons_zero, List.getElem?_cons_succ]; exact rfl) (by kernel_rfl) (by kernel_rfl) HD.out (by kernel_rfl) (by kernel_rfl) (by kernel_rfl) ?_
        repeat (go_big_quiet_step (fail))
        refine wpQuiet_nil ?_
        refine anyL_readsO (f := 0) (c := 12) (q := [10]) (by simp only [pickO, List.getElem?_cons_zero, List.getElem?_cons_succ]; exact rfl) (by kernel_rfl) (by kernel_rfl) HD.out (by kernel_rfl) (by kernel_rfl) (by kernel_rfl) ?_
        repeat (go_big_quiet_step (fail))
        refine wpQuiet_nil ?_
        have s1 : U0.heap.size < U1.heap.size := Z0
        have s2 : U1.heap.size < U2.heap.size := Z1
        refine anyL_end (by kernel_rfl) ?_
        exact ⟨U2.heap.size, U1.heap.size, U0.heap.size, ⟨_, _, _, _, _, _, _, _, _, _, rfl⟩, ⟨HD.out, RV.out, RP.out, KC.out, ⟨LV, LP, LC⟩, ⟨(by omega), (by omega), (by omega)⟩⟩⟩
  · rintro a' w1 ⟨gv, gp, gc, ⟨j10, j11, j12, j13, j14, j15, j16, j17, j18, j19, rfl⟩, hM⟩
    obtain ⟨q0, q1⟩ := two_at hM.cc
    have f0 := frozen_at (i := 0) hM.cc
    have f1 := frozen_at (i := 1) hM.cc
    have J1 := hid (hM.start (b := b) B0.out K1.out K2.out)
    unfold put2 at J1
    obtain ⟨b0, b1⟩ := two_at J1.out.base.box
    clear hM m0 m1
    go_wp2
    clear b0 b1 q0 q1 f0 f1
    obtain ⟨Y0, hY0⟩ : ∃ y, (w1.setCell ⟨gc, 0, none⟩ (.slice (some ⟨gv, 0, none⟩) n n)).setCell ⟨gc, 1, none⟩ (.slice (some ⟨gp, 0, none⟩) np np) = y := ⟨_, rfl⟩
    rw [hY0] at J1
    rw [hY0]
    obtain ⟨T0, hT0⟩ : ∃ t, w1.heap.size = t := ⟨_, rfl⟩
    rw [hT0] at J1
    clear hY0 hT0
    go_loopw [25] (fun iv wr => ∃ (k : Nat) (QV : Nat → Value), k ≤ n ∧ iv = .int .i64 k ∧ Hid (W1Inv w wr ad n cap0 al np cl gv gp gc T0 b k QV)) (fun iv _ => n - (intOf iv).toNat)
    case atStart => exact ⟨0, _, Nat.zero_le _, rfl, J1⟩
    case round =>
      obtain ⟨k, QV, hk, rfl, J⟩ := hrel
      by_cases hlt : k < n
      · have hki : (k : Int) < (n : Int) := by omega
        rcases HX.out with h0 | ⟨bl, off, rfl, hbl, hx⟩
        · omega
        obtain ⟨x0, x1, x2, x3, x4⟩ := hx k hlt
        have HI : Hid (∀ w', Below w.heap.size w w' → IntSl w' w'.heap.size (PV k) (b.PL k) (b.PX k)) := fun w' hb => x4.up hb
        obtain ⟨ap, cp, hpe, _, _⟩ := x4
        rw [hpe] at x0 HI
        have g0 : wr.cell? ⟨bl, off + k * 4, none⟩ = some (.slice ap (b.PL k) cp) := by rw [J.out.base.below.cell hbl]; exact x0
        have g1 : wr.cell? ⟨bl, off + k * 4 + 1, none⟩ = some (.int .i64 (b.nd k)) := by rw [J.out.base.below.cell hbl]; exact x1
        have g2 : wr.cell? ⟨bl, off + k * 4 + 2, none⟩ = some (.int .i64 (b.of k)) := by rw [J.out.base.below.cell hbl]; exact x2
        have g3 : wr.cell? ⟨bl, off + k * 4 + 3, none⟩ = some (.int .i64 (b.sz k)) := by rw [J.out.base.below.cell hbl]; exact x3
        obtain ⟨U, hU⟩ : ∃ U, wr.alloc (.cells #[.slice ap (b.PL k) cp, .int .i64 (b.nd k), .int .i64 (b.of k), .int .i64 (b.sz k)] 60) = U := ⟨_, rfl⟩
        have hbU : Below wr.heap.size wr U := by rw [← hU]; exact below_alloc _ _
        have hUh : U.heap[wr.heap.size]? = some (.cells #[.slice ap (b.PL k) cp, .int .i64 (b.nd k), .int .i64 (b.of k), .int .i64 (b.sz k)] 60 (0, 0)) := by rw [← hU]; exact heap_alloc_new _ _
        have JU := hid (J.out.up hbU)
        obtain ⟨y0, y1, y2, y3⟩ := four_at hUh
        obtain ⟨yc, _⟩ := two_at JU.out.base.cc
        have hne : Nonempty (Of (Below U.heap.size U)) := ⟨⟨U, Below.refl _ _⟩⟩
        have F0 : ∀ u : Of (Below U.heap.size U), u.val.cell? ⟨wr.heap.size, 0, none⟩ = some (.slice ap (b.PL k) cp) := fun u => by rw [u.is.cell (cell_lt y0)]; exact y0
        have F1 : ∀ u : Of (Below U.heap.size U), u.val.cell? ⟨wr.heap.size, 1, none⟩ = some (.int .i64 (b.nd k)) := fun u => by rw [u.is.cell (cell_lt y1)]; exact y1
        have F2 : ∀ u : Of (Below U.heap.size U), u.val.cell? ⟨wr.heap.size, 2, none⟩ = some (.int .i64 (b.of k)) := fun u => by rw [u.is.cell (cell_lt y2)]; exact y2
        have F3 : ∀ u : Of (Below U.heap.size U), u.val.cell? ⟨wr.heap.size, 3, none⟩ = some (.int .i64 (b.sz k)) := fun u => by rw [u.is.cell (cell_lt y3)]; exact y3
        have F4 : ∀ u : Of (Below U.heap.size U), u.val.cell? ⟨gc, 0, none⟩ = some (.slice (some ⟨gv, 0, none⟩) n n) := fun u => by rw [u.is.cell (cell_lt yc)]; exact yc
        have HD0 : Hid (Below U.heap.size U U.drew) := drew_below U
        have hTU : T0 ≤ U.heap.size := JU.out.le
        clear x0 x1 x2 x3 hx hpe hbU hUh y0 y1 y2 y3 yc
        go_wp2_with fail
        refine region_mixed_last (Below U.heap.size U) [([0, 1, 2, 3, 4, 5, 7, 8], 6)] [9, 10] 11 (by kernel_rfl) (by kernel_rfl) HD0.out ?_
        refine mixO_cons (by simp only [pickO, List.getElem?_cons_zero, List.getElem?_cons_succ]; exact rfl) (by simp only [pickO, List.getElem?_cons_zero, List.getElem?_cons_succ]; exact rfl) ?_
        repeat (go_big_quiet_step (fail))
        refine wpQuiet_nil ?_
        intro K hK
        go_wp2_with fail
        refine Calls.mono (msOwn _ _ _ _ (HI.out _ (JU.out.base.below.trans (HD0.out.mono JU.out.base.below.size)))) ?_
        rintro e w2 ⟨hb2, rfl, hl2, ha2⟩
        have hbb : Below U.heap.size U w2 := HD0.out.trans (hb2.mono HD0.out.size)
        have HBb := hid hbb
        have J2 := hid (JU.out.up hbb)
        have HL2 := hid hl2
        have HA2 : Hid (Above T0 (.slice (some ⟨U.drew.heap.size, 0, none⟩) (b.PL k) (b.PL k))) := ha2.above.mono' (Nat.le_trans hTU HD0.out.size)
        obtain ⟨pq, hpq⟩ : ∃ q, U.drew.heap.size = q := ⟨_, rfl⟩
        rw [hpq] at HL2 HA2 ⊢
        clear hb2 hl2 ha2 hbb hpq
        go_wp2
        refine ⟨rfl, hK _ _ HBb.out ?_⟩
        clear hK K
        refine mixO_last (by simp only [pickO, List.getElem?_cons_zero, List.getElem?_cons_succ]; exact rfl) (by simp only [pickO, List.getElem?_cons_zero, List.getElem?_cons_succ]; exact rfl) ?_
        repeat (go_big_quiet_step (fail))
        refine wpQuiet_nil ?_
        obtain ⟨⟨u0, c0⟩, f0⟩ := J2.out.row.room (i := k * 4) (by omega)
        obtain ⟨⟨u1, c1⟩, f1⟩ := J2.out.row.room (i := k * 4 + 1) (by omega)
        obtain ⟨⟨u2, c2⟩, f2⟩ := J2.out.row.room (i := k * 4 + 2) (by omega)
        obtain ⟨⟨u3, c3⟩, f3⟩ := J2.out.row.room (i := k * 4 + 3) (by omega)
        clear F0 F1 F2 F3 F4 hne
        go_wp2
        go_roundw
        case rel => exact ⟨k + 1, _, by omega, by go_num, J2.out.push hlt HL2.out HA2.out⟩
        case measure => simp only [intOf]; omega
      · have hke : n = k := by omega
        subst hke
        have hl9 := J.out.lists
        have hv9 := J.out.row.vel hbv fun j hj => (hl9 j hj).1
        have S0 : Hid (W2Inv w wr wr.heap.size ad n cap0 al np cl gv gp gc T0 b P QV 0 0 (fun _ => undef) (fun _ _ => undef)) :=
          ⟨J.out.base, hv9, fun j hj => (hl9 j hj).2, by have := J.out.prow; exact this.congr fun i hi => by omega, fun j hj => by omega, J.out.le, Nat.le_refl _⟩
        obtain ⟨m0, m1⟩ := two_at J.out.base.box
        clear hl9 hv9 J
        go_wp2
        clear m0 m1
        obtain ⟨wa, hwa⟩ : ∃ wa, wr = wa := ⟨_, rfl⟩
        subst hwa
        go_loopw [45] (fun iv wr => ∃ (k : Nat) (LV : Nat → Value) (VV : Nat → Nat → Value), k ≤ np ∧ iv = .int .i64 k ∧ Hid (W2Inv w wr wr.heap.size ad n cap0 al np cl gv gp gc T0 b P QV k k LV VV)) (fun iv _ => np - (intOf iv).toNat)
        case atStart => exact ⟨0, _, _, Nat.zero_le _, rfl, S0⟩
        case round =>
          obtain ⟨k, LV, VV, hk, rfl, J⟩ := hrel
          by_cases hlt : k < np
          · have hki : (k : Int) < (np : Int) := by omega
            obtain ⟨bl, off, rfl, hbl, g0, g1, g2, g3⟩ := (HL.out.up J.out.base.below).at hlt
            obtain ⟨ak, ck, hke, ⟨_, hbk⟩, _⟩ := g3
            rw [hke] at g2
            have HKe : Hid (∀ u, Below w.heap.size w u → KeSl u u.heap.size (.slice ak (P.m k) ck) (P.m k) (UV k) (P.t k)) := fun u hbu => by
              obtain ⟨_, _, _, _, _, _, _, h3⟩ := (HL.out.up hbu).at hlt
              rw [hke] at h3
              exact h3
            obtain ⟨U, hU⟩ : ∃ U, wr.alloc (.cells #[.bool (P.th k), .int .i64 (P.rm k), .slice ak (P.m k) ck] 45) = U := ⟨_, rfl⟩
            have hbU : Below wr.heap.size wr U := by rw [← hU]; exact below_alloc _ _
            have hUh : U.heap[wr.heap.size]? = some (.cells #[.bool (P.th k), .int .i64 (P.rm k), .slice ak (P.m k) ck] 45 (0, 0)) := by rw [← hU]; exact heap_alloc_new _ _
            have JU := hid (J.out.up hbU)
            have KB := hid hUh
            obtain ⟨y0, y1, y2⟩ := three_at hUh
            obtain ⟨_, yc⟩ := two_at JU.out.base.cc
            obtain ⟨bp, hbp⟩ : ∃ q, wr.heap.size = q := ⟨_, rfl⟩
            rw [hbp] at y0 y1 y2 KB
            have hne : Nonempty (Of (Below U.heap.size U)) := ⟨⟨U, Below.refl _ _⟩⟩
            have F0 : ∀ u : Of (Below U.heap.size U), u.val.cell? ⟨bp, 0, none⟩ = some (.bool (P.th k)) := fun u => by rw [u.is.cell (cell_lt y0)]; exact y0
            have F1 : ∀ u : Of (Below U.heap.size U), u.val.cell? ⟨bp, 1, none⟩ = some (.int .i64 (P.rm k)) := fun u => by rw [u.is.cell (cell_lt y1)]; exact y1
            have F2 : ∀ u : Of (Below U.heap.size U), u.val.cell? ⟨bp, 2, none⟩ = some (.slice ak (P.m k) ck) := fun u => by rw [u.is.cell (cell_lt y2)]; exact y2
            have F4 : ∀ u : Of (Below U.heap.size U), u.val.cell? ⟨gc, 1, none⟩ = some (.slice (some ⟨gp, 0, none⟩) np np) := fun u => by rw [u.is.cell (cell_lt yc)]; exact yc
            have HD0 : Hid (Below U.heap.size U U.drew) := drew_below U
            have HBn : Hid (bp ≠ gp) := by show bp ≠ gp; have := J.out.base.top; have := J.out.le.1; omega
            clear hke hbU hUh y0 y1 y2 yc J
            go_wp2_with fail
            refine region_mixed_last (Below U.heap.size U) [([0, 1, 2, 3, 4, 5, 6, 7, 8, 9], 10)] [11, 12] 13 (by kernel_rfl) (by kernel_rfl) HD0.out ?_
            clear hU hbp
            refine mixO_cons (by simp only [pickO, List.getElem?_cons_zero, List.getElem?_cons_succ]; exact rfl) (by simp only [pickO, List.getElem?_cons_zero, List.getElem?_cons_succ]; exact rfl) ?_
            repeat (go_big_quiet_step (fail))
            refine wpQuiet_nil ?_
            intro K hK
            obtain ⟨D0, hD0⟩ : ∃ d, U.drew = d := ⟨_, rfl⟩
            rw [hD0] at HD0 ⊢
            clear hD0
            have hgk : U.heap.size ≤ D0.heap.size := HD0.out.size
            have JD := hid (JU.out.up HD0.out)
            go_wp2_with (at_make; refine wpList_make_full _ rfl (.tmp 59) (.tmp 59) 43 rfl _ 50 ik (.agg #[.int .i64 0, .int .i64 0, .slice none 0 0]) 3 Tryz.underlying43 hik hkz0 hkz1 _ _ _ _ (P.m k) rfl rfl rfl rfl (by rw [hkz2]; omega) (by unfold maxLen; omega) (Nat.le_refl _) ?_; intro wM ho1 hg1; have hb := below_of_grown hg1; have KR := hid (CRow.made ho1 (fun _ => undef)); have JM := hid (JD.out.belowB hb); have KBM := hid (stayB (stayB KB.out HD0.out) hb); have HBM := hid (HD0.out.trans (hb.mono HD0.out.size)); clear ho1 hg1 hb)
            obtain ⟨gk, hgk2⟩ : ∃ q, D0.heap.size = q := ⟨_, rfl⟩
            rw [hgk2] at KR JM hgk ⊢
            clear hgk2
            refine ⟨rfl, hK _ _ HBM.out ?_⟩
            clear hK K
            refine mixO_last (by simp only [pickO, List.getElem?_cons_zero, List.getElem?_cons_succ]; exact rfl) (by simp only [pickO, List.getElem?_cons_zero, List.getElem?_cons_succ]; exact rfl) ?_
            repeat (go_big_quiet_step (fail))
            refine wpQuiet_nil ?_
            obtain ⟨⟨u0, c0⟩, f0⟩ := JM.out.row.room (i := k * 3) (by omega)
            obtain ⟨⟨u1, c1⟩, f1⟩ := JM.out.row.room (i := k * 3 + 1) (by omega)
            obtain ⟨⟨u2, c2⟩, f2⟩ := JM.out.row.room (i := k * 3 + 2) (by omega)
            have JY := hid (JM.out.cells (u := .slice (some ⟨gk, 0, none⟩) (P.m k) (P.m k)) hlt)
            have hgp9 : gp ≠ gk := by have := JM.out.base.top; have := JM.out.le.1; omega
            have KRY : Hid (CRow (((wM.setCell ⟨gp, k * 3, none⟩ (.bool (P.th k))).setCell ⟨gp, k * 3 + 1, none⟩ (.int .i64 (P.rm k))).setCell ⟨gp, k * 3 + 2, none⟩ (.slice (some ⟨gk, 0, none⟩) (P.m k) (P.m k))) gk 50 (P.m k * 3) 0 (fun _ => undef)) := ((KR.out.other (Ne.symm hgp9) _).other (Ne.symm hgp9) _).other (Ne.symm hgp9) _
            have hbp9 : bp ≠ gp := HBn.out
            have KBY : Hid ((((wM.setCell ⟨gp, k * 3, none⟩ (.bool (P.th k))).setCell ⟨gp, k * 3 + 1, none⟩ (.int .i64 (P.rm k))).setCell ⟨gp, k * 3 + 2, none⟩ (.slice (some ⟨gk, 0, none⟩) (P.m k) (P.m k))).heap[bp]? = some (.cells #[.bool (P.th k), .int .i64 (P.rm k), .slice ak (P.m k) ck] 45 (0, 0))) := by
              show _ = _
              rw [Below.heap_setCell _ _ _ _ (by show bp ≠ gp; exact hbp9), Below.heap_setCell _ _ _ _ (by show bp ≠ gp; exact hbp9), Below.heap_setCell _ _ _ _ (by show bp ≠ gp; exact hbp9)]
              exact KBM.out
            obtain ⟨z0, z1, z2⟩ := three_at KBY.out
            clear F0 F1 F2 F4 hne
            go_wp2
            obtain ⟨Y, hY⟩ : ∃ y, ((wM.setCell ⟨gp, k * 3, none⟩ (.bool (P.th k))).setCell ⟨gp, k * 3 + 1, none⟩ (.int .i64 (P.rm k))).setCell ⟨gp, k * 3 + 2, none⟩ (.slice (some ⟨gk, 0, none⟩) (P.m k) (P.m k)) = y := ⟨_, rfl⟩
            rw [hY] at JY KRY KBY ⊢
            clear c0 c1 c2 f0 f1 f2 hY z0 z1 z2
            obtain ⟨wb, hwb⟩ : ∃ wb, wr = wb := ⟨_, rfl⟩
            subst hwb
            have HYs : Hid (gk < Y.heap.size) := KRY.out.lt
            go_loopw [66] (fun iv wz => ∃ (i : Nat) (UK : Nat → Value), i ≤ P.m k ∧ iv = .int .i64 i ∧ Hid (Below gk Y wz) ∧ Hid (CRow wz gk 50 (P.m k * 3) (i * 3) (cellK UK (P.t k))) ∧ Hid (∀ j, j < i → IntSl wz wz.heap.size (UK j) ((P.t k).L j) ((P.t k).X j) ∧ NewB (gk + 1) wz.heap.size wz (UK j))) (fun iv _ => P.m k - (intOf iv).toNat)
            case atStart => exact ⟨0, fun _ => undef, Nat.zero_le _, rfl, Below.refl _ _, (by show CRow _ _ _ _ _ _; have := KRY.out; exact this.congr fun i hi => by omega), fun j hj => by omega⟩
            case round =>
              obtain ⟨i, UK, hi, rfl, HZ, KZ, LZ⟩ := hrel
              by_cases hil : i < P.m k
              · have hii2 : (i : Int) < (P.m k : Int) := by omega
                have JZ := hid (JY.out.belowB HZ.out)
                obtain ⟨b2, o2, rfl, _, x0, x1, x2, x3⟩ := (HKe.out wr JZ.out.base.below).at hil
                have HIx : Hid (∀ u, Below wr.heap.size wr u → IntSl u u.heap.size (UV k i) ((P.t k).L i) ((P.t k).X i)) := fun u hbu => x3.up hbu
                obtain ⟨au, cu, hue, _, _⟩ := x3
                rw [hue] at x2 HIx
                obtain ⟨Z, hZ⟩ : ∃ U, wr.alloc (.cells #[.int .i64 ((P.t k).V i), .int .i64 ((P.t k).N i), .slice au ((P.t k).L i) cu] 50) = U := ⟨_, rfl⟩
                have hbZ : Below wr.heap.size wr Z := by rw [← hZ]; exact below_alloc _ _
                have hZh : Z.heap[wr.heap.size]? = some (.cells #[.int .i64 ((P.t k).V i), .int .i64 ((P.t k).N i), .slice au ((P.t k).L i) cu] 50 (0, 0)) := by rw [← hZ]; exact heap_alloc_new _ _
                obtain ⟨y0, y1, y2⟩ := three_at hZh
                obtain ⟨_, yc0⟩ := two_at JZ.out.base.cc
                have yc : Z.cell? ⟨gc, 1, none⟩ = some (.slice (some ⟨gp, 0, none⟩) np np) := by rw [hbZ.cell (cell_lt yc0)]; exact yc0
                have yk0 := JZ.out.row.cell (i := k * 3 + 2) (by omega)
                rw [(cellP_at (k := k)).2.2] at yk0
                simp only [if_true] at yk0
                have yk : Z.cell? ⟨gp, k * 3 + 2, none⟩ = some (.slice (some ⟨gk, 0, none⟩) (P.m k) (P.m k)) := by rw [hbZ.cell (cell_lt yk0)]; exact yk0
                have KZ2 := hid (KZ.out.up hbZ)
                have LZ2 : Hid (∀ j, j < i → IntSl Z Z.heap.size (UK j) ((P.t k).L j) ((P.t k).X j) ∧ NewB (gk + 1) Z.heap.size Z (UK j)) := fun j hj => ⟨(LZ.out j hj).1.up hbZ, ((LZ.out j hj).2.below hbZ).mono hbZ.size⟩
                have HZ2 := hid (HZ.out.trans (hbZ.mono (Nat.le_of_lt KZ.out.lt)))
                have HBZ := hid hbZ
                have hne : Nonempty (Of (Below Z.heap.size Z)) := ⟨⟨Z, Below.refl _ _⟩⟩
                have F0 : ∀ u : Of (Below Z.heap.size Z), u.val.cell? ⟨wr.heap.size, 0, none⟩ = some (.int .i64 ((P.t k).V i)) := fun u => by rw [u.is.cell (cell_lt y0)]; exact y0
                have F1 : ∀ u : Of (Below Z.heap.size Z), u.val.cell? ⟨wr.heap.size, 1, none⟩ = some (.int .i64 ((P.t k).N i)) := fun u => by rw [u.is.cell (cell_lt y1)]; exact y1
                have F2 : ∀ u : Of (Below Z.heap.size Z), u.val.cell? ⟨wr.heap.size, 2, none⟩ = some (.slice au ((P.t k).L i) cu) := fun u => by rw [u.is.cell (cell_lt y2)]; exact y2
                have F3 : ∀ u : Of (Below Z.heap.size Z), u.val.cell? ⟨gc, 1, none⟩ = some (.slice (some ⟨gp, 0, none⟩) np np) := fun u => by rw [u.is.cell (cell_lt yc)]; exact yc
                have F4 : ∀ u : Of (Below Z.heap.size Z), u.val.cell? ⟨gp, k * 3 + 2, none⟩ = some (.slice (some ⟨gk, 0, none⟩) (P.m k) (P.m k)) := fun u => by rw [u.is.cell (cell_lt yk)]; exact yk
                have HD9 : Hid (Below Z.heap.size Z Z.drew) := drew_below Z
                clear hue hbZ hZh y0 y1 y2 yc yc0 yk yk0 KZ LZ HZ
                go_wp2_with fail
                obtain ⟨bz, hbz⟩ : ∃ q, wr.heap.size = q := ⟨_, rfl⟩
                rw [hbz] at F0 F1 F2 ⊢
                refine region_mixed_last (Below Z.heap.size Z) [([0, 1, 2, 3, 4, 5, 6, 7, 8, 9, 10, 11, 12, 13, 14], 15)] [16, 17, 18] 19 (by kernel_rfl) (by kernel_rfl) HD9.out ?_
                clear hZ hbz
                refine mixO_cons (by simp only [pickO, List.getElem?_cons_zero, List.getElem?_cons_succ]; exact rfl) (by simp only [pickO, List.getElem?_cons_zero, List.getElem?_cons_succ]; exact rfl) ?_
                repeat (go_big_quiet_step (fail))
                refine wpQuiet_nil ?_
                intro K hK
                go_wp2_with fail
                refine Calls.mono (msOwn _ _ _ _ (HIx.out _ (HBZ.out.trans (HD9.out.mono HBZ.out.size)))) ?_
                rintro e w2 ⟨hb2, rfl, hl2, ha2⟩
                have hbb : Below Z.heap.size Z w2 := HD9.out.trans (hb2.mono HD9.out.size)
                have HBb := hid hbb
                have K2z := hid (KZ2.out.up hbb)
                have L2z : Hid (∀ j, j < i → IntSl w2 w2.heap.size (UK j) ((P.t k).L j) ((P.t k).X j) ∧ NewB (gk + 1) w2.heap.size w2 (UK j)) := fun j hj => ⟨(LZ2.out j hj).1.up hbb, ((LZ2.out j hj).2.below hbb).mono hbb.size⟩
                have H2z := hid (HZ2.out.trans (hbb.mono (Nat.le_of_lt KZ2.out.lt)))
                have HL2 := hid hl2
                have HA2 : Hid (NewB (gk + 1) w2.heap.size w2 (.slice (some ⟨Z.drew.heap.size, 0, none⟩) ((P.t k).L i) ((P.t k).L i))) := fun ad n' c' e => by
                  obtain ⟨x1, x2, x3⟩ := ha2 ad n' c' e
                  have h8 := KZ2.out.lt
                  have h9 : Z.heap.size ≤ ad.block := x1
                  exact ⟨by omega, x2, x3⟩
                obtain ⟨pq, hpq⟩ : ∃ q, Z.drew.heap.size = q := ⟨_, rfl⟩
                rw [hpq] at HL2 HA2 ⊢
                clear hb2 hl2 ha2 hbb hpq KZ2 LZ2 HZ2
                go_wp2
                refine ⟨rfl, hK _ _ HBb.out ?_⟩
                clear hK K
                refine mixO_last (by simp only [pickO, List.getElem?_cons_zero, List.getElem?_cons_succ]; exact rfl) (by simp only [pickO, List.getElem?_cons_zero, List.getElem?_cons_succ]; exact rfl) ?_
                repeat (go_big_quiet_step (fail))
                refine wpQuiet_nil ?_
                obtain ⟨⟨u0, c0⟩, f0⟩ := K2z.out.room (i := i * 3) (by omega)
                obtain ⟨⟨u1, c1⟩, f1⟩ := K2z.out.room (i := i * 3 + 1) (by omega)
                obtain ⟨⟨u2, c2⟩, f2⟩ := K2z.out.room (i := i * 3 + 2) (by omega)
                clear F0 F1 F2 F3 F4 hne
                go_wp2
                go_roundw
                case rel =>
                  have hr : CRow w2 gk 50 (P.m k * 3) (i * 3) (cellK (fun j => if j = i then .slice (some ⟨pq, 0, none⟩) ((P.t k).L i) ((P.t k).L i) else UK j) (P.t k)) := K2z.out.congr (cellK_cong fun j hj => by rw [if_neg (by omega)])
                  obtain ⟨e0, e1, e2⟩ := cellK_at (UV := fun j => if j = i then .slice (some ⟨pq, 0, none⟩) ((P.t k).L i) ((P.t k).L i) else UK j) (t := P.t k) (k := i)
                  refine ⟨i + 1, fun j => if j = i then .slice (some ⟨pq, 0, none⟩) ((P.t k).L i) ((P.t k).L i) else UK j, by omega, by go_num, ?_, hr.three (by omega) e0.symm e1.symm (by rw [e2]; simp), fun j hj => ?_⟩
                  · exact ((H2z.out.setCell (p := ⟨gk, i * 3, none⟩) (Nat.le_refl _) _).setCell (p := ⟨gk, i * 3 + 1, none⟩) (Nat.le_refl _) _).setCell (p := ⟨gk, i * 3 + 2, none⟩) (Nat.le_refl _) _
                  · have hx : ∀ u, IntSl w2 w2.heap.size u ((P.t k).L j) ((P.t k).X j) ∧ NewB (gk + 1) w2.heap.size w2 u → IntSl (((w2.setCell ⟨gk, i * 3, none⟩ (.int .i64 ((P.t k).V i))).setCell ⟨gk, i * 3 + 1, none⟩ (.int .i64 ((P.t k).N i))).setCell ⟨gk, i * 3 + 2, none⟩ (.slice (some ⟨pq, 0, none⟩) ((P.t k).L i) ((P.t k).L i))) (((w2.setCell ⟨gk, i * 3, none⟩ (.int .i64 ((P.t k).V i))).setCell ⟨gk, i * 3 + 1, none⟩ (.int .i64 ((P.t k).N i))).setCell ⟨gk, i * 3 + 2, none⟩ (.slice (some ⟨pq, 0, none⟩) ((P.t k).L i) ((P.t k).L i))).heap.size u ((P.t k).L j) ((P.t k).X j) ∧ NewB (gk + 1) (((w2.setCell ⟨gk, i * 3, none⟩ (.int .i64 ((P.t k).V i))).setCell ⟨gk, i * 3 + 1, none⟩ (.int .i64 ((P.t k).N i))).setCell ⟨gk, i * 3 + 2, none⟩ (.slice (some ⟨pq, 0, none⟩) ((P.t k).L i) ((P.t k).L i))).heap.size (((w2.setCell ⟨gk, i * 3, none⟩ (.int .i64 ((P.t k).V i))).setCell ⟨gk, i * 3 + 1, none⟩ (.int .i64 ((P.t k).N i))).setCell ⟨gk, i * 3 + 2, none⟩ (.slice (some ⟨pq, 0, none⟩) ((P.t k).L i) ((P.t k).L i))) u := fun u hu => by
                      rw [set_size, set_size, set_size]
                      exact ⟨((hu.1.set hu.2.above _ _).set hu.2.above _ _).set hu.2.above _ _, ((hu.2.set _ _).set _ _).set _ _⟩
                    by_cases e : j = i
                    · subst e
                      simp only [if_true]
                      exact hx _ ⟨HL2.out, HA2.out⟩
                    · simp only [if_neg e]
                      exact hx _ (L2z.out j (by omega))
                case measure => simp only [intOf]; omega
              · have hie : P.m k = i := by omega
                have JZ := hid (JY.out.belowB HZ.out)
                have hT := JZ.out.le.1
                have JN := hid (JZ.out.next (gk := gk) (Nat.le_refl _) (by simp) hbk (by rw [hie]; rw [hie] at KZ; exact KZ.out) (fun j hj => ⟨(LZ.out j (by omega)).1, fun ad n' c' e => by
                  obtain ⟨x1, x2, x3⟩ := (LZ.out j (by omega)).2 ad n' c' e
                  exact ⟨by omega, x2, x3⟩⟩))
                have hil2 : ¬ (i : Int) < (P.m k : Int) := by omega
                clear hT
                go_wp2
                go_roundw
                case rel => exact ⟨k + 1, _, _, by omega, by go_num, JN⟩
                case measure => simp only [intOf]; omega
          · have hke : np = k := by omega
            subst hke
            obtain ⟨m0, m1⟩ := two_at J.out.base.cc
            obtain ⟨r0, r1⟩ := two_at J.out.base.out
            have f0 := frozen_at (i := 0) J.out.base.out
            have f1 := frozen_at (i := 1) J.out.base.out
            go_wp2
            refine bodyPost_ret (results_cell_row rfl _ _ (w.heap.size + 1) 27 #[.slice (some ⟨gv, 0, none⟩) n n, .slice (some ⟨gp, 0, none⟩) np np] (0, 0) _ rfl (put2_whole J.out.base.out _ _) Tryz.underlying27 rfl (by kernel_rfl)) rfl ?_
            exact J.out.fin

end Go.Proofs.YtjfnpjmhippdoafGreat
