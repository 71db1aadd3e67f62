/- Several texts of one proof, in their order. -/
import Derived.Test.YtfcpmpcfbhkacaaVb23

/- What package share's enough answers: the first error of a list of shares, or that they are too few. -/
namespace Go.Proofs.Ytfcpmpcfbhkacaa

open Go.RowKit Go.Maps CurveMath
set_option linter.unusedVariables false

/-- the plan, and the map of the numbers seen -/
structure SeenM (w wr : World) (A : Nat) (nd of sz : Int) (N : Nat → Int) (j : Nat) : Prop where
  below : Below w.heap.size w wr
  ge : w.heap.size < A
  p0 : wr.cell? ⟨w.heap.size, 0, none⟩ = some (.int .i64 nd)
  p1 : wr.cell? ⟨w.heap.size, 1, none⟩ = some (.int .i64 of)
  p2 : wr.cell? ⟨w.heap.size, 2, none⟩ = some (.int .i64 sz)
  m : wr.ownsMap Try.prog 3 (plainElem Try.prog 3) A j (setX (H := Empty) (.lit (.int .i64 1)) N j)

theorem SeenM.up {w wr w' : World} {A : Nat} {nd of sz : Int} {N : Nat → Int} {j : Nat} (h : SeenM w wr A nd of sz N j) (hb : Below wr.heap.size wr w') : SeenM w w' A nd of sz N j :=
  ⟨h.below.trans (hb.mono h.below.size), h.ge, by rw [hb.cell (cell_lt h.p0)]; exact h.p0, by rw [hb.cell (cell_lt h.p1)]; exact h.p1, by rw [hb.cell (cell_lt h.p2)]; exact h.p2, h.m.kept (grown_of_below hb none) (by intro e; cases e)⟩

theorem SeenM.next {w wr w' : World} {A : Nat} {nd of sz : Int} {N : Nat → Int} {j : Nat} {x : Int} (h : SeenM w wr A nd of sz N j) (hx : N j = x)
    (ho : w'.ownsMap Try.prog 3 (plainElem Try.prog 3) A (j + 1) ((setX (H := Empty) (.lit (.int .i64 1)) N j).put (.int .i64 x) (.lit (.int .i64 1)))) (hg : wr.grownBy w' (some A)) : SeenM w w' A nd of sz N (j + 1) := by
  have hge := h.ge
  have hne : some w.heap.size ≠ some A := by intro e; injection e with e; omega
  refine ⟨h.below.grown hg h.below.size (fun k hk => by injection hk with hk; omega), h.ge, hg.cell h.p0 hne, hg.cell h.p1 hne, hg.cell h.p2 hne, ?_⟩
  rw [setX_succ, hx]
  exact ho

set_option maxHeartbeats 2000000 in
theorem shEnough (nd of sz : Int) (v : Value) (n : Nat) (N : Nat → Int) (V : Nat → Value) (L : Nat → Nat) (X : Nat → Nat → Int) (w : World) (h : ShSl w w.heap.size v n N V L X) :
    Calls Try.prog 40 #[planV nd of sz, v] w fun e w' => e = .returned (.int .i64 (checksE nd of sz n N L X)) ∧ Below w.heap.size w w' := by
  have hbx := below_alloc w (.cells #[.int .i64 nd, .int .i64 of, .int .i64 sz] 23)
  have HC := hid (shCheck nd of sz (w.alloc (.cells #[.int .i64 nd, .int .i64 of, .int .i64 sz] 23)))
  have HS := hid h
  have HBx := hid hbx
  obtain ⟨ad, cap, rfl, ⟨hcap, hbig⟩, hx⟩ := h
  obtain ⟨ans, hans⟩ : ∃ a, checksE nd of sz n N L X = a := ⟨_, rfl⟩
  rw [hans]
  unfold checksE at hans
  clear hbx
  by_cases hp : planOk nd of sz = true
  · have e : chkP nd of sz = 0 := by unfold chkP; rw [if_pos hp]
    rw [e] at HC
    rw [if_pos hp] at hans
    obtain ⟨hnd, hof, hsz⟩ := planOk_spec hp
    clear hp e
    have hmm := @run_makeMap Try.prog
    unfold planV
    go_enter Try.func40, Try.ntmps40
    go_wp2_with fail
    refine HC.out.mono ?_
    rintro e w1 ⟨rfl, hb1⟩
    have p0 : w1.cell? ⟨w.heap.size, 0, none⟩ = some (.int .i64 nd) := by rw [hb1.cell (by simp)]; exact cell_at (heap_alloc_new _ _) rfl
    have p1 : w1.cell? ⟨w.heap.size, 1, none⟩ = some (.int .i64 of) := by rw [hb1.cell (by simp)]; exact cell_at (heap_alloc_new _ _) rfl
    have p2 : w1.cell? ⟨w.heap.size, 2, none⟩ = some (.int .i64 sz) := by rw [hb1.cell (by simp)]; exact cell_at (heap_alloc_new _ _) rfl
    have HB1 := hid (HBx.out.trans (hb1.mono HBx.out.size))
    have hwl : w.heap.size < w1.heap.size := cell_lt p0
    clear hb1
    by_cases hn8 : n ≤ 8
    · rw [if_pos hn8] at hans
      have hn9 : ((n : Int) ≤ 8) := by omega
      have HA := hid hans
      clear hans
      have J0 : Hid (SeenM w (w1.alloc (.map #[] 0)) w1.heap.size nd of sz N 0) := by
        have hb : Below w1.heap.size w1 (w1.alloc (.map #[] 0)) := (Below.refl _ _).alloc (Nat.le_refl _) _
        exact ⟨HB1.out.trans (hb.mono HB1.out.size), hwl, by rw [hb.cell (cell_lt p0)]; exact p0, by rw [hb.cell (cell_lt p1)]; exact p1, by rw [hb.cell (cell_lt p2)]; exact p2, World.ownsMap_made _ _ _ _⟩
      clear p0 p1 p2
      go_wp2
      go_loopw [21] (fun iv wr => ∃ j : Nat, j ≤ n ∧ iv = .int .i64 j ∧ Hid (SeenM w wr w1.heap.size nd of sz N j) ∧ Hid (scanS nd of sz N L X (n - j) j = scanS nd of sz N L X n 0)) (fun iv _ => n - (intOf iv).toNat)
      case atStart => exact ⟨0, Nat.zero_le _, rfl, J0, rfl⟩
      case round =>
        obtain ⟨j, hj, rfl, J, SC⟩ := hrel
        generalize w1.heap.size = A at *
        by_cases hlt : j < n
        · have hji : (j : Int) < (n : Int) := by omega
          have hx5 : ∃ b off, ad = some ⟨b, off, none⟩ ∧ b < w.heap.size ∧ (w.cell? ⟨b, off + j * 2, none⟩ = some (.int .i64 (N j)) ∧ w.cell? ⟨b, off + j * 2 + 1, none⟩ = some (V j) ∧ IntSl w w.heap.size (V j) (L j) (X j)) := by
            rcases hx with h0 | ⟨b, off, rfl, hb, h5⟩
            · omega
            · exact ⟨b, off, rfl, hb, h5 j hlt⟩
          obtain ⟨b, off, rfl, hb, x1, x2, x3⟩ := hx5
          have HI3 : Hid (∀ w', Below w.heap.size w w' → IntSl w' w'.heap.size (V j) (L j) (X j)) := fun w' hb' => x3.up hb'
          obtain ⟨av, cv, hve, _, _⟩ := x3
          rw [hve] at HI3
          have g1 : wr.cell? ⟨b, off + j * 2, none⟩ = some (.int .i64 (N j)) := by rw [J.out.below.cell hb]; exact x1
          have g2 : wr.cell? ⟨b, off + j * 2 + 1, none⟩ = some (.slice av (L j) cv) := by rw [J.out.below.cell hb, x2, hve]
          have q0 := J.out.p0
          have q1 := J.out.p1
          have q2 := J.out.p2
          have lp : w.heap.size < wr.heap.size := cell_lt q0
          obtain ⟨W, hW⟩ : ∃ W, wr.alloc (.cells #[.int .i64 (N j), .slice av (L j) cv] 27) = W := ⟨_, rfl⟩
          have JA := J.out.up (below_alloc wr (.cells #[.int .i64 (N j), .slice av (L j) cv] 27))
          have bx : W.cell? ⟨wr.heap.size, 0, none⟩ = some (.int .i64 (N j)) := by rw [← hW]; exact cell_at (heap_alloc_new _ _) rfl
          have by' : W.cell? ⟨wr.heap.size, 1, none⟩ = some (.slice av (L j) cv) := by rw [← hW]; exact cell_at (heap_alloc_new _ _) rfl
          rw [hW] at JA
          have q0' := JA.p0
          have q1' := JA.p1
          have q2' := JA.p2
          have HOn := hid (shOne nd of sz (N j) _ (L j) (X j) W (HI3.out W JA.below))
          have HJA := hid JA
          have hAl : A < wr.heap.size := J.out.m.lt
          clear x1 x2 hve JA
          obtain ⟨c, hc⟩ : ∃ c, oneE nd of sz (N j) (L j) (X j) = c := ⟨_, rfl⟩
          rw [hc] at HOn
          have HCc := hid hc
          clear hc
          by_cases hc0 : c = 0
          · subst hc0
            obtain ⟨_, hwho, _, _⟩ := oneE_who HCc.out
            obtain ⟨x, hνx⟩ : ∃ x, N j = x := ⟨_, rfl⟩
            rw [hνx] at hwho
            have hxr : 0 ≤ x ∧ x ≤ 30 := by omega
            have hkey : keyOf Try.prog 3 (.int .i64 x) = some (.int .i64 x) := keyOf_int_mk Try.underlying3 (WalkArith.wf_i64 (by omega))
            have HK := hid hkey
            have HN := hid hνx
            have HNe : Hid (some wr.heap.size ≠ some A) := fun e => by injection e with e; omega
            clear hνx hwho hkey
            go_wp2_with fail
            refine Calls.mono HOn.out ?_
            rintro e w2 ⟨rfl, hb2⟩
            have J2 := hid (HJA.out.up hb2)
            have bx2 : w2.cell? ⟨wr.heap.size, 0, none⟩ = some (.int .i64 x) := by rw [hb2.cell (cell_lt bx), ← HN.out]; exact bx
            have HBX := hid bx2
            have HO2 := hid J2.out.m
            clear hb2
            cases hd : hasB N j x with
            | true =>
              have h5 := scanS_dup hlt SC.out HCc.out (by rw [HN.out]; exact hd)
              have hA := HA.out
              rw [h5, if_neg (by decide)] at hA
              subst hA
              clear h5
              go_wp2_with (first
                | (at_lookup; refine wpList_lookup_own_int _ rfl _ _ 86 rfl 3 3 .i64 keyed_int Try.underlying86 Try.underlying3 (zero_int _) A (j + 1) _ rfl HO3.out _ _ rfl HK.out ?_; intro c hat hwc; obtain rfl := look_put (isMap_setX _ N j) hat; clear hat hwc)
                | (at_lookup; refine wpList_lookup_own_int _ rfl _ _ 86 rfl 3 3 .i64 keyed_int Try.underlying86 Try.underlying3 (zero_int _) A j _ rfl HO2.out _ _ rfl HK.out ?_; intro c hat hwc; obtain rfl := look_has HN.out hd hat; clear hat hwc)
                | (at_mapUpdate; refine wpList_mapUpdate_own _ rfl _ _ _ 86 rfl 3 3 keyed_int Try.underlying86 _ A j _ rfl HO2.out (by unfold maxLen; omega) _ _ _ rfl rfl HK.out _ [] (plainElem_int Try.underlying3 (by first | exact wrap64_wf _ | exact WalkArith.wf_i64 (by omega))) ?_; intro w3 hown3 hgrow3; have HO3 := hid hown3; have bx3 : w3.cell? ⟨wr.heap.size, 0, none⟩ = some (.int .i64 x) := hgrow3.cell HBX.out HNe.out; have HB3 : Hid (Below w.heap.size w w3) := J2.out.below.grown hgrow3 J2.out.below.size (fun g hg => by cases hg; have := J2.out.ge; omega); clear hown3 hgrow3))
              go_ret
              exact ⟨rfl, HB3.out⟩
            | false =>
              go_wp2_with (first
                | (at_lookup; refine wpList_lookup_own_int _ rfl _ _ 86 rfl 3 3 .i64 keyed_int Try.underlying86 Try.underlying3 (zero_int _) A (j + 1) _ rfl HO3.out _ _ rfl HK.out ?_; intro c hat hwc; obtain rfl := look_put (isMap_setX _ N j) hat; clear hat hwc)
                | (at_lookup; refine wpList_lookup_own_int _ rfl _ _ 86 rfl 3 3 .i64 keyed_int Try.underlying86 Try.underlying3 (zero_int _) A j _ rfl HO2.out _ _ rfl HK.out ?_; intro c hat hwc; obtain rfl := look_not HN.out hd hat; clear hat hwc)
                | (at_mapUpdate; refine wpList_mapUpdate_own _ rfl _ _ _ 86 rfl 3 3 keyed_int Try.underlying86 _ A j _ rfl HO2.out (by unfold maxLen; omega) _ _ _ rfl rfl HK.out _ [] (plainElem_int Try.underlying3 (by first | exact wrap64_wf _ | exact WalkArith.wf_i64 (by omega))) ?_; intro w3 hown3 hgrow3; have HO3 := hid hown3; have bx3 : w3.cell? ⟨wr.heap.size, 0, none⟩ = some (.int .i64 x) := hgrow3.cell HBX.out HNe.out; have HG3 := hid hgrow3; clear hown3 hgrow3))
              go_roundw
              case rel => exact ⟨j + 1, by omega, by go_num, J2.out.next HN.out HO3.out HG3.out, scanS_next hlt SC.out HCc.out (by rw [HN.out]; exact hd)⟩
              case measure => simp only [intOf]; omega
          · have hcb : (c != 0) = true := by simpa using hc0
            have h5 := scanS_bad hlt SC.out (by rw [HCc.out]; exact hc0)
            rw [HCc.out] at h5
            have hA := HA.out
            rw [h5, if_neg hc0] at hA
            subst hA
            clear h5 hc0
            go_wp2_with fail
            refine Calls.mono HOn.out ?_
            rintro e w2 ⟨rfl, hb2⟩
            have J2 := hid (HJA.out.up hb2)
            clear hb2
            go_wp2
            go_ret
            exact ⟨rfl, J2.out.below⟩
        · have hje : j = n := by omega
          subst hje
          have h5 := SC.out
          rw [Nat.sub_self] at h5
          have h6 : scanS nd of sz N L X j 0 = 0 := h5.symm
          have hA := HA.out
          rw [if_pos h6] at hA
          have q0 := J.out.p0
          clear h5 h6
          by_cases hle : nd ≤ (j : Int)
          · rw [if_pos hle] at hA
            subst hA
            go_wp2
            go_ret
            exact ⟨rfl, J.out.below⟩
          · rw [if_neg hle] at hA
            subst hA
            have hle2 : (j : Int) < nd := by omega
            clear hle
            go_wp2
            go_ret
            exact ⟨rfl, J.out.below⟩
    · rw [if_neg hn8] at hans
      subst hans
      have hn9 : (8 : Int) < (n : Int) := by omega
      go_wp2
      go_ret
      exact ⟨rfl, HB1.out⟩
  · have e : chkP nd of sz = 2 := by unfold chkP; rw [if_neg hp]
    rw [e] at HC
    rw [if_neg hp] at hans
    subst hans
    clear hp e
    unfold planV
    go_enter Try.func40, Try.ntmps40
    go_wp2_with (go_at_call 17; go_must (refine HC.out.mono ?_; rintro e w1 ⟨rfl, hb1⟩; have HB1 := hid (HBx.out.trans (hb1.mono HBx.out.size)); clear hb1))
    go_ret
    exact ⟨rfl, HB1.out⟩

end Go.Proofs.Ytfcpmpcfbhkacaa
