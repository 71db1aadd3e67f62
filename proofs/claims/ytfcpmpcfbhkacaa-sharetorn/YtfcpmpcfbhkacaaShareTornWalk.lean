/- The law ShareTorn, of a package that does what it owes. -/
import Derived.Test.YtfcpmpcfbhkacaaShareBent
import Derived.Test.YtfcpmpcfbhkacaaShareAnyWalk
namespace Go.Proofs.Ytfcpmpcfbhkacaa
open Go.RowKit CurveMath
set_option linter.unusedVariables false

/-- a list of shares of the call's own, one of whose lists was put in its place anew -/
theorem bent_shl {w9 : World} {g cap c gb cb R k i : Nat} {O : Nat → Nat} {V : Nat → Value} {X : Nat → Nat → Int} {x : Int}
    (hc : c ≤ cap) (hc8 : c ≤ 8) (hR : R ≤ 24) (hk : k < c) (hg : g < w9.heap.size) (hgb : gb < w9.heap.size) (hcb : R ≤ cb)
    (h1 : ∀ j, j < c → w9.cell? ⟨g, j * 2, none⟩ = some (.int .i64 (O j))) (h2 : ∀ j, j < c → j ≠ k → w9.cell? ⟨g, j * 2 + 1, none⟩ = some (V (O j))) (h3 : w9.cell? ⟨g, k * 2 + 1, none⟩ = some (.slice (some ⟨gb, 0, none⟩) R cb))
    (h4 : ∀ j, j < c → IntSl w9 w9.heap.size (V (O j)) R (X j)) (h5 : ∀ r, r < R → w9.cell? ⟨gb, r, none⟩ = some (.int .i64 (bentX X k i x k r))) :
    ShSl w9 w9.heap.size (.slice (some ⟨g, 0, none⟩) c cap) c (fun j => (O j : Int)) (fun j => if j = k then .slice (some ⟨gb, 0, none⟩) R cb else V (O j)) (fun _ => R) (bentX X k i x) := by
  refine ⟨_, cap, rfl, ⟨hc, by omega⟩, Or.inr ⟨g, 0, rfl, hg, fun j hj => ?_⟩⟩
  rw [Nat.zero_add]
  dsimp only
  refine ⟨h1 j hj, ?_, ?_⟩
  · by_cases e : j = k
    · subst e; rw [if_pos rfl]; exact h3
    · rw [if_neg e]; exact h2 j hj e
  · by_cases e : j = k
    · subst e
      rw [if_pos rfl]
      exact ⟨_, cb, rfl, ⟨hcb, by omega⟩, Or.inr ⟨gb, 0, rfl, hgb, fun r hr => by rw [Nat.zero_add]; exact h5 r hr⟩⟩
    · rw [if_neg e]
      refine (h4 j hj).congr fun r _ => ?_
      unfold bentX
      rw [if_neg (fun hh => e hh.1)]

set_option maxRecDepth 10000 in
set_option maxHeartbeats 4000000 in
theorem shareTorn_of (hO : Owes) (nd of sz : Int) (a1 : Option Addr) (n cap1 : Nat) (D : Nat → Int) (a2 : Option Addr) (lo cap2 : Nat) (Od : Nat → Int) (kk ii bb : Int) (w : World) (w1 : SlArg w a1 n cap1 D) (w2 : SlArg w a2 lo cap2 Od) :
    Calls Try.prog 5 #[planV nd of sz, .slice a1 n cap1, .slice a2 lo cap2, .int .i64 kk, .int .i64 ii, .int .i64 bb] w fun e w' => e = .returned (.bool true) ∧ Below w.heap.size w w' := by
  have hbx := below_alloc w (.cells #[.int .i64 nd, .int .i64 of, .int .i64 sz] 23)
  have i1 := w1.isl
  have i2 := w2.isl
  have HS := hid (hO.split nd of sz _ n D _ (i1.up hbx))
  have HP := hid (parted_up hO (w0 := w))
  unfold planV
  go_enter Try.func5, Try.ntmps5
  go_wp2_with fail
  refine HS.out.mono ?_
  rintro e w3 ⟨hb3, rl, m, V, rfl, hm, hsl, _, _⟩
  have B3 : Below w.heap.size w w3 := hbx.trans (hb3.mono hbx.size)
  have p0 : w3.cell? ⟨w.heap.size, 0, none⟩ = some (.int .i64 nd) := by rw [hb3.cell (by simp)]; exact cell_at (heap_alloc_new _ _) rfl
  have p1 : w3.cell? ⟨w.heap.size, 1, none⟩ = some (.int .i64 of) := by rw [hb3.cell (by simp)]; exact cell_at (heap_alloc_new _ _) rfl
  have p2 : w3.cell? ⟨w.heap.size, 2, none⟩ = some (.int .i64 sz) := by rw [hb3.cell (by simp)]; exact cell_at (heap_alloc_new _ _) rfl
  have KP : Hid (∀ w', Below w3.heap.size w3 w' → w'.cell? ⟨w.heap.size, 0, none⟩ = some (.int .i64 nd) ∧ w'.cell? ⟨w.heap.size, 1, none⟩ = some (.int .i64 of) ∧ w'.cell? ⟨w.heap.size, 2, none⟩ = some (.int .i64 sz)) := fun w' hb' =>
    ⟨by rw [hb'.cell (cell_lt p0)]; exact p0, by rw [hb'.cell (cell_lt p1)]; exact p1, by rw [hb'.cell (cell_lt p2)]; exact p2⟩
  clear p0 p1 p2
  have HB3 := hid B3
  by_cases he : splitE nd of sz n D = 0
  · rw [if_pos he] at hm
    rw [he]
    obtain ⟨hp, hsz, hD⟩ := splitE_ok he
    obtain ⟨hnd, hof, hsz2⟩ := planOk_spec hp
    have hrw := rowsN_bd hnd hsz2
    obtain ⟨d, rfl⟩ : ∃ d : Nat, nd = d := ⟨nd.toNat, by omega⟩
    subst hsz
    subst hm
    obtain ⟨R, hR⟩ : ∃ R : Nat, rowsN (d : Int) (n : Int) = R := ⟨_, rfl⟩
    rw [hR] at hrw hsl
    rw [Int.toNat_natCast] at hsl
    obtain ⟨c, hc⟩ : ∃ c : Nat, c = min (d + 1) m := ⟨_, rfl⟩
    have hdd : 1 ≤ d ∧ d ≤ 4 := by omega
    have hdm : d ≤ m ∧ m ≤ 8 := by omega
    have hRR : 1 ≤ R ∧ R ≤ 24 := by omega
    have hnn : 1 ≤ n ∧ n ≤ 24 := by omega
    have hcc : d ≤ c ∧ c ≤ m := by omega
    have HP3 := hid (parted_up hO (w0 := w3))
    have HO := hid hO
    have HSL := hid hsl
    have HPl := hid hp
    have HD := hid hD
    have HR := hid hR
    have HI1 := hid (i1.up B3)
    have HPk : Hid (∀ w', Below w3.heap.size w3 w' → ∀ (many : Int), many = (c : Int) → Calls Try.prog 28 #[rl, .slice a2 lo cap2, .int .i64 many] w' fun e w'' => PickPost w' m c (fun k => (k : Int)) V e w'') := fun w' hb' many hmn => by
      have h := picked_any (hsl.up hb') (by omega) a2 lo cap2 Od ((i2.up B3).up hb') many
      rw [pickM_nat hcc.2 hmn] at h
      exact h
    have hl := hO.long (d : Int) (m : Int) (n : Int)
    have e2 : longP (d : Int) (m : Int) (n : Int) = (R : Int) := by unfold longP; rw [if_pos hp, hR]
    rw [e2] at hl
    have HL := hid hl
    have HC := hid hc
    clear hsl hp hD hR he hrw hnd hof hsz2 i1 i2 w1 w2 hbx hb3 HS HP hO B3 hl e2 hc
    have hmin : min ((d : Int) + 1) (m : Int) = (c : Int) := by have := HC.out; omega
    go_wp2_with (first
      | (go_at_call 16; go_must (refine (HP3.out _ (Below.refl _ _)).mono ?_; rintro e w4 ⟨rfl, hb4⟩; obtain ⟨p0, p1, p2⟩ := KP.out w4 hb4; have HB4 := hid hb4; clear hb4))
      | (go_at_call 28; go_must (refine (HPk.out _ HB4.out _ (by omega)).mono ?_; rintro e w5 ⟨vp, O, Lf, rfl, hown, hpick⟩; have HOw := hid hown; have HPi := hid hpick; clear hown hpick)))
    have hc1 : 1 ≤ c ∧ c ≤ 8 := by omega
    obtain ⟨g, cap, cur, hvp, hge, hh, hcap, hcm, hcs, hcell⟩ := HOw.out.at hc1.1
    subst hvp
    have HB5 : Hid (Below w3.heap.size w3 w5) := HB4.out.trans (HOw.out.2.mono HB4.out.size)
    have HCell := hid hcell
    have HH := hid hh
    have hgl : g < w5.heap.size := (HOw.out.1.lt g rfl).2
    have hwg : w.heap.size < g := by
      have h1 := cell_lt p0
      exact Nat.lt_of_lt_of_le h1 hge
    clear hcell hh hcm hcs p0 p1 p2 hmin
    obtain ⟨k, hk⟩ : ∃ k : Nat, kk % (c : Int) = k := ⟨(kk % (c : Int)).toNat, by have := Int.emod_nonneg kk (show (c : Int) ≠ 0 by omega); omega⟩
    have hkc : k < c := by have := Int.emod_lt_of_pos kk (show (0 : Int) < (c : Int) by omega); omega
    obtain ⟨i, hi⟩ : ∃ i : Nat, ii % (R : Int) = i := ⟨(ii % (R : Int)).toNat, by have := Int.emod_nonneg ii (show (R : Int) ≠ 0 by omega); omega⟩
    have hiR : i < R := by have := Int.emod_lt_of_pos ii (show (0 : Int) < (R : Int) by omega); omega
    have hne : Nonempty (Of (Below w5.heap.size w5)) := ⟨⟨w5, Below.refl _ _⟩⟩
    have F0 : ∀ u : Of (Below w5.heap.size w5), u.val.cell? ⟨w.heap.size, 0, none⟩ = some (.int .i64 (d : Int)) := fun u => (KP.out u.val (HB5.out.trans (u.is.mono HB5.out.size))).1
    have F1 : ∀ u : Of (Below w5.heap.size w5), u.val.cell? ⟨w.heap.size, 1, none⟩ = some (.int .i64 (m : Int)) := fun u => (KP.out u.val (HB5.out.trans (u.is.mono HB5.out.size))).2.1
    have F2 : ∀ u : Of (Below w5.heap.size w5), u.val.cell? ⟨w.heap.size, 2, none⟩ = some (.int .i64 (n : Int)) := fun u => (KP.out u.val (HB5.out.trans (u.is.mono HB5.out.size))).2.2
    refine region_mixed (Below w5.heap.size w5) [([0, 1, 2, 4, 5], 3), ([], 6), ([], 7)] [8, 9] (by kernel_rfl) (by kernel_rfl) ⟨rfl, rfl, rfl, Nat.le_refl _, fun _ _ => rfl⟩ ?_
    refine mixO_cons ?_
    repeat (go_big_quiet_step (fail))
    refine wpQuiet_nil ?_
    intro K hK
    go_wp2_with fail
    refine Calls.mono (at_any _ _ (by omega) _) ?_
    rintro e wq ⟨rfl, hwq⟩
    subst wq
    rw [hk]
    go_wp2
    refine ⟨rfl, hK _ _ ⟨rfl, rfl, rfl, Nat.le_refl _, fun _ _ => rfl⟩ ?_⟩
    clear hK K
    refine mixO_cons (lq := []) ?_ rfl
    refine wpQuiet_nil ?_
    intro K hK
    go_wp2_with fail
    refine Calls.mono (HL.out _) ?_
    rintro e w6 ⟨rfl, hb6⟩
    have HB6 : Hid (Below w5.heap.size w5 w6) := Below.trans (⟨rfl, rfl, rfl, Nat.le_refl _, fun _ _ => rfl⟩ : Below w5.heap.size w5 w5.drew) hb6
    clear hb6
    go_wp2
    refine ⟨rfl, hK _ _ HB6.out ?_⟩
    clear hK K
    refine mixO_cons (lq := []) ?_ rfl
    refine wpQuiet_nil ?_
    intro K hK
    go_wp2_with fail
    refine Calls.mono (at_any _ _ (by omega) _) ?_
    rintro e wq ⟨rfl, hwq⟩
    subst wq
    rw [hi]
    go_wp2
    refine ⟨rfl, hK _ _ HB6.out ?_⟩
    clear hK K
    refine mixO_nil ?_
    repeat (go_big_quiet_step (fail))
    refine wpQuiet_nil ?_
    clear F0 F1 F2 hne hk hi
    have hki : (k : Int) < (c : Int) := by omega
    have hii : (i : Int) < (R : Int) := by omega
    have H4 : Hid (∀ w', Below w4.heap.size w4 w' → ∀ j, j < c → IntSl w' w'.heap.size (V (O j)) R (fun r => shv d n D (O j) r)) := fun w' hb' j hj => by
      have hs' := (HSL.out.up HB4.out).up hb'
      obtain ⟨_, _, _, _, h2⟩ := hs'
      rcases h2 with h0 | ⟨_, _, _, _, h5⟩
      · omega
      · exact (h5 (O j) (HPi.out.o j hj)).2.2
    have HB46 : Hid (Below w4.heap.size w4 w6) := HOw.out.2.trans (HB6.out.mono HOw.out.2.size)
    have s6 := H4.out w6 HB46.out k hkc
    have HCl := hid (clone_isl s6 hRR.1)
    obtain ⟨av, cv, hve, _, _⟩ := s6
    have c2 : w6.cell? ⟨g, k * 2 + 1, none⟩ = some (.slice av R cv) := by rw [HB6.out.cell hgl, ← hve]; exact (HCell.out k hkc).2
    rw [hve] at HCl
    clear hve
    go_wp2_with fail
    refine Calls.mono HCl.out ?_
    rintro e w7 ⟨gb, cb, rfl, hcb, hrow⟩
    have HRow := hid hrow
    have hgb : w6.heap.size ≤ gb := hrow.ge
    have hgbl : gb < w7.heap.size := cell_lt (hrow.cell 0 hRR.1)
    have hg7 : g < w7.heap.size := Nat.lt_of_lt_of_le hgl (Nat.le_trans HB6.out.size hrow.below.size)
    have hgne : g ≠ gb := by have := HB6.out.size; omega
    have c7 : w7.cell? ⟨g, k * 2 + 1, none⟩ = some (.slice av R cv) := by rw [hrow.below.cell (cell_lt c2)]; exact c2
    have f7 : w7.frozen? ⟨g, k * 2 + 1, none⟩ = false := by rw [hrow.below.frozen (cell_lt c2), HB6.out.frozen hgl]; exact frozen_at HH.out
    clear hrow c2
    go_wp2_with fail
    obtain ⟨w8, h8⟩ : ∃ w8, w7.setCell ⟨g, k * 2 + 1, none⟩ (.slice (some ⟨gb, 0, none⟩) R cb) = w8 := ⟨_, rfl⟩
    rw [h8]
    have c8 : w8.cell? ⟨g, k * 2 + 1, none⟩ = some (.slice (some ⟨gb, 0, none⟩) R cb) := by rw [← h8]; exact World.cell?_setCell_same _ _ _ c7
    obtain ⟨x, hx⟩ : ∃ x, shv d n D (O k) i = x := ⟨_, rfl⟩
    have nx : 0 ≤ x ∧ x ≤ 30 := by rw [← hx]; exact shv_num _ _ _ _ _
    have b8 : ∀ r, r < R → w8.cell? ⟨gb, r, none⟩ = some (.int .i64 (shv d n D (O k) r)) := fun r hr => by
      rw [← h8, World.cell?_setCell_other _ _ _ _ (by intro e; injection e with e1; exact hgne e1)]
      exact HRow.out.cell r hr
    have b8i : w8.cell? ⟨gb, i, none⟩ = some (.int .i64 x) := by rw [b8 i hiR, hx]
    have f8 : w8.frozen? ⟨gb, i, none⟩ = false := by rw [← h8, World.frozen?_setCell]; exact HRow.out.free i hiR
    obtain ⟨y, hy⟩ : ∃ y, bb % 30 = y := ⟨_, rfl⟩
    have ny : 0 ≤ y ∧ y ≤ 29 := by omega
    have HX := hid hx
    have HB8 := hid b8
    have H8 := hid h8
    clear hx b8 h8 c7 f7
    refine region_quiet_tail 20 (by kernel_rfl) (by kernel_rfl) ?_
    simp only [List.take_succ_cons, List.take_zero, List.drop_succ_cons, List.drop_zero]
    repeat (go_big_quiet_step ((go_at_call 27; exact Calls.quiet_of_same (at_any _ _ (by omega) _))))
    refine wpQuiet_nil ?_
    intro _ hw1
    obtain ⟨nq, hw2⟩ := hw1
    subst hw2
    have B48 : Below w4.heap.size w4 (w8.drewN nq) := by
      have h1 : Below w4.heap.size w4 w7 := HB46.out.trans (HRow.out.below.mono HB46.out.size)
      have h2 := h1.setCell (p := ⟨g, k * 2 + 1, none⟩) hge (.slice (some ⟨gb, 0, none⟩) R cb)
      rw [H8.out] at h2
      exact h2.trans ⟨rfl, rfl, rfl, Nat.le_refl _, fun _ _ => rfl⟩
    have hgb4 : w4.heap.size ≤ gb := Nat.le_trans HB46.out.size hgb
    have B49 : Below w4.heap.size w4 ((w8.drewN nq).setCell ⟨gb, i, none⟩ (.int .i64 ((x + 1 + y) % 31))) := B48.setCell (p := ⟨gb, i, none⟩) hgb4 _
    have B39 := HB4.out.trans (B49.mono HB4.out.size)
    obtain ⟨q0, q1, q2⟩ := KP.out _ B39
    have n8 : w8.heap.size = w7.heap.size := by rw [← H8.out]; simp
    have sh : ShSl ((w8.drewN nq).setCell ⟨gb, i, none⟩ (.int .i64 ((x + 1 + y) % 31))) ((w8.drewN nq).setCell ⟨gb, i, none⟩ (.int .i64 ((x + 1 + y) % 31))).heap.size (.slice (some ⟨g, 0, none⟩) c cap) c (fun j => (O j : Int)) (fun j => if j = k then .slice (some ⟨gb, 0, none⟩) R cb else V (O j)) (fun _ => R) (bentX (fun j r => shv d n D (O j) r) k i ((x + 1 + y) % 31)) := by
      have hot : ∀ (a : Addr) (v : Value), a.block ≠ gb → w8.cell? a = some v → ((w8.drewN nq).setCell ⟨gb, i, none⟩ (.int .i64 ((x + 1 + y) % 31))).cell? a = some v := fun a v hne h => by
        rw [World.cell?_setCell_other _ _ _ _ (by intro e; rw [← e] at hne; exact hne rfl)]
        exact h
      have h58 : ∀ (o : Nat) (v : Value), o ≠ k * 2 + 1 → w5.cell? ⟨g, o, none⟩ = some v → w8.cell? ⟨g, o, none⟩ = some v := fun o v hne h => by
        rw [← H8.out, World.cell?_setCell_other _ _ _ _ (by intro e; injection e with _ e2; exact hne e2.symm)]
        rw [HRow.out.below.cell (Nat.lt_of_lt_of_le hgl HB6.out.size), HB6.out.cell hgl]
        exact h
      refine bent_shl hcap hc1.2 hRR.2 hkc ?_ ?_ hcb (fun j hj => hot _ _ hgne (h58 _ _ (by omega) (HCell.out j hj).1)) (fun j hj hjk => hot _ _ hgne (h58 _ _ (by omega) (HCell.out j hj).2)) (hot _ _ hgne c8) (fun j hj => H4.out _ B49 j hj) (fun r hr => ?_)
      · simp only [World.setCell, Array.size_modify]; show g < w8.heap.size; omega
      · simp only [World.setCell, Array.size_modify]; show gb < w8.heap.size; omega
      · unfold bentX
        by_cases e : r = i
        · subst e
          rw [if_pos ⟨rfl, rfl⟩]
          exact World.cell?_setCell_same _ _ _ (show (w8.drewN nq).cell? ⟨gb, r, none⟩ = some (.int .i64 x) from b8i)
        · rw [if_neg (fun hh => e hh.2), World.cell?_setCell_other _ _ _ _ (by intro e2; injection e2 with _ e3; exact e e3.symm)]
          exact HB8.out r hr
    have hnx : (x + 1 + y) % 31 ≠ shv d n D (O k) i := by rw [HX.out]; omega
    have HJ := hid (HO.out.join (d : Int) (m : Int) (n : Int) _ c _ _ _ _ _ sh)
    have H9 := hid B39
    have HNx := hid hnx
    clear sh B39 B49 B48 hnx n8
    go_wp2_with fail
    refine HJ.out.mono ?_
    rintro e w10 ⟨hb10, r, kr, rfl, hkr, hir⟩
    rw [joinE_of HPl.out hcc.1 hcc.2 HPi.out.o HPi.out.oinj HR.out (by omega)] at *
    have HB10 : Hid (Below w3.heap.size w3 w10) := H9.out.trans (hb10.mono H9.out.size)
    obtain ⟨p0, p1, p2⟩ := KP.out w10 HB10.out
    have HFin : Hid (∀ w', Below w3.heap.size w3 w' → Below w.heap.size w w') := fun w' hb' => HB3.out.trans (hb'.mono HB3.out.size)
    clear q0 q1 q2 c8 b8i f8 hb10
    by_cases hdc : d < c
    · obtain rfl : c = d + 1 := by have := HC.out; omega
      have ht := torn_more (n := n) (D := D) (O := O) (R := R) (k := k) (i := i) (x := (x + 1 + y) % 31) ⟨by omega, by omega⟩ HD.out (fun j hj => by have := HPi.out.o j hj; omega) HPi.out.oinj hkc hiR (by omega) HNx.out
      rw [if_pos ht]
      have hdi : (d : Int) < ((d + 1 : Nat) : Int) := by omega
      clear hkr hir ht
      go_wp2
      go_ret
      exact ⟨rfl, HFin.out _ HB10.out⟩
    · obtain rfl : c = d := by omega
      cases ht : tornB c n R c (fun j => (O j : Int)) (bentX (fun j r => shv c n D (O j) r) k i ((x + 1 + y) % 31)) with
      | true =>
        rw [if_pos rfl]
        clear hkr hir ht
        go_wp2
        go_ret
        exact ⟨rfl, HFin.out _ HB10.out⟩
      | false =>
        rw [if_neg (by decide)]
        rw [ht] at hkr
        have hkr2 : (kr : Int) = (n : Int) := hkr
        clear hkr
        obtain rfl : kr = n := by omega
        rw [Int.toNat_natCast] at hir
        have heq := equal_isl hir (HI1.out.up HB10.out)
        rw [torn_just (by omega) HD.out (fun j hj => by have := HPi.out.o j hj; omega) HPi.out.oinj hkc hiR (by omega) HNx.out ht] at heq
        have HEq := hid heq
        clear heq hir ht hkr2
        go_wp2_with (go_at_call 26; go_must (refine HEq.out.mono ?_; rintro e w11 ⟨rfl, q11, hq11⟩; have HQ := hid hq11; clear hq11))
        go_ret
        refine ⟨rfl, ?_⟩
        have h := HFin.out _ HB10.out
        rw [HQ.out]
        exact h.trans ⟨rfl, rfl, rfl, Nat.le_refl _, fun _ _ => rfl⟩
  · have hne : (splitE nd of sz n D != 0) = true := by simpa using he
    generalize splitE nd of sz n D = c at *
    clear hm hsl he
    go_wp2_with (go_at_call 16; go_must (refine (HP.out _ HB3.out).mono ?_; rintro e w4 ⟨rfl, hb4⟩; have HB3 := hid hb4; clear hb4))
    go_ret
    exact ⟨rfl, HB3.out⟩

end Go.Proofs.Ytfcpmpcfbhkacaa
