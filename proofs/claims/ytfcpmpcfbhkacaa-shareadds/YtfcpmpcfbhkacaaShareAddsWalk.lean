/- The law ShareAdds, of a package that does what it owes. -/
import Derived.Test.YtfcpmpcfbhkacaaShareKit
import Derived.Test.YtfcpmpcfbhkacaaShareEq
import Derived.Test.YtfcpmpcfbhkacaaQuietMore
namespace Go.Proofs.Ytfcpmpcfbhkacaa
open Go.RowKit CurveMath
set_option linter.unusedVariables false

set_option maxRecDepth 10000 in
set_option maxHeartbeats 4000000 in
theorem shareAdds_of (hO : Owes) (nd of sz : Int) (a1 : Option Addr) (n1 cap1 : Nat) (A : Nat → Int) (a2 : Option Addr) (n2 cap2 : Nat) (B : Nat → Int) (w : World) (w1 : SlArg w a1 n1 cap1 A) (w2 : SlArg w a2 n2 cap2 B) :
    Calls Try.prog 6 #[planV nd of sz, .slice a1 n1 cap1, .slice a2 n2 cap2] w fun e w' => e = .returned (.bool true) ∧ Below w.heap.size w w' := by
  have hbx := below_alloc w (.cells #[.int .i64 nd, .int .i64 of, .int .i64 sz] 23)
  have i1 := w1.isl
  have i2 := w2.isl
  have HS := hid (hO.split nd of sz _ n1 A _ (i1.up hbx))
  have HP := hid (parted_up hO (w0 := w))
  unfold planV
  go_enter Try.func6, Try.ntmps6
  go_wp2_with fail
  refine HS.out.mono ?_
  rintro e w3 ⟨hb3, rl, ml, VL, rfl, hml, hsl, hal, haV⟩
  have B3 : Below w.heap.size w w3 := hbx.trans (hb3.mono hbx.size)
  have p0 : w3.cell? ⟨w.heap.size, 0, none⟩ = some (.int .i64 nd) := by rw [hb3.cell (by simp)]; exact cell_at (heap_alloc_new _ _) rfl
  have p1 : w3.cell? ⟨w.heap.size, 1, none⟩ = some (.int .i64 of) := by rw [hb3.cell (by simp)]; exact cell_at (heap_alloc_new _ _) rfl
  have p2 : w3.cell? ⟨w.heap.size, 2, none⟩ = some (.int .i64 sz) := by rw [hb3.cell (by simp)]; exact cell_at (heap_alloc_new _ _) rfl
  have pf : w3.frozen? ⟨w.heap.size, 1, none⟩ = false := by rw [hb3.frozen (by simp)]; exact frozen_at (heap_alloc_new _ _)
  go_wp2_with fail
  refine (hO.split nd of sz _ n2 B w3 (i2.up B3)).mono ?_
  rintro e w4 ⟨hb4, rm, mm, VM, rfl, hmm, hsm, ham, haW⟩
  have B4 : Below w.heap.size w w4 := B3.trans (hb4.mono B3.size)
  have KP : Hid (∀ w', Below w3.heap.size w3 w' → (w'.cell? ⟨w.heap.size, 0, none⟩ = some (.int .i64 nd) ∧ w'.cell? ⟨w.heap.size, 1, none⟩ = some (.int .i64 of) ∧ w'.cell? ⟨w.heap.size, 2, none⟩ = some (.int .i64 sz)) ∧ w'.frozen? ⟨w.heap.size, 1, none⟩ = false) := fun w' hb' =>
    ⟨⟨by rw [hb'.cell (cell_lt p0)]; exact p0, by rw [hb'.cell (cell_lt p1)]; exact p1, by rw [hb'.cell (cell_lt p2)]; exact p2⟩, by rw [hb'.frozen (cell_lt p1)]; exact pf⟩
  clear p0 p1 p2 pf
  have HB4 := hid B4
  by_cases he : splitE nd of sz n1 A = 0
  · by_cases hf : splitE nd of sz n2 B = 0
    · rw [he, hf]
      rw [if_pos he] at hml
      rw [if_pos hf] at hmm
      obtain ⟨hp, hz1, hA⟩ := splitE_ok he
      obtain ⟨_, hz2, hB⟩ := splitE_ok hf
      obtain ⟨hnd, hof, hsz2⟩ := planOk_spec hp
      have hrw := rowsN_bd hnd hsz2
      obtain ⟨d, rfl⟩ : ∃ d : Nat, nd = d := ⟨nd.toNat, by omega⟩
      obtain rfl : n2 = n1 := by omega
      subst hz1
      subst hml
      obtain rfl : mm = ml := by omega
      have hes := splitE_mk (n := n2) (D := fun j => (A j + B j) % 31) hp rfl (fun j _ => by omega)
      have hp2 : planOk (d : Int) (d : Int) (n2 : Int) = true := decide_eq_true (by omega)
      have hef := splitE_mk (n := n2) (D := A) hp2 rfl hA
      obtain ⟨R, hR⟩ : ∃ R : Nat, rowsN (d : Int) (n2 : Int) = R := ⟨_, rfl⟩
      rw [hR] at hrw hsl hsm
      rw [Int.toNat_natCast] at hsl hsm
      have B34 : Below w3.heap.size w3 w4 := hb4
      have HP4 := hid (parted_up hO (w0 := w4))
      have W1 := hid w1
      have W2 := hid w2
      have HO := hid hO
      have HI1 := hid i1
      have HSL := hid hsl
      have HSM := hid hsm
      have HAL := hid hal
      have HAV := hid haV
      have HN := hid (And.intro hA hB)
      have HES := hid hes
      have HEF := hid hef
      have HR := hid hR
      have H34 := hid hb4
      have hR1 : 1 ≤ R ∧ R ≤ 24 := by omega
      have hdd : 1 ≤ d ∧ d ≤ 4 := by omega
      have hdm : d ≤ mm ∧ mm ≤ 8 := by omega
      have hnn : 1 ≤ n2 ∧ n2 ≤ 24 := by omega
      clear hsl hsm hal haV ham haW hA hB hes hef hR he hf hp hp2 hrw hnd hof hsz2 hz2 hmm w1 w2 i1 i2 hb3 hb4 B34 hO B4 B3 hbx HS HP
      obtain ⟨ii, hi, hzz0, hzz1, hzz2⟩ := info_parts Try.infoInt
      obtain ⟨al, cl, hel, ⟨hcl, _⟩, hjl⟩ := HSL.out
      obtain ⟨am, cm, hem, ⟨hcm, _⟩, hjm⟩ := HSM.out
      subst hel hem
      rcases hjl with h | ⟨bl, ol, rfl, hbl, hjl⟩
      · omega
      rcases hjm with h | ⟨bm, om, rfl, hbm, hjm⟩
      · omega
      have HJL := hid hjl
      have HJM := hid hjm
      clear hjl hjm
      go_wp2_with (go_at_call 16; go_must (refine (HP4.out _ (Below.refl _ _)).mono ?_; rintro e w5 ⟨rfl, hb5⟩; have H45 := hid hb5; clear hb5))
      have H5 : Hid (Below w.heap.size w w5) := HB4.out.trans (H45.out.mono HB4.out.size)
      have H35 : Hid (Below w3.heap.size w3 w5) := H34.out.trans (H45.out.mono H34.out.size)
      obtain ⟨b1, o1, ea1, hb1, hc1⟩ : ∃ b off, a1 = some ⟨b, off, none⟩ ∧ b < w.heap.size ∧ ∀ j, j < n2 → w.cell? ⟨b, off + j, none⟩ = some (.int .i64 (A j)) := W1.out.cells.resolve_left (by omega)
      obtain ⟨b2, o2, ea2, hb2, hc2⟩ : ∃ b off, a2 = some ⟨b, off, none⟩ ∧ b < w.heap.size ∧ ∀ j, j < n2 → w.cell? ⟨b, off + j, none⟩ = some (.int .i64 (B j)) := W2.out.cells.resolve_left (by omega)
      subst ea1
      subst ea2
      have HC1 : Hid (∀ j, j < n2 → w5.cell? ⟨b1, o1 + j, none⟩ = some (.int .i64 (A j))) := fun j hj => by rw [H5.out.cell hb1]; exact hc1 j hj
      have HC2 : Hid (∀ j, j < n2 → w5.cell? ⟨b2, o2 + j, none⟩ = some (.int .i64 (B j))) := fun j hj => by rw [H5.out.cell hb2]; exact hc2 j hj
      have hb1' : b1 < w5.heap.size := Nat.lt_of_lt_of_le hb1 H5.out.size
      have hb2' : b2 < w5.heap.size := Nat.lt_of_lt_of_le hb2 H5.out.size
      clear hb1 hb2 hc1 hc2 W1 W2
      go_loopw [11, 43] (fun v i wr => ∃ k : Nat, k ≤ n2 ∧ i = .int .i64 k ∧ Hid (OwnI w5 wr v k (fun j => (A j + B j) % 31))) (fun _ i _ => n2 - (intOf i).toNat)
      case atStart => exact ⟨0, Nat.zero_le _, rfl, OwnI.nil _ _⟩
      case round =>
        obtain ⟨k, hk, rfl, OW⟩ := hrel
        by_cases hlt : k < n2
        · have hi2 : (k : Int) < (n2 : Int) := by omega
          have g1 : wr.cell? ⟨b1, o1 + k, none⟩ = some (.int .i64 (A k)) := by rw [OW.out.2.cell hb1']; exact HC1.out k hlt
          have g2 : wr.cell? ⟨b2, o2 + k, none⟩ = some (.int .i64 (B k)) := by rw [OW.out.2.cell hb2']; exact HC2.out k hlt
          have n1 := HN.out.1 k hlt
          have n2 := HN.out.2 k hlt
          obtain ⟨y, hy⟩ : ∃ y, A k = y := ⟨_, rfl⟩
          obtain ⟨z, hz⟩ : ∃ z, B k = z := ⟨_, rfl⟩
          rw [hy] at g1 n1
          rw [hz] at g2 n2
          have HS : Hid ((A k + B k) % 31 = (y + z) % 31) := by show _ = _; rw [hy, hz]
          clear hy hz
          go_wp2
          refine region_pre_tail 11 [0] [1, 2, 3, 4, 5, 6, 7, 8, 9, 10] (by kernel_rfl) (by kernel_rfl) (fun _ _ _ _ _ h => h) ?_
          simp only [opsAt, List.map_cons, List.map_nil, List.cons_append, List.nil_append, List.getElem?_cons_succ, List.getElem?_cons_zero, Option.getD_some, List.drop_succ_cons, List.drop_zero]
          repeat (go_big_quiet_step (fail))
          refine wpQuiet_nil ?_
          intro _ hw1
          obtain ⟨nq, hw2⟩ := hw1
          subst hw2
          go_wp2_with (at_builtin; go_must (refine wpList_append_own _ rfl (.tmp 46) (.tmp 57) 24 rfl w5.heap.size 3 ii (.int .i64 0) 1 8 Try.underlying24 hi hzz0 hzz1 hzz2 rfl (by decide) _ _ _ rfl (OW.out.owns _ nq) ⟨_, 0, none⟩ 1 1 [.int .i64 ((y + z) % 31)] rfl rfl (newCell _ _ _) (oneCell _) (by unfold maxLen; omega) (by omega) (by have := OW.out.2.size; simp; omega) ?_; intro v1 w6 ho6 hg6 _; have O6 := hid (OW.out.push _ _ ho6 hg6 HS.out); clear ho6 hg6))
          go_roundw
          case rel => exact ⟨k + 1, by omega, by go_num, O6⟩
          case measure => simp only [intOf]; omega
        · have he : k = n2 := by omega
          subst he
          obtain ⟨g, cs, hv, hcs, hrow⟩ := OW.out.row (by omega)
          subst hv
          have BW : Below w5.heap.size w5 wr := OW.out.2
          have B3r : Below w3.heap.size w3 wr := H35.out.trans (BW.mono H35.out.size)
          have BWr : Below w.heap.size w wr := H5.out.trans (BW.mono H5.out.size)
          have ss := hrow.isl hcs (by omega)
          have K3 := hid (HO.out.split (d : Int) (mm : Int) (k : Int) _ k _ wr ss)
          obtain ⟨⟨p0, p1, p2⟩, pf⟩ := KP.out wr B3r
          have H3r := hid B3r
          have H4r : Hid (Below w4.heap.size w4 wr) := H45.out.trans (BW.mono H45.out.size)
          have HWr := hid BWr
          clear BW B3r BWr ss hrow OW HC1 HC2
          go_wp2_with fail
          refine Calls.mono K3.out ?_
          rintro e w6 ⟨hb6, rn, mn, VN, rfl, hmn, hsn, _, _⟩
          rw [HES.out]
          rw [HES.out, if_pos rfl] at hmn
          obtain rfl : mn = mm := by omega
          rw [HR.out, Int.toNat_natCast] at hsn
          obtain ⟨an, cn, hen, ⟨hcn, _⟩, hjn⟩ := hsn
          subst hen
          rcases hjn with h | ⟨bn, on, rfl, hbn, hjn⟩
          · omega
          have HJN := hid hjn
          have H36 : Hid (Below w3.heap.size w3 w6) := H3r.out.trans (hb6.mono H3r.out.size)
          have H46 : Hid (Below w4.heap.size w4 w6) := H4r.out.trans (hb6.mono H4r.out.size)
          have H06 : Hid (Below w.heap.size w w6) := HWr.out.trans (hb6.mono HWr.out.size)
          clear hjn hmn hb6 hb1' hb2' p0 p1 p2 pf
          go_wp2
          go_loopw [70] (fun i wq => ∃ j q : Nat, j ≤ mn ∧ i = .int .i64 j ∧ wq = w6.drewN q) (fun i _ => mn - (intOf i).toNat)
          case atStart => exact ⟨0, 0, Nat.zero_le _, rfl, rfl⟩
          case round =>
            obtain ⟨j, q, hj, rfl, hwq⟩ := hrel
            have HQ := hid hwq
            clear hwq
            by_cases hjm : j < mn
            · have hji : (j : Int) < (mn : Int) := by omega
              obtain ⟨_, n2, n3⟩ := HJN.out j hjm
              obtain ⟨an2, cn2, hvn, _, hvn2⟩ := n3
              rcases hvn2 with h | ⟨bn2, on2, rfl, hbn2, hvn2⟩
              · omega
              obtain ⟨_, l2, l3⟩ := HJL.out j hjm
              obtain ⟨al2, cl2, hvl, _, hvl2⟩ := l3
              rcases hvl2 with h | ⟨bl2, ol2, rfl, hbl2, hvl2⟩
              · omega
              obtain ⟨_, m2, m3⟩ := HJM.out j hjm
              obtain ⟨am2, cm2, hvm, _, hvm2⟩ := m3
              rcases hvm2 with h | ⟨bm2, om2, rfl, hbm2, hvm2⟩
              · omega
              rw [hvn] at n2
              rw [hvl] at l2
              rw [hvm] at m2
              have H3q := H36.out
              have H4q := H46.out
              have HF : Hid (w6.cell? ⟨bn, on + j * 2 + 1, none⟩ = some (.slice (some ⟨bn2, on2, none⟩) R cn2) ∧ w6.cell? ⟨bl, ol + j * 2 + 1, none⟩ = some (.slice (some ⟨bl2, ol2, none⟩) R cl2) ∧ w6.cell? ⟨bm, om + j * 2 + 1, none⟩ = some (.slice (some ⟨bm2, om2, none⟩) R cm2)) :=
                ⟨n2, by rw [H3q.cell (cell_lt l2)]; exact l2, by rw [H4q.cell (cell_lt m2)]; exact m2⟩
              have HG : Hid (∀ i, i < R → ∃ x y : Int, (0 ≤ x ∧ x ≤ 30) ∧ (0 ≤ y ∧ y ≤ 30) ∧ w6.cell? ⟨bn2, on2 + i, none⟩ = some (.int .i64 ((x + y) % 31)) ∧ w6.cell? ⟨bl2, ol2 + i, none⟩ = some (.int .i64 x) ∧ w6.cell? ⟨bm2, om2 + i, none⟩ = some (.int .i64 y)) := fun i hi => by
                refine ⟨shv d k A j i, shv d k B j i, shv_num _ _ _ _ _, shv_num _ _ _ _ _, ?_, ?_, ?_⟩
                · rw [← shv_sum (S := fun j => (A j + B j) % 31) (by omega) HN.out.1 HN.out.2 (fun _ _ => rfl)]
                  exact hvn2 i hi
                · rw [H3q.cell hbl2]; exact hvl2 i hi
                · rw [H4q.cell hbm2]; exact hvm2 i hi
              clear n2 hvn hvn2 l2 hvl hvl2 m2 hvm hvm2 H3q H4q
              obtain ⟨f1, _, _⟩ := HF.out
              have hqw := HQ.out
              subst hqw
              go_wp2
              go_loopw [79] (fun i wq => ∃ i' q : Nat, i' ≤ R ∧ i = .int .i64 i' ∧ wq = w6.drewN q) (fun i _ => R - (intOf i).toNat)
              case atStart => exact ⟨0, q, Nat.zero_le _, rfl, rfl⟩
              case round =>
                obtain ⟨i', q2, hi', rfl, hwq2⟩ := hrel
                subst hwq2
                by_cases hil : i' < R
                · have hii : (i' : Int) < (R : Int) := by omega
                  obtain ⟨f1, f2, f3⟩ := HF.out
                  obtain ⟨x, y, nx, ny, f4, f5, f6⟩ := HG.out i' hil
                  go_wp2
                  go_quiet (fail)
                  go_wp2
                  go_roundw
                  case rel => exact ⟨i' + 1, q2 + nq, by omega, by go_num, by simp⟩
                  case measure => simp only [intOf]; omega
                · have hil2 : i' = R := by omega
                  subst hil2
                  go_wp2
                  go_roundw
                  case rel => exact ⟨j + 1, q2, by omega, by go_num, rfl⟩
                  case measure => simp only [intOf]; omega
            · have hjm2 : j = mn := by omega
              subst hjm2
              have hqw := HQ.out
              obtain ⟨W, hWe⟩ : ∃ W, W = w6.drewN q := ⟨_, rfl⟩
              rw [← hWe] at hqw
              subst hqw
              have B3W : Below w3.heap.size w3 wr := hWe ▸ H36.out.trans ⟨rfl, rfl, rfl, Nat.le_refl _, fun _ _ => rfl⟩
              have B0W : Below w.heap.size w wr := hWe ▸ H06.out.trans ⟨rfl, rfl, rfl, Nat.le_refl _, fun _ _ => rfl⟩
              obtain ⟨⟨p0, p1, p2⟩, pf⟩ := KP.out wr B3W
              have hb7 : Below w.heap.size w (wr.setCell ⟨w.heap.size, 1, none⟩ (.int .i64 (d : Int))) := B0W.setCell (Nat.le_refl _) _
              have K4 := hid (HO.out.split (d : Int) (d : Int) (k : Int) _ k A _ (HI1.out.up hb7))
              have q0 : (wr.setCell ⟨w.heap.size, 1, none⟩ (.int .i64 (d : Int))).cell? ⟨w.heap.size, 0, none⟩ = some (.int .i64 (d : Int)) := by rw [World.cell?_setCell_other _ _ _ _ (by intro e; injection e with _ e2; omega)]; exact p0
              have Q0 := hid q0
              have sl := (HSL.out.up B3W).set (bs := w.heap.size) (HAL.out.mono' (by simp)) (fun k hk => (HAV.out k hk).mono' (by simp)) 1 (.int .i64 (d : Int))
              have SL := hid sl
              have H7 := hid hb7
              clear hWe B3W B0W hb7 q0 sl HQ
              go_wp2_with fail
              refine Calls.mono K4.out ?_
              rintro e w8 ⟨hb8, rf, mf, VF, rfl, hmf, hsf, _, _⟩
              rw [HEF.out]
              rw [HEF.out, if_pos rfl] at hmf
              obtain rfl : mf = d := by omega
              rw [HR.out, Int.toNat_natCast] at hsf
              have r0 : w8.cell? ⟨w.heap.size, 0, none⟩ = some (.int .i64 (mf : Int)) := by rw [hb8.cell (cell_lt Q0.out)]; exact Q0.out
              have s8 : ShSl w8 w8.heap.size (.slice (some ⟨bl, ol, none⟩) j cl) j (fun k => (k : Int)) VL (fun _ => R) (fun k' i => shv mf k A k' i) := by
                have h1 := SL.out
                have e1 : (wr.setCell ⟨w.heap.size, 1, none⟩ (.int .i64 (mf : Int))).heap.size = wr.heap.size := by simp
                rw [← e1] at h1
                exact h1.up hb8
              have hq := equalFunc_Same HO.out.same hsf (s8.take hdm.1)
              have e2 : eqShB mf mf (fun k => (k : Int)) (fun k => (k : Int)) (fun _ => R) (fun _ => R) (fun k' i => shv mf k A k' i) (fun k' i => shv mf k A k' i) = true := by
                refine decide_eq_true ⟨rfl, fun j _ => ?_⟩
                unfold sameB eqB
                simp
              rw [e2] at hq
              have KQ := hid hq
              have H8 := hid (H7.out.trans (hb8.mono (by have := H7.out.size; exact this)))
              have hdj : (mf : Int) ≤ (j : Int) := by omega
              have hdc : (mf : Int) ≤ (cl : Int) := by omega
              clear hb8 hmf hsf s8 hq e2
              go_wp2_with fail
              refine Calls.mono KQ.out ?_
              rintro e w9 ⟨rfl, hb9⟩
              go_wp2
              go_ret
              exact ⟨rfl, H8.out.trans (hb9.mono H8.out.size)⟩
    · have hne : (splitE nd of sz n2 B != 0) = true := by simpa using hf
      rw [he]
      generalize splitE nd of sz n2 B = c at *
      clear hml hsl hal haV hmm hsm ham haW he hf
      go_wp2_with (go_at_call 16; go_must (refine (HP.out _ HB4.out).mono ?_; rintro e w5 ⟨rfl, hb5⟩; have HB4 := hid hb5; clear hb5))
      go_ret
      exact ⟨rfl, HB4.out⟩
  · have hne : (splitE nd of sz n1 A != 0) = true := by simpa using he
    generalize splitE nd of sz n1 A = c at *
    generalize splitE nd of sz n2 B = c2 at *
    clear hml hsl hal haV hmm hsm ham haW he
    go_wp2_with (go_at_call 16; go_must (refine (HP.out _ HB4.out).mono ?_; rintro e w5 ⟨rfl, hb5⟩; have HB4 := hid hb5; clear hb5))
    go_ret
    exact ⟨rfl, HB4.out⟩

end Go.Proofs.Ytfcpmpcfbhkacaa
