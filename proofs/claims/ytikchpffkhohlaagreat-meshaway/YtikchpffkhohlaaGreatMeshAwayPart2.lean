/- Several texts of one proof, in their order. -/
import Derived.Test.YtikchpffkhohlaaGreatMeshAwayPart1
import Derived.Test.YtikchpffkhohlaaGreatMSum13
import Derived.Test.YtikchpffkhohlaaGreatMSum14

namespace Go.Proofs.YtikchpffkhohlaaGreat

open Go.RowKit CurveMath
set_option linter.unusedVariables false

set_option maxHeartbeats 8000000 in
set_option maxRecDepth 10000 in
theorem meshAway_of (hO : MeshOwes) (vb : Value) (n : Nat) (PV : Nat → Value) (b : Bk) (vl : Value) (np : Nat) (KV : Nat → Value) (UV : Nat → Nat → Value) (P : Ps) (k : Int) (w : World) (hv : VeSl w w.heap.size vb n PV b) (hl : PsSl w w.heap.size vl np KV UV P) :
    Calls Tryz.prog 6 #[meshV vb vl, .int .i64 k] w fun e w' => e = .returned (.bool true) ∧ Below w.heap.size w w' := by
  have HO := hid hO
  have HW : Hid (∀ u : World, _) := fun u => woven_any hO u
  have HV := hid hv
  have HL := hid hl
  obtain ⟨ab, cb, rfl, _, _⟩ := hv
  obtain ⟨al, cl, rfl, _, _⟩ := hl
  have hb0 := below_alloc w (.cells #[.slice ab n cb, .slice al np cl] 27)
  have hx := MsAt.box HV.out HL.out
  obtain ⟨U, hU⟩ : ∃ u, w.alloc (.cells #[.slice ab n cb, .slice al np cl] 27) = u := ⟨_, rfl⟩
  rw [hU] at hb0 hx
  have HB := hid hb0
  have A0 : Hid (MsAt U w.heap.size ab n cb PV b al np cl KV UV P) := hx
  clear hb0 hx hO
  obtain ⟨c0, c1⟩ := A0.out.cells
  have CK := hid (HO.out.restore _ n PV b _ np KV UV P k U A0.out.2.1 A0.out.2.2)
  unfold meshV at CK
  unfold meshV
  go_enter Tryz.func6, Tryz.ntmps6
  go_wp2_with fail
  refine Calls.mono CK.out ?_
  rintro e u1 hM
  obtain ⟨hb, a1, m1, c1', a2, c2, rfl, hm1, hr1, hs1⟩ := rest_open hM
  obtain ⟨er, her⟩ : ∃ c, rsE n b np P k = c := ⟨_, rfl⟩
  obtain ⟨lb, hlb⟩ : ∃ c, (rsB n b np P k).length = c := ⟨_, rfl⟩
  rw [her] at hm1
  rw [hlb] at hs1
  rw [her, hlb]
  have HEr := hid her
  have HLb := hid hlb
  have HM1 := hid hm1
  replace HB := hid (HB.out.trans (hb.mono HB.out.size))
  replace A0 := hid (A0.out.up hb)
  have R1 := hid hr1
  have S1 := hid hs1
  clear hM hb CK hm1 hr1 hs1 her hlb c0 c1 hU
  go_wp2_with fail
  refine Calls.mono (HW.out u1) ?_
  rintro e u2 ⟨rfl, hb⟩
  replace HB := hid (HB.out.trans (hb.mono HB.out.size))
  replace A0 := hid (A0.out.up hb)
  replace R1 := hid (R1.out.up hb)
  replace S1 := hid (S1.out.up hb)
  clear hb
  obtain ⟨c0, c1⟩ := A0.out.cells
  have CK := hid (HO.out.check _ n PV b _ np KV UV P u2 A0.out.2.1 A0.out.2.2)
  unfold meshV at CK
  obtain ⟨pe, hpe⟩ : ∃ c, peersE n b np P = c := ⟨_, rfl⟩
  rw [hpe] at CK
  have HPe := hid hpe
  clear hpe
  go_wp2_with fail
  refine Calls.mono CK.out ?_
  rintro e u3 ⟨rfl, hb⟩
  replace HB := hid (HB.out.trans (hb.mono HB.out.size))
  replace A0 := hid (A0.out.up hb)
  replace R1 := hid (R1.out.up hb)
  replace S1 := hid (S1.out.up hb)
  clear hb CK c0 c1
  by_cases hc0 : pe = 0
  · subst hc0
    have HR := hid (meshR_of HPe.out)
    have hn8 : np ≤ 8 := HR.out.few
    obtain ⟨c0, c1⟩ := A0.out.cells
    go_wp2_with fail
    refine region_tree_to (Below u3.heap.size u3) 7 #[true, true, true, true, true, true, true, false] 7 (fun a' w' => ∃ (gx g cap : Nat) (av : Option Addr), (∃ j14 j15 j16 j17 j18 j19 j20 j21 j22 j23 j24 j25 j26 j27 j29 j30 j31 j32 j33 : Value, a' = ⟨#[.agg #[.slice ab n cb, .slice al np cl], .int .i64 k, .pointer (some ⟨w.heap.size, 0, none⟩), undef, .bool false, .slice a1 m1 c1', .slice a2 lb c2, .int .i64 er, .pointer (some ⟨gx, 0, none⟩), undef, undef, undef, undef, undef, j14, j15, j16, j17, j18, j19, j20, j21, j22, j23, j24, j25, j26, j27, undef, j29, j30, j31, j32, j33, .agg #[.slice ab n cb, .slice av np cap], undef, undef, undef, undef, undef, undef, undef, undef, undef, undef, undef, undef, undef, undef, undef, undef, undef, undef, undef, undef, undef, undef, undef, undef, undef, undef, undef, undef, undef, undef, undef, undef, undef, undef, undef, undef, undef, undef, undef, undef, undef, undef, undef, undef, undef], []⟩) ∧ AwStart w u3 w' gx av g np cap KV P) (by kernel_rfl) (by kernel_rfl) (by kernel_rfl) rfl (by simp only [pickO, List.getElem?_cons_zero, List.getElem?_cons_succ]; exact rfl) rfl ?_ ?_
    · obtain ⟨U0, hU0⟩ : ∃ u, u3.drew = u := ⟨_, rfl⟩
      have HD : Hid (Below u3.heap.size u3 U0) := by rw [← hU0]; exact drew_below u3
      rw [hU0]
      clear hU0
      have hne : Nonempty (Of (Below u3.heap.size u3)) := ⟨⟨u3, Below.refl _ _⟩⟩
      have F0 : ∀ u : Of (Below u3.heap.size u3), u.val.cell? ⟨w.heap.size, 0, none⟩ = some (.slice ab n cb) := fun u => by rw [u.is.cell (cell_lt c0)]; exact c0
      have F1 : ∀ u : Of (Below u3.heap.size u3), u.val.cell? ⟨w.heap.size, 1, none⟩ = some (.slice al np cl) := fun u => by rw [u.is.cell (cell_lt c1)]; exact c1
      refine anyL_readsO (f := 3) (c := 7) (q := [0, 1, 2, 3]) (by simp only [pickO, List.getElem?_cons_zero, List.getElem?_cons_succ]; exact rfl) (by kernel_rfl) (by kernel_rfl) HD.out (by kernel_rfl) (by kernel_rfl) (by kernel_rfl) ?_
      repeat (go_big_quiet_step (fail))
      refine wpQuiet_nil ?_
      refine anyL_pick (f := 2) [4, 6] (by kernel_rfl) (by decide) ?_
      intro i hi
      simp only [List.mem_cons, List.not_mem_nil, or_false] at hi
      rcases hi with rfl | rfl
      · refine ⟨_, rfl, ?_⟩
        intro K hK
        have CC := hid (cloneP (A0.out.2.2.up HD.out) (by omega))
        go_wp2_with fail
        refine Calls.mono CC.out ?_
        rintro e U1 ⟨v', rfl, ho, hb⟩
        have hlt := A0.out.lt
        obtain ⟨av, g, cap, rfl, hg, hcap, hrow⟩ := rowP_any ho (g0 := w.heap.size) (by have := HD.out.size; have := hb.size; omega)
        have HRow := hid hrow
        have HG : Hid (1 ≤ np → av = some ⟨g, 0, none⟩ ∧ u3.heap.size ≤ g) := fun h => ⟨(hg h).1, by have := (hg h).2; have := HD.out.size; omega⟩
        replace HD := hid (HD.out.trans (hb.mono HD.out.size))
        clear ho hb hrow hg CC
        go_wp2
        refine ⟨rfl, hK _ _ HD.out ?_⟩
        clear hK K
        refine anyL_readsO (f := 1) (c := 7) (q := [5]) (by simp only [pickO, List.getElem?_cons_zero, List.getElem?_cons_succ]; exact rfl) (by kernel_rfl) (by kernel_rfl) HD.out (by kernel_rfl) (by kernel_rfl) (by kernel_rfl) ?_
        repeat (go_big_quiet_step (fail))
        refine wpQuiet_nil ?_
        refine anyL_pick (f := 0) [6] (by kernel_rfl) (by decide) ?_
        intro i hi
        simp only [List.mem_cons, List.not_mem_nil, or_false] at hi
        subst hi
        refine ⟨_, rfl, ?_⟩
        intro K hK
        go_wp2
        have hb3 := below_alloc U1 (.cells #[.slice none 0 0, .slice none 0 0] 27)
        refine ⟨rfl, hK _ _ (HD.out.trans (hb3.mono HD.out.size)) ?_⟩
        clear hK K
        refine anyL_end (by kernel_rfl) ?_
        exact ⟨U1.heap.size, g, cap, av, ⟨_, _, _, _, _, _, _, _, _, _, _, _, _, _, _, _, _, _, _, rfl⟩, AwStart.clone_first A0.out HB.out HD.out HG.out hcap HRow.out⟩
      · refine ⟨_, rfl, ?_⟩
        intro K hK
        go_wp2
        have hb3 := below_alloc U0 (.cells #[.slice none 0 0, .slice none 0 0] 27)
        have k3 := heap_alloc_new U0 (.cells #[.slice none 0 0, .slice none 0 0] 27)
        obtain ⟨V0, hV0⟩ : ∃ v, U0.alloc (.cells #[.slice none 0 0, .slice none 0 0] 27) = v := ⟨_, rfl⟩
        have hV0s : V0.heap.size = U0.heap.size + 1 := by rw [← hV0]; simp
        rw [hV0] at hb3 k3
        have HD1 := hid (HD.out.trans (hb3.mono HD.out.size))
        refine ⟨rfl, hK _ _ (by rw [hV0]; exact HD1.out) ?_⟩
        rw [hV0]
        clear hK K hb3
        have K3 := hid k3
        clear k3
        refine anyL_pick (f := 1) [4] (by kernel_rfl) (by decide) ?_
        intro i hi
        simp only [List.mem_cons, List.not_mem_nil, or_false] at hi
        subst hi
        refine ⟨_, rfl, ?_⟩
        intro K hK
        have CC := hid (cloneP (A0.out.2.2.up HD1.out) (by omega))
        go_wp2_with fail
        refine Calls.mono CC.out ?_
        rintro e U1 ⟨v', rfl, ho, hb⟩
        have hlt := A0.out.lt
        obtain ⟨av, g, cap, rfl, hg, hcap, hrow⟩ := rowP_any ho (g0 := w.heap.size) (by have := HD1.out.size; have := hb.size; omega)
        have HD2 := hid (HD1.out.trans (hb.mono HD1.out.size))
        have K4 := hid (stayB K3.out hb)
        have HRow := hid hrow
        have HG : Hid (1 ≤ np → av = some ⟨g, 0, none⟩ ∧ U0.heap.size < g) := fun h => ⟨(hg h).1, by have := (hg h).2; omega⟩
        clear ho hb hrow hg CC
        go_wp2
        refine ⟨rfl, hK _ _ HD2.out ?_⟩
        clear hK K
        refine anyL_readsO (f := 0) (c := 7) (q := [5]) (by simp only [pickO, List.getElem?_cons_zero, List.getElem?_cons_succ]; exact rfl) (by kernel_rfl) (by kernel_rfl) HD2.out (by kernel_rfl) (by kernel_rfl) (by kernel_rfl) ?_
        repeat (go_big_quiet_step (fail))
        refine wpQuiet_nil ?_
        refine anyL_end (by kernel_rfl) ?_
        exact ⟨U0.heap.size, g, cap, av, ⟨_, _, _, _, _, _, _, _, _, _, _, _, _, _, _, _, _, _, _, rfl⟩, AwStart.box_first A0.out HB.out HD.out HD2.out K4.out HG.out hcap HRow.out⟩
    · rintro a' V ⟨gx, g, cap, av, ⟨j14, j15, j16, j17, j18, j19, j20, j21, j22, j23, j24, j25, j26, j27, j29, j30, j31, j32, j33, rfl⟩, hS⟩
      have HS := hid hS
      obtain ⟨x0, x1, y0, y1⟩ := hS.cells
      clear hS c0 c1
      go_wp2
      have I0 := hid (HS.out.start (x0 := .slice ab n cb))
      have HKe : Hid (∀ j, j < np → KeSl w w.heap.size (KV j) (P.m j) (UV j) (P.t j)) := HL.out.kel
      have HGx := hid HS.out.g_
      have HCap := hid HS.out.cap_
      have R2 := hid (R1.out.up HS.out.low)
      have S2 := hid (S1.out.up HS.out.low)
      unfold put2 at I0
      obtain ⟨V2, hV2⟩ : ∃ v, (V.setCell ⟨gx, 0, none⟩ (.slice ab n cb)).setCell ⟨gx, 1, none⟩ (.slice av np cap) = v := ⟨_, rfl⟩
      rw [hV2]
      rw [hV2] at I0
      clear HS hV2
      go_loopw [38] (fun iv wr => ∃ i : Nat, i ≤ np ∧ iv = .int .i64 i ∧ Hid (AwInv w u3 wr gx (.slice ab n cb) av g np cap KV P i)) (fun iv _ => np - (intOf iv).toNat)
      case atStart => exact ⟨0, Nat.zero_le _, rfl, I0⟩
      case round =>
        obtain ⟨i, hi, rfl, I⟩ := hrel
        by_cases hlt : i < np
        · have hii : (i : Int) < (np : Int) := by omega
          obtain ⟨hav, hg⟩ := HGx.out (by omega)
          subst hav
          have HG := hid hg
          obtain ⟨⟨b0, b1⟩, ⟨g0, g1, g2⟩, f1, f2⟩ := I.out.cells hlt
          obtain ⟨ak, ck, hke, _, _⟩ := HKe.out i hlt
          rw [hke] at g2
          cases htk : P.th i with
          | true =>
            have HT := hid htk
            rw [htk] at g0
            have hbA := below_alloc wr (.cells #[.bool true, .int .i64 (P.rm i), .slice ak (P.m i) ck] 47)
            have IA := hid (I.out.up hbA)
            clear hke htk hg f1 f2
            have e0 := b0
            have e1 := b1
            clear b0 b1
            obtain ⟨⟨b0, b1⟩, ⟨_, _, _⟩, f1, f2⟩ := IA.out.cells hlt
            clear hbA
            go_wp2
            go_roundw
            case rel => exact ⟨i + 1, by omega, by go_num, IA.out.stepT hlt HG.out HT.out rfl⟩
            case measure => simp only [intOf]; omega
          | false =>
            have HT := hid htk
            rw [htk] at g0
            have hbA := below_alloc wr (.cells #[.bool false, .int .i64 (P.rm i), .slice ak (P.m i) ck] 47)
            have IA := hid (I.out.up hbA)
            clear hke htk hg f1 f2
            have e0 := b0
            have e1 := b1
            clear b0 b1
            obtain ⟨⟨b0, b1⟩, ⟨_, _, _⟩, f1, f2⟩ := IA.out.cells hlt
            have hgl := I.out.row.lt
            have kp := three_at (heap_alloc_new wr (.cells #[.bool false, .int .i64 (P.rm i), .slice ak (P.m i) ck] 47))
            have b1s : ((wr.alloc (.cells #[.bool false, .int .i64 (P.rm i), .slice ak (P.m i) ck] 47)).setCell ⟨g, i * 3 + 2, none⟩ (.slice none 0 0)).cell? ⟨gx, 1, none⟩ = some (.slice (some ⟨g, 0, none⟩) np cap) := by rw [cell_set_lit (Or.inl (fun e => HG.out.2.2 e.symm))]; exact b1
            have p1s : ((wr.alloc (.cells #[.bool false, .int .i64 (P.rm i), .slice ak (P.m i) ck] 47)).setCell ⟨g, i * 3 + 2, none⟩ (.slice none 0 0)).cell? ⟨wr.heap.size, 1, none⟩ = some (.int .i64 (P.rm i)) := by rw [cell_set_lit (Or.inl (by omega))]; exact kp.2.1
            have f1s : ((wr.alloc (.cells #[.bool false, .int .i64 (P.rm i), .slice ak (P.m i) ck] 47)).setCell ⟨g, i * 3 + 2, none⟩ (.slice none 0 0)).frozen? ⟨g, i * 3 + 1, none⟩ = false := by rw [frozen_set]; exact f1
            clear hgl kp
            clear hbA
            go_wp2
            go_roundw
            case rel => exact ⟨i + 1, by omega, by go_num, IA.out.stepF hlt HG.out HT.out rfl⟩
            case measure => simp only [intOf]; omega
        · have hie : np = i := by omega
          subst hie
          have hfin := I.out.fin (UV := UV) (fun h => (HGx.out h).1) HCap.out hn8 HKe.out
          obtain ⟨eA, eD, eB⟩ := away_same HR.out k
          have EA := hid (eA.trans HEr.out)
          have ED := hid eD
          have EB := hid eB
          obtain ⟨b0, b1⟩ := two_at I.out.box
          have CK := hid (HO.out.restore _ n PV b _ np _ UV (awayP P) k wr (HV.out.up I.out.below) hfin)
          unfold meshV at CK
          clear hfin eA eD eB
          go_wp2_with fail
          refine Calls.mono CK.out ?_
          rintro e u5 hM
          obtain ⟨hb, a3, m3, c3, a4, c4, rfl, hm3, hr3, hs3⟩ := rest_open hM
          rw [EA.out] at hm3
          rw [ED.out] at hr3
          rw [EB.out, HLb.out] at hs3
          rw [EA.out, EB.out, HLb.out]
          obtain rfl : m3 = m1 := by have := HM1.out; omega
          have HB5 := hid ((HB.out.trans (I.out.low.mono HB.out.size)).trans (hb.mono (by have := HB.out.size; have := I.out.low.size; omega)))
          have hb5 := I.out.low.trans (hb.mono I.out.low.size)
          have R5 := hid (R1.out.up hb5)
          have S5 := hid (S1.out.up hb5)
          have R6 := hid hr3
          have S6 := hid hs3
          clear hM hb hb5 CK hm3 hr3 hs3 b0 b1 HM1
          have CK := hid (equal_isl R5.out R6.out)
          rw [eqB_self] at CK
          go_wp2_with fail
          refine Calls.mono CK.out ?_
          rintro e y1 ⟨rfl, q1, hy1⟩
          have hb : Below u5.heap.size u5 y1 := by rw [hy1]; exact drewN_up _ _
          have CK2 := hid (equal_isl (S5.out.up hb) (S6.out.up hb))
          rw [eqB_self] at CK2
          replace HB5 := hid (HB5.out.trans (hb.mono HB5.out.size))
          clear hb hy1 CK
          go_wp2_with fail
          refine Calls.mono CK2.out ?_
          rintro e y2 ⟨rfl, q2, hy2⟩
          have hb : Below y1.heap.size y1 y2 := by rw [hy2]; exact drewN_up _ _
          replace HB5 := hid (HB5.out.trans (hb.mono HB5.out.size))
          clear hb hy2 CK2
          go_wp2
          go_ret
          exact ⟨rfl, HB5.out⟩
  · have hcb : (pe != 0) = true := by simpa using hc0
    clear hc0
    go_wp2_with fail
    refine Calls.mono (HW.out u3) ?_
    rintro e u4 ⟨rfl, hb⟩
    replace HB := hid (HB.out.trans (hb.mono HB.out.size))
    clear hb
    go_wp2
    go_ret
    exact ⟨rfl, HB.out⟩

end Go.Proofs.YtikchpffkhohlaaGreat
