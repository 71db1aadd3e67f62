/- Several texts of one proof, in their order. -/
import Derived.Test.YtalaobfmnacikaaGreatSumR12
import Derived.Test.YtalaobfmnacikaaGreatSumR6
import Derived.Test.YtalaobfmnacikaaGreatSumR3

namespace Go.Proofs.YtalaobfmnacikaaGreat

open Go.RowKit CurveMath
set_option linter.unusedVariables false

set_option maxHeartbeats 8000000 in
set_option maxRecDepth 10000 in
theorem worldBack_of (hO : MeshOwes) (hW : WorldOwes) (vb : Value) (n : Nat) (PV : Nat → Value) (b : Bk) (vl : Value) (np : Nat) (KV : Nat → Value) (UV : Nat → Nat → Value) (P : Ps) (k i : Int) (w : World) (hv : VeSl w w.heap.size vb n PV b) (hl : PsSl w w.heap.size vl np KV UV P) :
    Calls Tryz.prog 5 #[meshV vb vl, .int .i64 k, .int .i64 i] w fun e w' => e = .returned (.bool true) ∧ Below w.heap.size w w' := by
  have HJ : Hid (∀ u : World, _) := fun u => done_any hO.toMeshCore hW u
  have HM := hid hO
  have HWo := hid hW
  obtain ⟨ab, cb, rfl, z1, z2⟩ := id hv
  clear z1 z2
  obtain ⟨al, cl, rfl, z1, z2⟩ := id hl
  clear z1 z2
  have hb0 := below_alloc w (.cells #[.slice ab n cb, .slice al np cl] 27)
  have A0 := hid (MsAt.box hv hl)
  obtain ⟨U, hU⟩ : ∃ u, w.alloc (.cells #[.slice ab n cb, .slice al np cl] 27) = u := ⟨_, rfl⟩
  rw [hU] at hb0 A0
  obtain ⟨gx, hgx⟩ : ∃ g, w.heap.size = g := ⟨_, rfl⟩
  have HB := hid hb0
  have A1 : Hid (MsAt U gx ab n cb PV b al np cl KV UV P) := by rw [← hgx]; exact A0.out
  obtain ⟨bad, hbad⟩ : ∃ c, peersE n b np P = c := ⟨_, rfl⟩
  clear hb0 A0 hv hl hO hW
  unfold meshV
  by_cases h0 : bad = 0
  · subst h0
    have HR := hid (meshR_of hbad)
    clear hbad
    by_cases hn0 : np = 0
    · subst hn0
      go_enter Tryz.func5, Tryz.ntmps5
      go_wp2_with fail
      refine Calls.mono (HJ.out _) ?_
      rintro e u1 ⟨rfl, hb⟩
      have A2 := hid (A1.out.up hb)
      replace HB := hid (HB.out.trans (hb.mono HB.out.size))
      clear hb hU hgx
      obtain ⟨c0, c1⟩ := A2.out.cells
      have CK := hid (HM.out.check _ n PV b _ 0 KV UV P u1 A2.out.2.1 A2.out.2.2)
      rw [HR.out.e] at CK
      unfold meshV at CK
      go_wp2_with fail
      refine Calls.mono CK.out ?_
      rintro e u2 ⟨rfl, hb⟩
      have A3 := hid (A2.out.up hb)
      replace HB := hid (HB.out.trans (hb.mono HB.out.size))
      clear hb CK c0 c1
      obtain ⟨c0, c1⟩ := A3.out.cells
      go_wp2_with fail
      refine Calls.mono (HJ.out _) ?_
      rintro e u3 ⟨rfl, hb⟩
      replace HB := hid (HB.out.trans (hb.mono HB.out.size))
      clear hb c0 c1
      go_wp2
      go_ret
      exact ⟨rfl, HB.out⟩
    · have hnp : (np : Int) ≠ 0 := by omega
      have hnp' : ((np : Int) == 0) = false := by simpa using hnp
      have hn8 := HR.out.few
      have hk1 := Int.emod_nonneg k (show (np : Int) ≠ 0 by omega)
      have hk2 := Int.emod_lt_of_pos k (show 0 < (np : Int) by omega)
      obtain ⟨kk, hkk⟩ : ∃ j : Nat, k % (np : Int) = (j : Int) := ⟨(k % (np : Int)).toNat, by omega⟩
      rw [hkk] at hk1 hk2
      have hkl : kk < np := by omega
      have HKK := hid hkk
      clear hkk hk1 hk2
      obtain ⟨bl, off, rfl, hbl, t0, t1, t2, t3⟩ := A1.out.2.2.at hkl
      have HBl := hid hbl
      obtain ⟨ak, ck, hkv, z1, z2⟩ := id t3
      clear z1 z2
      rw [hkv] at t2 t3
      have T2 := hid t2
      have T3 := hid t3
      have HKV := hid hkv
      clear t1 t2 t3 hbl hkv
      cases hth : P.th kk
      · rw [hth] at t0
        have T0 := hid t0
        have HTH := hid hth
        clear t0 hth
        go_enter Tryz.func5, Tryz.ntmps5
        go_wp2_with fail
        refine Calls.mono (HJ.out _) ?_
        rintro e u1 ⟨rfl, hb⟩
        have A2 := hid (A1.out.up hb)
        have B2 := hid hb
        replace HB := hid (HB.out.trans (hb.mono HB.out.size))
        clear hb hU hgx
        obtain ⟨c0, c1⟩ := A2.out.cells
        have CK := hid (HM.out.check _ n PV b _ np KV UV P u1 A2.out.2.1 A2.out.2.2)
        rw [HR.out.e] at CK
        unfold meshV at CK
        go_wp2_with fail
        refine Calls.mono CK.out ?_
        rintro e u2 ⟨rfl, hb⟩
        have A3 := hid (A2.out.up hb)
        replace B2 := hid (B2.out.trans (hb.mono B2.out.size))
        replace HB := hid (HB.out.trans (hb.mono HB.out.size))
        clear hb CK c0 c1 A2
        obtain ⟨c0, c1⟩ := A3.out.cells
        go_wp2_with fail
        refine Calls.mono (at_any k (np : Int) ⟨by omega, by omega⟩ u2) ?_
        rintro e u3 ⟨rfl, hw3⟩
        subst hw3
        rw [HKK.out]
        have t0 : u3.cell? ⟨bl, off + kk * 3, none⟩ = some (.bool false) := by rw [B2.out.cell HBl.out]; exact T0.out
        have hb1 := below_alloc u3 (.cells #[.int .i64 2, .int .i64 3] 3)
        have k1 := heap_alloc_new u3 (.cells #[.int .i64 2, .int .i64 3] 3)
        obtain ⟨V1, hV1⟩ : ∃ v, World.alloc u3 (.cells #[.int .i64 2, .int .i64 3] 3) = v := ⟨_, rfl⟩
        obtain ⟨gt, hgt⟩ : ∃ g, u3.heap.size = g := ⟨_, rfl⟩
        rw [hV1] at k1 hb1
        rw [hgt] at k1
        have t9 : V1.cell? ⟨bl, off + kk * 3, none⟩ = some (.bool false) := by rw [hb1.cell (cell_lt t0)]; exact t0
        replace A3 := hid (A3.out.up hb1)
        replace B2 := hid (B2.out.trans (hb1.mono B2.out.size))
        replace HB := hid (HB.out.trans (hb1.mono HB.out.size))
        clear hb1 c0 c1
        obtain ⟨c0, c1⟩ := A3.out.cells
        have hb1 := below_alloc V1 (.cells #[.int .i64 3, .int .i64 2] 3)
        have k2 := heap_alloc_new V1 (.cells #[.int .i64 3, .int .i64 2] 3)
        obtain ⟨V2, hV2⟩ : ∃ v, World.alloc V1 (.cells #[.int .i64 3, .int .i64 2] 3) = v := ⟨_, rfl⟩
        obtain ⟨gt2, hgt2⟩ : ∃ g, V1.heap.size = g := ⟨_, rfl⟩
        rw [hV2] at k2 hb1
        rw [hgt2] at k2
        replace A3 := hid (A3.out.up hb1)
        replace B2 := hid (B2.out.trans (hb1.mono B2.out.size))
        replace HB := hid (HB.out.trans (hb1.mono HB.out.size))
        clear hb1
        obtain ⟨c3, c4⟩ := A3.out.cells
        have GT : Hid (V2.heap[gt2]? = some (.cells #[.int .i64 3, .int .i64 2] 3 (0, 0))) := hid k2
        clear k1 k2
        have hv9 := A3.out.2.1
        have hl9 := A3.out.2.2
        have hb1 := below_alloc V2 (.cells #[.slice none 0 0, .slice none 0 0] 27)
        have k0 := heap_alloc_new V2 (.cells #[.slice none 0 0, .slice none 0 0] 27)
        replace hv9 := hv9.up hb1
        replace hl9 := hl9.up hb1
        obtain ⟨V3, hV3⟩ : ∃ v, World.alloc V2 (.cells #[.slice none 0 0, .slice none 0 0] 27) = v := ⟨_, rfl⟩
        rw [hV3] at k0 hv9 hl9 hb1
        have hb2 : Below V2.heap.size V2 (put2 V3 V2.heap.size (.slice ab n cb) (.slice (some ⟨bl, off, none⟩) np cl)) := put2_below hb1 (Nat.le_refl _)
        obtain ⟨g8, hg8⟩ : ∃ g, V2.heap.size = g := ⟨_, rfl⟩
        rw [hg8] at k0
        rw [show put2 V3 V2.heap.size (.slice ab n cb) (.slice (some ⟨bl, off, none⟩) np cl) = put2 V3 g8 (.slice ab n cb) (.slice (some ⟨bl, off, none⟩) np cl) by rw [hg8]] at hb2
        have bx : MsAt (put2 V3 g8 (.slice ab n cb) (.slice (some ⟨bl, off, none⟩) np cl)) g8 _ _ _ _ _ _ _ _ _ _ _ := ⟨put2_whole k0 _ _, ve_put2 k0 hv9 _, ps_put2 k0 hl9 _ _⟩
        obtain ⟨q0, q1⟩ := two_at k0
        have f0 := frozen_at (i := 0) k0
        have f1 := frozen_at (i := 1) k0
        obtain ⟨Y3, hY3⟩ : ∃ y, put2 V3 g8 (.slice ab n cb) (.slice (some ⟨bl, off, none⟩) np cl) = y := ⟨_, rfl⟩
        rw [hY3] at hb2 bx
        unfold put2 at hY3
        clear k0 hb1 hv9 hl9
        have X8 : Hid (BkSt V2 Y3 g8 ab n cb PV b (some ⟨bl, off, none⟩) np cl KV UV P) := ⟨hb2, by omega, bx⟩
        have s0 := cell_at (i := 0) GT.out rfl
        have s1 := cell_at (i := 1) GT.out rfl
        clear hb2 bx
        go_wp2_with fail
        refine wp_loop_rounds 3 ?_
        clear c0 c1 c3 c4
        have HR0 := hid HR.out
        rw [rounds_succ]
        obtain ⟨d0, d1⟩ := X8.out.at_.cells
        have y0 : Y3.cell? ⟨gt2, 0, none⟩ = some (.int .i64 3) := by rw [X8.out.below.cell (cell_lt s0)]; exact s0
        have DO := hid (did HWo.out ((turn_do HR0.out hkl).2 HTH.out) X8.out.at_.2.1 X8.out.at_.2.2)
        go_wp2_with fail
        refine Calls.mono DO.out ?_
        rintro e u51 ⟨hb, ar1, cr1, Pr1, lr1, er1, Kr1, Ur1, rfl, hv9, hl9⟩
        clear d0 d1 y0 hV3 hY3 hg8 q0 q1 f0 f1 t0 t9 hV1 hgt hV2 hgt2
        replace X8 := hid (X8.out.up hb)
        clear hb DO
        have hb1 := below_alloc u51 (.cells #[.slice none 0 0, .slice none 0 0] 27)
        have k0 := heap_alloc_new u51 (.cells #[.slice none 0 0, .slice none 0 0] 27)
        replace hv9 := hv9.up hb1
        replace hl9 := hl9.up hb1
        obtain ⟨V51, hV51⟩ : ∃ v, World.alloc u51 (.cells #[.slice none 0 0, .slice none 0 0] 27) = v := ⟨_, rfl⟩
        rw [hV51] at k0 hv9 hl9 hb1
        have hb2 : Below u51.heap.size u51 (put2 V51 u51.heap.size (.slice ar1 n cr1) (.slice lr1 np er1)) := put2_below hb1 (Nat.le_refl _)
        obtain ⟨g111, hg111⟩ : ∃ g, u51.heap.size = g := ⟨_, rfl⟩
        rw [hg111] at k0
        rw [show put2 V51 u51.heap.size (.slice ar1 n cr1) (.slice lr1 np er1) = put2 V51 g111 (.slice ar1 n cr1) (.slice lr1 np er1) by rw [hg111]] at hb2
        have bx : MsAt (put2 V51 g111 (.slice ar1 n cr1) (.slice lr1 np er1)) g111 _ _ _ _ _ _ _ _ _ _ _ := ⟨put2_whole k0 _ _, ve_put2 k0 hv9 _, ps_put2 k0 hl9 _ _⟩
        obtain ⟨q0, q1⟩ := two_at k0
        have f0 := frozen_at (i := 0) k0
        have f1 := frozen_at (i := 1) k0
        obtain ⟨Y51, hY51⟩ : ∃ y, put2 V51 g111 (.slice ar1 n cr1) (.slice lr1 np er1) = y := ⟨_, rfl⟩
        rw [hY51] at hb2 bx
        unfold put2 at hY51
        clear k0 hb1 hv9 hl9
        replace X8 := hid (X8.out.up hb2)
        have X11 := hid bx
        clear hb2 bx
        obtain ⟨d0, d1⟩ := X8.out.at_.cells
        obtain ⟨e0, e1⟩ := X11.out.cells
        have CS := hid (HM.out.same _ _ _ _ _ _ _ _ _ _ _ _ _ _ _ _ _ _ _ X8.out.at_.2.1 X8.out.at_.2.2 X11.out.2.1 X11.out.2.2)
        rw [meshB_not hkl (th_not (by show P.th kk ≠ (if kk = kk then true else P.th kk); rw [if_pos rfl, HTH.out]; decide))] at CS
        unfold meshV at CS
        go_wp2_with fail
        refine Calls.mono CS.out ?_
        rintro e u61 ⟨rfl, hb⟩
        replace X8 := hid (X8.out.up hb)
        replace X11 := hid (X11.out.up hb)
        clear hb CS d0 d1 e0 e1 q0 q1 f0 f1 hV51 hY51 hg111
        obtain ⟨e0, e1⟩ := X11.out.cells
        obtain ⟨d0, d1⟩ := X8.out.at_.cells
        have f0 := frozen_at (i := 0) X8.out.at_.1
        have f1 := frozen_at (i := 1) X8.out.at_.1
        have X9 := hid (bk_store X8.out.below X8.out.ge X8.out.at_.1 X11.out.2.1 X11.out.2.2)
        obtain ⟨Y61, hY61⟩ : ∃ y, put2 u61 g8 (.slice ar1 n cr1) (.slice lr1 np er1) = y := ⟨_, rfl⟩
        rw [hY61] at X9
        unfold put2 at hY61
        clear X8 X11
        have X8 := X9
        clear X9
        go_wp2_with fail
        clear e0 e1 d0 d1 f0 f1
        rw [rounds_succ]
        obtain ⟨d0, d1⟩ := X8.out.at_.cells
        have y0 : Y61.cell? ⟨gt2, 1, none⟩ = some (.int .i64 2) := by rw [X8.out.below.cell (cell_lt s1)]; exact s1
        have DO := hid (did HWo.out ((turn_do (HR0.out.putB kk true) hkl).1 (by show (if kk = kk then true else P.th kk) = true; rw [if_pos rfl])) X8.out.at_.2.1 X8.out.at_.2.2)
        go_wp2_with fail
        refine Calls.mono DO.out ?_
        rintro e u52 ⟨hb, ar2, cr2, Pr2, lr2, er2, Kr2, Ur2, rfl, hv9, hl9⟩
        clear d0 d1 y0 hY61
        replace X8 := hid (X8.out.up hb)
        clear hb DO
        have hb1 := below_alloc u52 (.cells #[.slice none 0 0, .slice none 0 0] 27)
        have k0 := heap_alloc_new u52 (.cells #[.slice none 0 0, .slice none 0 0] 27)
        replace hv9 := hv9.up hb1
        replace hl9 := hl9.up hb1
        obtain ⟨V52, hV52⟩ : ∃ v, World.alloc u52 (.cells #[.slice none 0 0, .slice none 0 0] 27) = v := ⟨_, rfl⟩
        rw [hV52] at k0 hv9 hl9 hb1
        have hb2 : Below u52.heap.size u52 (put2 V52 u52.heap.size (.slice ar2 n cr2) (.slice lr2 np er2)) := put2_below hb1 (Nat.le_refl _)
        obtain ⟨g112, hg112⟩ : ∃ g, u52.heap.size = g := ⟨_, rfl⟩
        rw [hg112] at k0
        rw [show put2 V52 u52.heap.size (.slice ar2 n cr2) (.slice lr2 np er2) = put2 V52 g112 (.slice ar2 n cr2) (.slice lr2 np er2) by rw [hg112]] at hb2
        have bx : MsAt (put2 V52 g112 (.slice ar2 n cr2) (.slice lr2 np er2)) g112 _ _ _ _ _ _ _ _ _ _ _ := ⟨put2_whole k0 _ _, ve_put2 k0 hv9 _, ps_put2 k0 hl9 _ _⟩
        obtain ⟨q0, q1⟩ := two_at k0
        have f0 := frozen_at (i := 0) k0
        have f1 := frozen_at (i := 1) k0
        obtain ⟨Y52, hY52⟩ : ∃ y, put2 V52 g112 (.slice ar2 n cr2) (.slice lr2 np er2) = y := ⟨_, rfl⟩
        rw [hY52] at hb2 bx
        unfold put2 at hY52
        clear k0 hb1 hv9 hl9
        replace X8 := hid (X8.out.up hb2)
        have X11 := hid bx
        clear hb2 bx
        obtain ⟨d0, d1⟩ := X8.out.at_.cells
        obtain ⟨e0, e1⟩ := X11.out.cells
        have CS := hid (HM.out.same _ _ _ _ _ _ _ _ _ _ _ _ _ _ _ _ _ _ _ X8.out.at_.2.1 X8.out.at_.2.2 X11.out.2.1 X11.out.2.2)
        rw [meshB_not hkl (th_not (by show (if kk = kk then true else P.th kk) ≠ (if kk = kk then false else (if kk = kk then true else P.th kk)); rw [if_pos rfl, if_pos rfl]; decide))] at CS
        unfold meshV at CS
        go_wp2_with fail
        refine Calls.mono CS.out ?_
        rintro e u62 ⟨rfl, hb⟩
        replace X8 := hid (X8.out.up hb)
        replace X11 := hid (X11.out.up hb)
        clear hb CS d0 d1 e0 e1 q0 q1 f0 f1 hV52 hY52 hg112
        obtain ⟨e0, e1⟩ := X11.out.cells
        obtain ⟨d0, d1⟩ := X8.out.at_.cells
        have f0 := frozen_at (i := 0) X8.out.at_.1
        have f1 := frozen_at (i := 1) X8.out.at_.1
        have X9 := hid (bk_store X8.out.below X8.out.ge X8.out.at_.1 X11.out.2.1 X11.out.2.2)
        obtain ⟨Y62, hY62⟩ : ∃ y, put2 u62 g8 (.slice ar2 n cr2) (.slice lr2 np er2) = y := ⟨_, rfl⟩
        rw [hY62] at X9
        unfold put2 at hY62
        clear X8 X11
        have X8 := X9
        clear X9
        go_wp2_with fail
        clear e0 e1 d0 d1 f0 f1
        rw [rounds_succ]
        rw [show (putB (putB P kk true) kk false) = P from turn_back P kk false HTH.out] at X8
        obtain ⟨d0, d1⟩ := X8.out.at_.cells
        have A4 := hid (A3.out.up X8.out.below)
        obtain ⟨c0, c1⟩ := A4.out.cells
        have CS := hid (HM.out.same _ _ _ _ _ _ _ _ _ _ _ _ _ _ _ _ _ _ _ X8.out.at_.2.1 X8.out.at_.2.2 A4.out.2.1 A4.out.2.2)
        rw [meshB_self] at CS
        unfold meshV at CS
        go_wp2_with fail
        refine Calls.mono CS.out ?_
        rintro e u7 ⟨rfl, hb⟩
        replace X8 := hid (X8.out.up hb)
        clear hb CS d0 d1 c0 c1 A4 hY62 s0 s1
        have A4 := hid (A3.out.up X8.out.below)
        obtain ⟨c0, c1⟩ := A4.out.cells
        have BU := hid (B2.out.trans (X8.out.below.mono B2.out.size))
        have t2 : u7.cell? ⟨bl, off + kk * 3 + 2, none⟩ = some (.slice ak (P.m kk) ck) := by rw [BU.out.cell HBl.out]; exact T2.out
        by_cases hm0 : P.m kk = 0
        · rw [hm0] at t2
          go_wp2
          go_ret
          exact ⟨rfl, HB.out.trans (X8.out.below.mono HB.out.size)⟩
        · have hm1 : (P.m kk : Int) ≠ 0 := by omega
          have hm2 : ((P.m kk : Int) == 0) = false := by simpa using hm1
          have hm8 := HR.out.small _ hkl
          have hk1 := Int.emod_nonneg i (show (P.m kk : Int) ≠ 0 by omega)
          have hk2 := Int.emod_lt_of_pos i (show 0 < (P.m kk : Int) by omega)
          obtain ⟨ii, hii⟩ : ∃ j : Nat, i % (P.m kk : Int) = (j : Int) := ⟨(i % (P.m kk : Int)).toNat, by omega⟩
          rw [hii] at hk1 hk2
          have hil : ii < P.m kk := by omega
          have HII := hid hii
          clear hii hk1 hk2
          have HF := hid (HR.out.first hkl hil)
          rw [show BkSt V2 u7 g8 ar2 n cr2 Pr2 b lr2 np er2 Kr2 Ur2 P = BkSt V2 u7 g8 ar2 n cr2 Pr2 b lr2 np er2 Kr2 Ur2 (benN P kk ii 0) by rw [benN_zero HF.out.2]] at X8
          go_wp2_with fail
          clear c0 c1 t2
          go_loopw [79] (fun iv wr => ∃ (j : Nat) (a8 : Option Addr) (c8 : Nat) (P8 : Nat → Value) (l8 : Option Addr) (d8 : Nat) (K8 : Nat → Value) (U8 : Nat → Nat → Value), j ≤ 31 ∧ iv = .int .i64 j ∧ Hid (BkSt V2 wr g8 a8 n c8 P8 b l8 np d8 K8 U8 (benN P kk ii j))) (fun iv _ => 31 - (intOf iv).toNat)
          case atStart => exact ⟨0, _, _, _, _, _, _, _, Nat.zero_le _, rfl, X8⟩
          case round =>
            clear X8 A4 BU
            obtain ⟨j, a8, c8, P8, l8, d8, K8, U8, hj, rfl, X8⟩ := hrel
            by_cases hlt : j < 31
            · have hji : (j : Int) < 31 := by omega
              have A4 := hid (A3.out.up X8.out.below)
              obtain ⟨c0, c1⟩ := A4.out.cells
              obtain ⟨d0, d1⟩ := X8.out.at_.cells
              have BU := hid (B2.out.trans (X8.out.below.mono B2.out.size))
              have t2 : wr.cell? ⟨bl, off + kk * 3 + 2, none⟩ = some (.slice ak (P.m kk) ck) := by rw [BU.out.cell HBl.out]; exact T2.out
              have CR : Hid (∀ u, Below wr.heap.size wr u → Calls Tryz.prog 8 #[.agg #[.slice a8 n c8, .slice l8 np d8], .agg #[.int .i64 5, .int .i64 kk, .int .i64 ii, .slice none 0 0, .slice none 0 0, .int .i64 0, .int .i64 0]] u fun e u' => Below u.heap.size u u' ∧ DidOpen u' n b np (benN P kk ii (j + 1)) e) := fun u hb => by
                have hdo := bend_do (benN_right HR.out hkl ii j) hkl (show ii < (benN P kk ii j).m kk by rw [benN_m]; exact hil)
                rw [benN_succ] at hdo
                exact did HWo.out hdo (X8.out.at_.2.1.up hb) (X8.out.at_.2.2.up hb)
              go_wp2_with fail
              have HD := hid (drew_below wr)
              obtain ⟨D0, hD0⟩ : ∃ u, wr.drew = u := ⟨_, rfl⟩
              rw [hD0] at HD
              have hne : Nonempty (Of (Below wr.heap.size wr)) := ⟨⟨wr, Below.refl _ _⟩⟩
              have F0 : ∀ u : Of (Below wr.heap.size wr), u.val.cell? ⟨g8, 0, none⟩ = some (.slice a8 n c8) := fun u => by rw [u.is.cell (cell_lt d0)]; exact d0
              have F1 : ∀ u : Of (Below wr.heap.size wr), u.val.cell? ⟨g8, 1, none⟩ = some (.slice l8 np d8) := fun u => by rw [u.is.cell (cell_lt d1)]; exact d1
              have F2 : ∀ u : Of (Below wr.heap.size wr), u.val.cell? ⟨gx, 0, none⟩ = some (.slice ab n cb) := fun u => by rw [u.is.cell (cell_lt c0)]; exact c0
              have F3 : ∀ u : Of (Below wr.heap.size wr), u.val.cell? ⟨gx, 1, none⟩ = some (.slice (some ⟨bl, off, none⟩) np cl) := fun u => by rw [u.is.cell (cell_lt c1)]; exact c1
              have F4 : ∀ u : Of (Below wr.heap.size wr), u.val.cell? ⟨bl, off + kk * 3 + 2, none⟩ = some (.slice ak (P.m kk) ck) := fun u => by rw [u.is.cell (cell_lt t2)]; exact t2
              refine region_tree (Below wr.heap.size wr) (by kernel_rfl) ?_
              rw [hD0]
              clear hD0
              refine anyM_reads (f := 9) [0, 1, 2, 3, 4, 5, 6, 7, 8, 9] (by kernel_rfl) HD.out (by rfl) (by kernel_rfl) (by kernel_rfl) (by simp only [pickO, List.getElem?_cons_zero, List.getElem?_cons_succ]; exact rfl) ?_
              repeat (go_big_quiet_step (fail))
              refine wpQuiet_nil ?_
              clear c0 c1 d0 d1 t2 A4 BU
              refine anyM_pick (f := 8) [10, 16] (by kernel_rfl) (by decide) ?_
              intro i9 hi9
              simp only [List.mem_cons, List.not_mem_nil, or_false] at hi9
              rcases hi9 with rfl | rfl
              · refine ⟨_, rfl, ?_⟩
                intro K hK
                go_wp2_with fail
                refine Calls.mono (at_any i (P.m kk : Int) ⟨by omega, by omega⟩ _) ?_
                rintro e u9 ⟨rfl, hw9⟩
                subst u9
                rw [HII.out]
                go_wp2
                refine ⟨rfl, hK _ _ HD.out ?_⟩
                clear hK K
                refine anyM_reads (f := 7) [11] (by kernel_rfl) HD.out (by rfl) (by kernel_rfl) (by kernel_rfl) (by simp only [pickO, List.getElem?_cons_zero, List.getElem?_cons_succ]; exact rfl) ?_
                repeat (go_big_quiet_step (fail))
                refine wpQuiet_nil ?_
                refine anyM_pick (f := 6) [12, 16] (by kernel_rfl) (by decide) ?_
                intro i9 hi9
                simp only [List.mem_cons, List.not_mem_nil, or_false] at hi9
                rcases hi9 with rfl | rfl
                · refine ⟨_, rfl, ?_⟩
                  intro K hK
                  have CU := hid (CR.out D0 HD.out)
                  go_wp2_with fail
                  refine Calls.mono CU.out ?_
                  rintro e z2 ⟨hb, a2, c2, P2, l2, d2, K2, U2, rfl, hv9, hl9⟩
                  replace HD := hid (HD.out.trans (hb.mono HD.out.size))
                  clear hb CU
                  go_wp2
                  refine ⟨rfl, hK _ _ HD.out ?_⟩
                  clear hK K
                  refine anyM_reads (f := 3) [13, 14, 15] (by kernel_rfl) HD.out (by rfl) (by kernel_rfl) (by kernel_rfl) (by simp only [pickO, List.getElem?_cons_zero, List.getElem?_cons_succ]; exact rfl) ?_
                  repeat (go_big_quiet_step (fail))
                  refine wpQuiet_nil ?_
                  refine anyM_pick (f := 2) [16] (by kernel_rfl) (by decide) ?_
                  intro i9 hi9
                  simp only [List.mem_cons, List.not_mem_nil, or_false] at hi9
                  subst hi9
                  refine ⟨_, rfl, ?_⟩
                  intro K hK
                  go_wp2
                  have hb1 := below_alloc z2 (.cells #[.slice none 0 0, .slice none 0 0] 27)
                  have k0 := heap_alloc_new z2 (.cells #[.slice none 0 0, .slice none 0 0] 27)
                  have lt9 : wr.heap.size ≤ z2.heap.size := HD.out.size
                  replace HD := hid (HD.out.trans (hb1.mono HD.out.size))
                  obtain ⟨Z3, hVz⟩ : ∃ v, World.alloc z2 (.cells #[.slice none 0 0, .slice none 0 0] 27) = v := ⟨_, rfl⟩
                  obtain ⟨gz, hgz⟩ : ∃ g, z2.heap.size = g := ⟨_, rfl⟩
                  replace hv9 := hv9.up hb1
                  replace hl9 := hl9.up hb1
                  rw [hVz] at k0 HD hv9 hl9
                  rw [hgz] at k0 lt9
                  refine ⟨rfl, hK _ _ (by rw [hVz]; exact HD.out) ?_⟩
                  rw [hVz, hgz]
                  clear hK K hb1 hgz hVz
                  refine anyM_pick (f := 1) [17] (by kernel_rfl) (by decide) ?_
                  intro i9 hi9
                  simp only [List.mem_cons, List.not_mem_nil, or_false] at hi9
                  subst hi9
                  refine ⟨_, rfl, ?_⟩
                  intro K hK
                  obtain ⟨q0, q1⟩ := two_at k0
                  have f0 := frozen_at (i := 0) k0
                  have f1 := frozen_at (i := 1) k0
                  have PM := hid (bk_store HD.out lt9 k0 hv9 hl9)
                  have HU := hid (put2_below HD.out lt9 (u0 := .slice a2 n c2) (u1 := .slice l2 np d2))
                  obtain ⟨w2, hw2⟩ : ∃ y, put2 Z3 gz (.slice a2 n c2) (.slice l2 np d2) = y := ⟨_, rfl⟩
                  rw [hw2] at PM HU
                  unfold put2 at hw2
                  clear k0 hv9 hl9
                  go_wp2
                  refine ⟨rfl, hK _ _ HU.out ?_⟩
                  clear hK K q0 q1 f0 f1 HD hw2 F0 F1 F2 F3 F4
                  have HD := HU
                  refine anyM_reads (f := 0) [18] (by kernel_rfl) HD.out (by rfl) (by kernel_rfl) (by kernel_rfl) (by simp only [pickO, List.getElem?_cons_zero, List.getElem?_cons_succ]; exact rfl) ?_
                  repeat (go_big_quiet_step (fail))
                  refine wpQuiet_nil ?_
                  refine anyM_end (by kernel_rfl) ?_
                  replace X8 := hid (X8.out.up HU.out)
                  have X11 := hid PM.out.at_
                  clear PM HU HD hne lt9 CR
                  obtain ⟨d0, d1⟩ := X8.out.at_.cells
                  obtain ⟨e0, e1⟩ := X11.out.cells
                  have CS := hid (HM.out.same _ _ _ _ _ _ _ _ _ _ _ _ _ _ _ _ _ _ _ X8.out.at_.2.1 X8.out.at_.2.2 X11.out.2.1 X11.out.2.2)
                  rw [meshB_not hkl (benN_ne hil HF.out.1)] at CS
                  unfold meshV at CS
                  go_wp2_with fail
                  refine Calls.mono CS.out ?_
                  rintro e u8 ⟨rfl, hb⟩
                  replace X8 := hid (X8.out.up hb)
                  replace X11 := hid (X11.out.up hb)
                  clear hb CS d0 d1 e0 e1
                  obtain ⟨e0, e1⟩ := X11.out.cells
                  obtain ⟨d0, d1⟩ := X8.out.at_.cells
                  have f0 := frozen_at (i := 0) X8.out.at_.1
                  have f1 := frozen_at (i := 1) X8.out.at_.1
                  have X9 := hid (bk_store X8.out.below X8.out.ge X8.out.at_.1 X11.out.2.1 X11.out.2.2)
                  unfold put2 at X9
                  clear X8 X11
                  go_wp2
                  go_roundw
                  case rel => exact ⟨j + 1, _, _, _, _, _, _, _, by omega, by go_num, X9⟩
                  case measure => simp only [intOf]; omega
                · refine ⟨_, rfl, ?_⟩
                  intro K hK
                  go_wp2
                  have hb1 := below_alloc D0 (.cells #[.slice none 0 0, .slice none 0 0] 27)
                  have k0 := heap_alloc_new D0 (.cells #[.slice none 0 0, .slice none 0 0] 27)
                  have lt9 : wr.heap.size ≤ D0.heap.size := HD.out.size
                  replace HD := hid (HD.out.trans (hb1.mono HD.out.size))
                  obtain ⟨Z1, hVz⟩ : ∃ v, World.alloc D0 (.cells #[.slice none 0 0, .slice none 0 0] 27) = v := ⟨_, rfl⟩
                  obtain ⟨gz, hgz⟩ : ∃ g, D0.heap.size = g := ⟨_, rfl⟩
                  rw [hVz] at k0 HD
                  rw [hgz] at k0 lt9
                  refine ⟨rfl, hK _ _ (by rw [hVz]; exact HD.out) ?_⟩
                  rw [hVz, hgz]
                  clear hK K hb1 hgz hVz
                  have KB := hid k0
                  clear k0
                  refine anyM_pick (f := 5) [12] (by kernel_rfl) (by decide) ?_
                  intro i9 hi9
                  simp only [List.mem_cons, List.not_mem_nil, or_false] at hi9
                  subst hi9
                  refine ⟨_, rfl, ?_⟩
                  intro K hK
                  have CU := hid (CR.out Z1 HD.out)
                  go_wp2_with fail
                  refine Calls.mono CU.out ?_
                  rintro e Z3 ⟨hb, a2, c2, P2, l2, d2, K2, U2, rfl, hv9, hl9⟩
                  replace HD := hid (HD.out.trans (hb.mono HD.out.size))
                  have k0 := stayB KB.out hb
                  clear hb CU KB
                  go_wp2
                  refine ⟨rfl, hK _ _ HD.out ?_⟩
                  clear hK K
                  refine anyM_reads (f := 2) [13, 14, 15] (by kernel_rfl) HD.out (by rfl) (by kernel_rfl) (by kernel_rfl) (by simp only [pickO, List.getElem?_cons_zero, List.getElem?_cons_succ]; exact rfl) ?_
                  repeat (go_big_quiet_step (fail))
                  refine wpQuiet_nil ?_
                  refine anyM_pick (f := 1) [17] (by kernel_rfl) (by decide) ?_
                  intro i9 hi9
                  simp only [List.mem_cons, List.not_mem_nil, or_false] at hi9
                  subst hi9
                  refine ⟨_, rfl, ?_⟩
                  intro K hK
                  obtain ⟨q0, q1⟩ := two_at k0
                  have f0 := frozen_at (i := 0) k0
                  have f1 := frozen_at (i := 1) k0
                  have PM := hid (bk_store HD.out lt9 k0 hv9 hl9)
                  have HU := hid (put2_below HD.out lt9 (u0 := .slice a2 n c2) (u1 := .slice l2 np d2))
                  obtain ⟨w2, hw2⟩ : ∃ y, put2 Z3 gz (.slice a2 n c2) (.slice l2 np d2) = y := ⟨_, rfl⟩
                  rw [hw2] at PM HU
                  unfold put2 at hw2
                  clear k0 hv9 hl9
                  go_wp2
                  refine ⟨rfl, hK _ _ HU.out ?_⟩
                  clear hK K q0 q1 f0 f1 HD hw2 F0 F1 F2 F3 F4
                  have HD := HU
                  refine anyM_reads (f := 0) [18] (by kernel_rfl) HD.out (by rfl) (by kernel_rfl) (by kernel_rfl) (by simp only [pickO, List.getElem?_cons_zero, List.getElem?_cons_succ]; exact rfl) ?_
                  repeat (go_big_quiet_step (fail))
                  refine wpQuiet_nil ?_
                  refine anyM_end (by kernel_rfl) ?_
                  replace X8 := hid (X8.out.up HU.out)
                  have X11 := hid PM.out.at_
                  clear PM HU HD hne lt9 CR
                  obtain ⟨d0, d1⟩ := X8.out.at_.cells
                  obtain ⟨e0, e1⟩ := X11.out.cells
                  have CS := hid (HM.out.same _ _ _ _ _ _ _ _ _ _ _ _ _ _ _ _ _ _ _ X8.out.at_.2.1 X8.out.at_.2.2 X11.out.2.1 X11.out.2.2)
                  rw [meshB_not hkl (benN_ne hil HF.out.1)] at CS
                  unfold meshV at CS
                  go_wp2_with fail
                  refine Calls.mono CS.out ?_
                  rintro e u8 ⟨rfl, hb⟩
                  replace X8 := hid (X8.out.up hb)
                  replace X11 := hid (X11.out.up hb)
                  clear hb CS d0 d1 e0 e1
                  obtain ⟨e0, e1⟩ := X11.out.cells
                  obtain ⟨d0, d1⟩ := X8.out.at_.cells
                  have f0 := frozen_at (i := 0) X8.out.at_.1
                  have f1 := frozen_at (i := 1) X8.out.at_.1
                  have X9 := hid (bk_store X8.out.below X8.out.ge X8.out.at_.1 X11.out.2.1 X11.out.2.2)
                  unfold put2 at X9
                  clear X8 X11
                  go_wp2
                  go_roundw
                  case rel => exact ⟨j + 1, _, _, _, _, _, _, _, by omega, by go_num, X9⟩
                  case measure => simp only [intOf]; omega
              · refine ⟨_, rfl, ?_⟩
                intro K hK
                go_wp2
                have hb1 := below_alloc D0 (.cells #[.slice none 0 0, .slice none 0 0] 27)
                have k0 := heap_alloc_new D0 (.cells #[.slice none 0 0, .slice none 0 0] 27)
                have lt9 : wr.heap.size ≤ D0.heap.size := HD.out.size
                replace HD := hid (HD.out.trans (hb1.mono HD.out.size))
                obtain ⟨Z1, hVz⟩ : ∃ v, World.alloc D0 (.cells #[.slice none 0 0, .slice none 0 0] 27) = v := ⟨_, rfl⟩
                obtain ⟨gz, hgz⟩ : ∃ g, D0.heap.size = g := ⟨_, rfl⟩
                rw [hVz] at k0 HD
                rw [hgz] at k0 lt9
                refine ⟨rfl, hK _ _ (by rw [hVz]; exact HD.out) ?_⟩
                rw [hVz, hgz]
                clear hK K hb1 hgz hVz
                have KB := hid k0
                clear k0
                refine anyM_pick (f := 7) [10] (by kernel_rfl) (by decide) ?_
                intro i9 hi9
                simp only [List.mem_cons, List.not_mem_nil, or_false] at hi9
                subst hi9
                refine ⟨_, rfl, ?_⟩
                intro K hK
                go_wp2_with fail
                refine Calls.mono (at_any i (P.m kk : Int) ⟨by omega, by omega⟩ _) ?_
                rintro e u9 ⟨rfl, hw9⟩
                subst u9
                rw [HII.out]
                go_wp2
                refine ⟨rfl, hK _ _ HD.out ?_⟩
                clear hK K
                refine anyM_reads (f := 6) [11] (by kernel_rfl) HD.out (by rfl) (by kernel_rfl) (by kernel_rfl) (by simp only [pickO, List.getElem?_cons_zero, List.getElem?_cons_succ]; exact rfl) ?_
                repeat (go_big_quiet_step (fail))
                refine wpQuiet_nil ?_
                refine anyM_pick (f := 5) [12] (by kernel_rfl) (by decide) ?_
                intro i9 hi9
                simp only [List.mem_cons, List.not_mem_nil, or_false] at hi9
                subst hi9
                refine ⟨_, rfl, ?_⟩
                intro K hK
                have CU := hid (CR.out Z1 HD.out)
                go_wp2_with fail
                refine Calls.mono CU.out ?_
                rintro e Z3 ⟨hb, a2, c2, P2, l2, d2, K2, U2, rfl, hv9, hl9⟩
                replace HD := hid (HD.out.trans (hb.mono HD.out.size))
                have k0 := stayB KB.out hb
                clear hb CU KB
                go_wp2
                refine ⟨rfl, hK _ _ HD.out ?_⟩
                clear hK K
                refine anyM_reads (f := 2) [13, 14, 15] (by kernel_rfl) HD.out (by rfl) (by kernel_rfl) (by kernel_rfl) (by simp only [pickO, List.getElem?_cons_zero, List.getElem?_cons_succ]; exact rfl) ?_
                repeat (go_big_quiet_step (fail))
                refine wpQuiet_nil ?_
                refine anyM_pick (f := 1) [17] (by kernel_rfl) (by decide) ?_
                intro i9 hi9
                simp only [List.mem_cons, List.not_mem_nil, or_false] at hi9
                subst hi9
                refine ⟨_, rfl, ?_⟩
                intro K hK
                obtain ⟨q0, q1⟩ := two_at k0
                have f0 := frozen_at (i := 0) k0
                have f1 := frozen_at (i := 1) k0
                have PM := hid (bk_store HD.out lt9 k0 hv9 hl9)
                have HU := hid (put2_below HD.out lt9 (u0 := .slice a2 n c2) (u1 := .slice l2 np d2))
                obtain ⟨w2, hw2⟩ : ∃ y, put2 Z3 gz (.slice a2 n c2) (.slice l2 np d2) = y := ⟨_, rfl⟩
                rw [hw2] at PM HU
                unfold put2 at hw2
                clear k0 hv9 hl9
                go_wp2
                refine ⟨rfl, hK _ _ HU.out ?_⟩
                clear hK K q0 q1 f0 f1 HD hw2 F0 F1 F2 F3 F4
                have HD := HU
                refine anyM_reads (f := 0) [18] (by kernel_rfl) HD.out (by rfl) (by kernel_rfl) (by kernel_rfl) (by simp only [pickO, List.getElem?_cons_zero, List.getElem?_cons_succ]; exact rfl) ?_
                repeat (go_big_quiet_step (fail))
                refine wpQuiet_nil ?_
                refine anyM_end (by kernel_rfl) ?_
                replace X8 := hid (X8.out.up HU.out)
                have X11 := hid PM.out.at_
                clear PM HU HD hne lt9 CR
                obtain ⟨d0, d1⟩ := X8.out.at_.cells
                obtain ⟨e0, e1⟩ := X11.out.cells
                have CS := hid (HM.out.same _ _ _ _ _ _ _ _ _ _ _ _ _ _ _ _ _ _ _ X8.out.at_.2.1 X8.out.at_.2.2 X11.out.2.1 X11.out.2.2)
                rw [meshB_not hkl (benN_ne hil HF.out.1)] at CS
                unfold meshV at CS
                go_wp2_with fail
                refine Calls.mono CS.out ?_
                rintro e u8 ⟨rfl, hb⟩
                replace X8 := hid (X8.out.up hb)
                replace X11 := hid (X11.out.up hb)
                clear hb CS d0 d1 e0 e1
                obtain ⟨e0, e1⟩ := X11.out.cells
                obtain ⟨d0, d1⟩ := X8.out.at_.cells
                have f0 := frozen_at (i := 0) X8.out.at_.1
                have f1 := frozen_at (i := 1) X8.out.at_.1
                have X9 := hid (bk_store X8.out.below X8.out.ge X8.out.at_.1 X11.out.2.1 X11.out.2.2)
                unfold put2 at X9
                clear X8 X11
                go_wp2
                go_roundw
                case rel => exact ⟨j + 1, _, _, _, _, _, _, _, by omega, by go_num, X9⟩
                case measure => simp only [intOf]; omega
            · have hje : j = 31 := by omega
              subst hje
              have A4 := hid (A3.out.up X8.out.below)
              obtain ⟨c0, c1⟩ := A4.out.cells
              obtain ⟨d0, d1⟩ := X8.out.at_.cells
              have CS := hid (HM.out.same _ _ _ _ _ _ _ _ _ _ _ _ _ _ _ _ _ _ _ X8.out.at_.2.1 X8.out.at_.2.2 A4.out.2.1 A4.out.2.2)
              rw [meshB_of fun q _ => benN_back HF.out.2] at CS
              unfold meshV at CS
              go_wp2_with fail
              refine Calls.mono CS.out ?_
              rintro e u9 ⟨rfl, hb⟩
              replace X8 := hid (X8.out.up hb)
              clear hb CS c0 c1 d0 d1
              go_wp2
              go_ret
              exact ⟨rfl, HB.out.trans (X8.out.below.mono HB.out.size)⟩
      · rw [hth] at t0
        have T0 := hid t0
        have HTH := hid hth
        clear t0 hth
        go_enter Tryz.func5, Tryz.ntmps5
        go_wp2_with fail
        refine Calls.mono (HJ.out _) ?_
        rintro e u1 ⟨rfl, hb⟩
        have A2 := hid (A1.out.up hb)
        have B2 := hid hb
        replace HB := hid (HB.out.trans (hb.mono HB.out.size))
        clear hb hU hgx
        obtain ⟨c0, c1⟩ := A2.out.cells
        have CK := hid (HM.out.check _ n PV b _ np KV UV P u1 A2.out.2.1 A2.out.2.2)
        rw [HR.out.e] at CK
        unfold meshV at CK
        go_wp2_with fail
        refine Calls.mono CK.out ?_
        rintro e u2 ⟨rfl, hb⟩
        have A3 := hid (A2.out.up hb)
        replace B2 := hid (B2.out.trans (hb.mono B2.out.size))
        replace HB := hid (HB.out.trans (hb.mono HB.out.size))
        clear hb CK c0 c1 A2
        obtain ⟨c0, c1⟩ := A3.out.cells
        go_wp2_with fail
        refine Calls.mono (at_any k (np : Int) ⟨by omega, by omega⟩ u2) ?_
        rintro e u3 ⟨rfl, hw3⟩
        subst hw3
        rw [HKK.out]
        have t0 : u3.cell? ⟨bl, off + kk * 3, none⟩ = some (.bool true) := by rw [B2.out.cell HBl.out]; exact T0.out
        have hb1 := below_alloc u3 (.cells #[.int .i64 2, .int .i64 3] 3)
        have k1 := heap_alloc_new u3 (.cells #[.int .i64 2, .int .i64 3] 3)
        obtain ⟨V1, hV1⟩ : ∃ v, World.alloc u3 (.cells #[.int .i64 2, .int .i64 3] 3) = v := ⟨_, rfl⟩
        obtain ⟨gt, hgt⟩ : ∃ g, u3.heap.size = g := ⟨_, rfl⟩
        rw [hV1] at k1 hb1
        rw [hgt] at k1
        have t9 : V1.cell? ⟨bl, off + kk * 3, none⟩ = some (.bool true) := by rw [hb1.cell (cell_lt t0)]; exact t0
        replace A3 := hid (A3.out.up hb1)
        replace B2 := hid (B2.out.trans (hb1.mono B2.out.size))
        replace HB := hid (HB.out.trans (hb1.mono HB.out.size))
        clear hb1 c0 c1
        obtain ⟨c0, c1⟩ := A3.out.cells
        have GT : Hid (V1.heap[gt]? = some (.cells #[.int .i64 2, .int .i64 3] 3 (0, 0))) := hid k1
        have W1 := hid (Below.refl V1.heap.size V1)
        clear k1
        have hv9 := A3.out.2.1
        have hl9 := A3.out.2.2
        have hb1 := below_alloc V1 (.cells #[.slice none 0 0, .slice none 0 0] 27)
        have k0 := heap_alloc_new V1 (.cells #[.slice none 0 0, .slice none 0 0] 27)
        replace hv9 := hv9.up hb1
        replace hl9 := hl9.up hb1
        obtain ⟨V3, hV3⟩ : ∃ v, World.alloc V1 (.cells #[.slice none 0 0, .slice none 0 0] 27) = v := ⟨_, rfl⟩
        rw [hV3] at k0 hv9 hl9 hb1
        have hb2 : Below V1.heap.size V1 (put2 V3 V1.heap.size (.slice ab n cb) (.slice (some ⟨bl, off, none⟩) np cl)) := put2_below hb1 (Nat.le_refl _)
        obtain ⟨g8, hg8⟩ : ∃ g, V1.heap.size = g := ⟨_, rfl⟩
        rw [hg8] at k0
        rw [show put2 V3 V1.heap.size (.slice ab n cb) (.slice (some ⟨bl, off, none⟩) np cl) = put2 V3 g8 (.slice ab n cb) (.slice (some ⟨bl, off, none⟩) np cl) by rw [hg8]] at hb2
        have bx : MsAt (put2 V3 g8 (.slice ab n cb) (.slice (some ⟨bl, off, none⟩) np cl)) g8 _ _ _ _ _ _ _ _ _ _ _ := ⟨put2_whole k0 _ _, ve_put2 k0 hv9 _, ps_put2 k0 hl9 _ _⟩
        obtain ⟨q0, q1⟩ := two_at k0
        have f0 := frozen_at (i := 0) k0
        have f1 := frozen_at (i := 1) k0
        obtain ⟨Y3, hY3⟩ : ∃ y, put2 V3 g8 (.slice ab n cb) (.slice (some ⟨bl, off, none⟩) np cl) = y := ⟨_, rfl⟩
        rw [hY3] at hb2 bx
        unfold put2 at hY3
        clear k0 hb1 hv9 hl9
        have X8 : Hid (BkSt V1 Y3 g8 ab n cb PV b (some ⟨bl, off, none⟩) np cl KV UV P) := ⟨hb2, by omega, bx⟩
        have s0 := cell_at (i := 0) GT.out rfl
        have s1 := cell_at (i := 1) GT.out rfl
        clear hb2 bx
        go_wp2_with fail
        refine wp_loop_rounds 3 ?_
        clear c0 c1
        have HR0 := hid HR.out
        rw [rounds_succ]
        obtain ⟨d0, d1⟩ := X8.out.at_.cells
        have y0 : Y3.cell? ⟨gt, 0, none⟩ = some (.int .i64 2) := by rw [X8.out.below.cell (cell_lt s0)]; exact s0
        have DO := hid (did HWo.out ((turn_do HR0.out hkl).1 HTH.out) X8.out.at_.2.1 X8.out.at_.2.2)
        go_wp2_with fail
        refine Calls.mono DO.out ?_
        rintro e u51 ⟨hb, ar1, cr1, Pr1, lr1, er1, Kr1, Ur1, rfl, hv9, hl9⟩
        clear d0 d1 y0 hV3 hY3 hg8 q0 q1 f0 f1 t0 t9 hV1 hgt
        replace X8 := hid (X8.out.up hb)
        clear hb DO
        have hb1 := below_alloc u51 (.cells #[.slice none 0 0, .slice none 0 0] 27)
        have k0 := heap_alloc_new u51 (.cells #[.slice none 0 0, .slice none 0 0] 27)
        replace hv9 := hv9.up hb1
        replace hl9 := hl9.up hb1
        obtain ⟨V51, hV51⟩ : ∃ v, World.alloc u51 (.cells #[.slice none 0 0, .slice none 0 0] 27) = v := ⟨_, rfl⟩
        rw [hV51] at k0 hv9 hl9 hb1
        have hb2 : Below u51.heap.size u51 (put2 V51 u51.heap.size (.slice ar1 n cr1) (.slice lr1 np er1)) := put2_below hb1 (Nat.le_refl _)
        obtain ⟨g111, hg111⟩ : ∃ g, u51.heap.size = g := ⟨_, rfl⟩
        rw [hg111] at k0
        rw [show put2 V51 u51.heap.size (.slice ar1 n cr1) (.slice lr1 np er1) = put2 V51 g111 (.slice ar1 n cr1) (.slice lr1 np er1) by rw [hg111]] at hb2
        have bx : MsAt (put2 V51 g111 (.slice ar1 n cr1) (.slice lr1 np er1)) g111 _ _ _ _ _ _ _ _ _ _ _ := ⟨put2_whole k0 _ _, ve_put2 k0 hv9 _, ps_put2 k0 hl9 _ _⟩
        obtain ⟨q0, q1⟩ := two_at k0
        have f0 := frozen_at (i := 0) k0
        have f1 := frozen_at (i := 1) k0
        obtain ⟨Y51, hY51⟩ : ∃ y, put2 V51 g111 (.slice ar1 n cr1) (.slice lr1 np er1) = y := ⟨_, rfl⟩
        rw [hY51] at hb2 bx
        unfold put2 at hY51
        clear k0 hb1 hv9 hl9
        replace X8 := hid (X8.out.up hb2)
        have X11 := hid bx
        clear hb2 bx
        obtain ⟨d0, d1⟩ := X8.out.at_.cells
        obtain ⟨e0, e1⟩ := X11.out.cells
        have CS := hid (HM.out.same _ _ _ _ _ _ _ _ _ _ _ _ _ _ _ _ _ _ _ X8.out.at_.2.1 X8.out.at_.2.2 X11.out.2.1 X11.out.2.2)
        rw [meshB_not hkl (th_not (by show P.th kk ≠ (if kk = kk then false else P.th kk); rw [if_pos rfl, HTH.out]; decide))] at CS
        unfold meshV at CS
        go_wp2_with fail
        refine Calls.mono CS.out ?_
        rintro e u61 ⟨rfl, hb⟩
        replace X8 := hid (X8.out.up hb)
        replace X11 := hid (X11.out.up hb)
        clear hb CS d0 d1 e0 e1 q0 q1 f0 f1 hV51 hY51 hg111
        obtain ⟨e0, e1⟩ := X11.out.cells
        obtain ⟨d0, d1⟩ := X8.out.at_.cells
        have f0 := frozen_at (i := 0) X8.out.at_.1
        have f1 := frozen_at (i := 1) X8.out.at_.1
        have X9 := hid (bk_store X8.out.below X8.out.ge X8.out.at_.1 X11.out.2.1 X11.out.2.2)
        obtain ⟨Y61, hY61⟩ : ∃ y, put2 u61 g8 (.slice ar1 n cr1) (.slice lr1 np er1) = y := ⟨_, rfl⟩
        rw [hY61] at X9
        unfold put2 at hY61
        clear X8 X11
        have X8 := X9
        clear X9
        go_wp2_with fail
        clear e0 e1 d0 d1 f0 f1
        rw [rounds_succ]
        obtain ⟨d0, d1⟩ := X8.out.at_.cells
        have y0 : Y61.cell? ⟨gt, 1, none⟩ = some (.int .i64 3) := by rw [X8.out.below.cell (cell_lt s1)]; exact s1
        have DO := hid (did HWo.out ((turn_do (HR0.out.putB kk false) hkl).2 (by show (if kk = kk then false else P.th kk) = false; rw [if_pos rfl])) X8.out.at_.2.1 X8.out.at_.2.2)
        go_wp2_with fail
        refine Calls.mono DO.out ?_
        rintro e u52 ⟨hb, ar2, cr2, Pr2, lr2, er2, Kr2, Ur2, rfl, hv9, hl9⟩
        clear d0 d1 y0 hY61
        replace X8 := hid (X8.out.up hb)
        clear hb DO
        have hb1 := below_alloc u52 (.cells #[.slice none 0 0, .slice none 0 0] 27)
        have k0 := heap_alloc_new u52 (.cells #[.slice none 0 0, .slice none 0 0] 27)
        replace hv9 := hv9.up hb1
        replace hl9 := hl9.up hb1
        obtain ⟨V52, hV52⟩ : ∃ v, World.alloc u52 (.cells #[.slice none 0 0, .slice none 0 0] 27) = v := ⟨_, rfl⟩
        rw [hV52] at k0 hv9 hl9 hb1
        have hb2 : Below u52.heap.size u52 (put2 V52 u52.heap.size (.slice ar2 n cr2) (.slice lr2 np er2)) := put2_below hb1 (Nat.le_refl _)
        obtain ⟨g112, hg112⟩ : ∃ g, u52.heap.size = g := ⟨_, rfl⟩
        rw [hg112] at k0
        rw [show put2 V52 u52.heap.size (.slice ar2 n cr2) (.slice lr2 np er2) = put2 V52 g112 (.slice ar2 n cr2) (.slice lr2 np er2) by rw [hg112]] at hb2
        have bx : MsAt (put2 V52 g112 (.slice ar2 n cr2) (.slice lr2 np er2)) g112 _ _ _ _ _ _ _ _ _ _ _ := ⟨put2_whole k0 _ _, ve_put2 k0 hv9 _, ps_put2 k0 hl9 _ _⟩
        obtain ⟨q0, q1⟩ := two_at k0
        have f0 := frozen_at (i := 0) k0
        have f1 := frozen_at (i := 1) k0
        obtain ⟨Y52, hY52⟩ : ∃ y, put2 V52 g112 (.slice ar2 n cr2) (.slice lr2 np er2) = y := ⟨_, rfl⟩
        rw [hY52] at hb2 bx
        unfold put2 at hY52
        clear k0 hb1 hv9 hl9
        replace X8 := hid (X8.out.up hb2)
        have X11 := hid bx
        clear hb2 bx
        obtain ⟨d0, d1⟩ := X8.out.at_.cells
        obtain ⟨e0, e1⟩ := X11.out.cells
        have CS := hid (HM.out.same _ _ _ _ _ _ _ _ _ _ _ _ _ _ _ _ _ _ _ X8.out.at_.2.1 X8.out.at_.2.2 X11.out.2.1 X11.out.2.2)
        rw [meshB_not hkl (th_not (by show (if kk = kk then false else P.th kk) ≠ (if kk = kk then true else (if kk = kk then false else P.th kk)); rw [if_pos rfl, if_pos rfl]; decide))] at CS
        unfold meshV at CS
        go_wp2_with fail
        refine Calls.mono CS.out ?_
        rintro e u62 ⟨rfl, hb⟩
        replace X8 := hid (X8.out.up hb)
        replace X11 := hid (X11.out.up hb)
        clear hb CS d0 d1 e0 e1 q0 q1 f0 f1 hV52 hY52 hg112
        obtain ⟨e0, e1⟩ := X11.out.cells
        obtain ⟨d0, d1⟩ := X8.out.at_.cells
        have f0 := frozen_at (i := 0) X8.out.at_.1
        have f1 := frozen_at (i := 1) X8.out.at_.1
        have X9 := hid (bk_store X8.out.below X8.out.ge X8.out.at_.1 X11.out.2.1 X11.out.2.2)
        obtain ⟨Y62, hY62⟩ : ∃ y, put2 u62 g8 (.slice ar2 n cr2) (.slice lr2 np er2) = y := ⟨_, rfl⟩
        rw [hY62] at X9
        unfold put2 at hY62
        clear X8 X11
        have X8 := X9
        clear X9
        go_wp2_with fail
        clear e0 e1 d0 d1 f0 f1
        rw [rounds_succ]
        rw [show (putB (putB P kk false) kk true) = P from turn_back P kk true HTH.out] at X8
        obtain ⟨d0, d1⟩ := X8.out.at_.cells
        have A4 := hid (A3.out.up X8.out.below)
        obtain ⟨c0, c1⟩ := A4.out.cells
        have CS := hid (HM.out.same _ _ _ _ _ _ _ _ _ _ _ _ _ _ _ _ _ _ _ X8.out.at_.2.1 X8.out.at_.2.2 A4.out.2.1 A4.out.2.2)
        rw [meshB_self] at CS
        unfold meshV at CS
        go_wp2_with fail
        refine Calls.mono CS.out ?_
        rintro e u7 ⟨rfl, hb⟩
        replace X8 := hid (X8.out.up hb)
        clear hb CS d0 d1 c0 c1 A4 hY62 s0 s1
        have A4 := hid (A3.out.up X8.out.below)
        obtain ⟨c0, c1⟩ := A4.out.cells
        have BU := hid (B2.out.trans (X8.out.below.mono B2.out.size))
        have t2 : u7.cell? ⟨bl, off + kk * 3 + 2, none⟩ = some (.slice ak (P.m kk) ck) := by rw [BU.out.cell HBl.out]; exact T2.out
        by_cases hm0 : P.m kk = 0
        · rw [hm0] at t2
          go_wp2
          go_ret
          exact ⟨rfl, HB.out.trans (X8.out.below.mono HB.out.size)⟩
        · have hm1 : (P.m kk : Int) ≠ 0 := by omega
          have hm2 : ((P.m kk : Int) == 0) = false := by simpa using hm1
          have hm8 := HR.out.small _ hkl
          have hk1 := Int.emod_nonneg i (show (P.m kk : Int) ≠ 0 by omega)
          have hk2 := Int.emod_lt_of_pos i (show 0 < (P.m kk : Int) by omega)
          obtain ⟨ii, hii⟩ : ∃ j : Nat, i % (P.m kk : Int) = (j : Int) := ⟨(i % (P.m kk : Int)).toNat, by omega⟩
          rw [hii] at hk1 hk2
          have hil : ii < P.m kk := by omega
          have HII := hid hii
          clear hii hk1 hk2
          have HF := hid (HR.out.first hkl hil)
          rw [show BkSt V1 u7 g8 ar2 n cr2 Pr2 b lr2 np er2 Kr2 Ur2 P = BkSt V1 u7 g8 ar2 n cr2 Pr2 b lr2 np er2 Kr2 Ur2 (benN P kk ii 0) by rw [benN_zero HF.out.2]] at X8
          go_wp2_with fail
          clear c0 c1 t2
          go_loopw [79] (fun iv wr => ∃ (j : Nat) (a8 : Option Addr) (c8 : Nat) (P8 : Nat → Value) (l8 : Option Addr) (d8 : Nat) (K8 : Nat → Value) (U8 : Nat → Nat → Value), j ≤ 31 ∧ iv = .int .i64 j ∧ Hid (BkSt V1 wr g8 a8 n c8 P8 b l8 np d8 K8 U8 (benN P kk ii j))) (fun iv _ => 31 - (intOf iv).toNat)
          case atStart => exact ⟨0, _, _, _, _, _, _, _, Nat.zero_le _, rfl, X8⟩
          case round =>
            clear X8 A4 BU
            obtain ⟨j, a8, c8, P8, l8, d8, K8, U8, hj, rfl, X8⟩ := hrel
            by_cases hlt : j < 31
            · have hji : (j : Int) < 31 := by omega
              have A4 := hid (A3.out.up X8.out.below)
              obtain ⟨c0, c1⟩ := A4.out.cells
              obtain ⟨d0, d1⟩ := X8.out.at_.cells
              have BU := hid (B2.out.trans (X8.out.below.mono B2.out.size))
              have t2 : wr.cell? ⟨bl, off + kk * 3 + 2, none⟩ = some (.slice ak (P.m kk) ck) := by rw [BU.out.cell HBl.out]; exact T2.out
              have CR : Hid (∀ u, Below wr.heap.size wr u → Calls Tryz.prog 8 #[.agg #[.slice a8 n c8, .slice l8 np d8], .agg #[.int .i64 5, .int .i64 kk, .int .i64 ii, .slice none 0 0, .slice none 0 0, .int .i64 0, .int .i64 0]] u fun e u' => Below u.heap.size u u' ∧ DidOpen u' n b np (benN P kk ii (j + 1)) e) := fun u hb => by
                have hdo := bend_do (benN_right HR.out hkl ii j) hkl (show ii < (benN P kk ii j).m kk by rw [benN_m]; exact hil)
                rw [benN_succ] at hdo
                exact did HWo.out hdo (X8.out.at_.2.1.up hb) (X8.out.at_.2.2.up hb)
              go_wp2_with fail
              have HD := hid (drew_below wr)
              obtain ⟨D0, hD0⟩ : ∃ u, wr.drew = u := ⟨_, rfl⟩
              rw [hD0] at HD
              have hne : Nonempty (Of (Below wr.heap.size wr)) := ⟨⟨wr, Below.refl _ _⟩⟩
              have F0 : ∀ u : Of (Below wr.heap.size wr), u.val.cell? ⟨g8, 0, none⟩ = some (.slice a8 n c8) := fun u => by rw [u.is.cell (cell_lt d0)]; exact d0
              have F1 : ∀ u : Of (Below wr.heap.size wr), u.val.cell? ⟨g8, 1, none⟩ = some (.slice l8 np d8) := fun u => by rw [u.is.cell (cell_lt d1)]; exact d1
              have F2 : ∀ u : Of (Below wr.heap.size wr), u.val.cell? ⟨gx, 0, none⟩ = some (.slice ab n cb) := fun u => by rw [u.is.cell (cell_lt c0)]; exact c0
              have F3 : ∀ u : Of (Below wr.heap.size wr), u.val.cell? ⟨gx, 1, none⟩ = some (.slice (some ⟨bl, off, none⟩) np cl) := fun u => by rw [u.is.cell (cell_lt c1)]; exact c1
              have F4 : ∀ u : Of (Below wr.heap.size wr), u.val.cell? ⟨bl, off + kk * 3 + 2, none⟩ = some (.slice ak (P.m kk) ck) := fun u => by rw [u.is.cell (cell_lt t2)]; exact t2
              refine region_tree (Below wr.heap.size wr) (by kernel_rfl) ?_
              rw [hD0]
              clear hD0
              refine anyM_reads (f := 9) [0, 1, 2, 3, 4, 5, 6, 7, 8, 9] (by kernel_rfl) HD.out (by rfl) (by kernel_rfl) (by kernel_rfl) (by simp only [pickO, List.getElem?_cons_zero, List.getElem?_cons_succ]; exact rfl) ?_
              repeat (go_big_quiet_step (fail))
              refine wpQuiet_nil ?_
              clear c0 c1 d0 d1 t2 A4 BU
              refine anyM_pick (f := 8) [10, 16] (by kernel_rfl) (by decide) ?_
              intro i9 hi9
              simp only [List.mem_cons, List.not_mem_nil, or_false] at hi9
              rcases hi9 with rfl | rfl
              · refine ⟨_, rfl, ?_⟩
                intro K hK
                go_wp2_with fail
                refine Calls.mono (at_any i (P.m kk : Int) ⟨by omega, by omega⟩ _) ?_
                rintro e u9 ⟨rfl, hw9⟩
                subst u9
                rw [HII.out]
                go_wp2
                refine ⟨rfl, hK _ _ HD.out ?_⟩
                clear hK K
                refine anyM_reads (f := 7) [11] (by kernel_rfl) HD.out (by rfl) (by kernel_rfl) (by kernel_rfl) (by simp only [pickO, List.getElem?_cons_zero, List.getElem?_cons_succ]; exact rfl) ?_
                repeat (go_big_quiet_step (fail))
                refine wpQuiet_nil ?_
                refine anyM_pick (f := 6) [12, 16] (by kernel_rfl) (by decide) ?_
                intro i9 hi9
                simp only [List.mem_cons, List.not_mem_nil, or_false] at hi9
                rcases hi9 with rfl | rfl
                · refine ⟨_, rfl, ?_⟩
                  intro K hK
                  have CU := hid (CR.out D0 HD.out)
                  go_wp2_with fail
                  refine Calls.mono CU.out ?_
                  rintro e z2 ⟨hb, a2, c2, P2, l2, d2, K2, U2, rfl, hv9, hl9⟩
                  replace HD := hid (HD.out.trans (hb.mono HD.out.size))
                  clear hb CU
                  go_wp2
                  refine ⟨rfl, hK _ _ HD.out ?_⟩
                  clear hK K
                  refine anyM_reads (f := 3) [13, 14, 15] (by kernel_rfl) HD.out (by rfl) (by kernel_rfl) (by kernel_rfl) (by simp only [pickO, List.getElem?_cons_zero, List.getElem?_cons_succ]; exact rfl) ?_
                  repeat (go_big_quiet_step (fail))
                  refine wpQuiet_nil ?_
                  refine anyM_pick (f := 2) [16] (by kernel_rfl) (by decide) ?_
                  intro i9 hi9
                  simp only [List.mem_cons, List.not_mem_nil, or_false] at hi9
                  subst hi9
                  refine ⟨_, rfl, ?_⟩
                  intro K hK
                  go_wp2
                  have hb1 := below_alloc z2 (.cells #[.slice none 0 0, .slice none 0 0] 27)
                  have k0 := heap_alloc_new z2 (.cells #[.slice none 0 0, .slice none 0 0] 27)
                  have lt9 : wr.heap.size ≤ z2.heap.size := HD.out.size
                  replace HD := hid (HD.out.trans (hb1.mono HD.out.size))
                  obtain ⟨Z3, hVz⟩ : ∃ v, World.alloc z2 (.cells #[.slice none 0 0, .slice none 0 0] 27) = v := ⟨_, rfl⟩
                  obtain ⟨gz, hgz⟩ : ∃ g, z2.heap.size = g := ⟨_, rfl⟩
                  replace hv9 := hv9.up hb1
                  replace hl9 := hl9.up hb1
                  rw [hVz] at k0 HD hv9 hl9
                  rw [hgz] at k0 lt9
                  refine ⟨rfl, hK _ _ (by rw [hVz]; exact HD.out) ?_⟩
                  rw [hVz, hgz]
                  clear hK K hb1 hgz hVz
                  refine anyM_pick (f := 1) [17] (by kernel_rfl) (by decide) ?_
                  intro i9 hi9
                  simp only [List.mem_cons, List.not_mem_nil, or_false] at hi9
                  subst hi9
                  refine ⟨_, rfl, ?_⟩
                  intro K hK
                  obtain ⟨q0, q1⟩ := two_at k0
                  have f0 := frozen_at (i := 0) k0
                  have f1 := frozen_at (i := 1) k0
                  have PM := hid (bk_store HD.out lt9 k0 hv9 hl9)
                  have HU := hid (put2_below HD.out lt9 (u0 := .slice a2 n c2) (u1 := .slice l2 np d2))
                  obtain ⟨w2, hw2⟩ : ∃ y, put2 Z3 gz (.slice a2 n c2) (.slice l2 np d2) = y := ⟨_, rfl⟩
                  rw [hw2] at PM HU
                  unfold put2 at hw2
                  clear k0 hv9 hl9
                  go_wp2
                  refine ⟨rfl, hK _ _ HU.out ?_⟩
                  clear hK K q0 q1 f0 f1 HD hw2 F0 F1 F2 F3 F4
                  have HD := HU
                  refine anyM_reads (f := 0) [18] (by kernel_rfl) HD.out (by rfl) (by kernel_rfl) (by kernel_rfl) (by simp only [pickO, List.getElem?_cons_zero, List.getElem?_cons_succ]; exact rfl) ?_
                  repeat (go_big_quiet_step (fail))
                  refine wpQuiet_nil ?_
                  refine anyM_end (by kernel_rfl) ?_
                  replace X8 := hid (X8.out.up HU.out)
                  have X11 := hid PM.out.at_
                  clear PM HU HD hne lt9 CR
                  obtain ⟨d0, d1⟩ := X8.out.at_.cells
                  obtain ⟨e0, e1⟩ := X11.out.cells
                  have CS := hid (HM.out.same _ _ _ _ _ _ _ _ _ _ _ _ _ _ _ _ _ _ _ X8.out.at_.2.1 X8.out.at_.2.2 X11.out.2.1 X11.out.2.2)
                  rw [meshB_not hkl (benN_ne hil HF.out.1)] at CS
                  unfold meshV at CS
                  go_wp2_with fail
                  refine Calls.mono CS.out ?_
                  rintro e u8 ⟨rfl, hb⟩
                  replace X8 := hid (X8.out.up hb)
                  replace X11 := hid (X11.out.up hb)
                  clear hb CS d0 d1 e0 e1
                  obtain ⟨e0, e1⟩ := X11.out.cells
                  obtain ⟨d0, d1⟩ := X8.out.at_.cells
                  have f0 := frozen_at (i := 0) X8.out.at_.1
                  have f1 := frozen_at (i := 1) X8.out.at_.1
                  have X9 := hid (bk_store X8.out.below X8.out.ge X8.out.at_.1 X11.out.2.1 X11.out.2.2)
                  unfold put2 at X9
                  clear X8 X11
                  go_wp2
                  go_roundw
                  case rel => exact ⟨j + 1, _, _, _, _, _, _, _, by omega, by go_num, X9⟩
                  case measure => simp only [intOf]; omega
                · refine ⟨_, rfl, ?_⟩
                  intro K hK
                  go_wp2
                  have hb1 := below_alloc D0 (.cells #[.slice none 0 0, .slice none 0 0] 27)
                  have k0 := heap_alloc_new D0 (.cells #[.slice none 0 0, .slice none 0 0] 27)
                  have lt9 : wr.heap.size ≤ D0.heap.size := HD.out.size
                  replace HD := hid (HD.out.trans (hb1.mono HD.out.size))
                  obtain ⟨Z1, hVz⟩ : ∃ v, World.alloc D0 (.cells #[.slice none 0 0, .slice none 0 0] 27) = v := ⟨_, rfl⟩
                  obtain ⟨gz, hgz⟩ : ∃ g, D0.heap.size = g := ⟨_, rfl⟩
                  rw [hVz] at k0 HD
                  rw [hgz] at k0 lt9
                  refine ⟨rfl, hK _ _ (by rw [hVz]; exact HD.out) ?_⟩
                  rw [hVz, hgz]
                  clear hK K hb1 hgz hVz
                  have KB := hid k0
                  clear k0
                  refine anyM_pick (f := 5) [12] (by kernel_rfl) (by decide) ?_
                  intro i9 hi9
                  simp only [List.mem_cons, List.not_mem_nil, or_false] at hi9
                  subst hi9
                  refine ⟨_, rfl, ?_⟩
                  intro K hK
                  have CU := hid (CR.out Z1 HD.out)
                  go_wp2_with fail
                  refine Calls.mono CU.out ?_
                  rintro e Z3 ⟨hb, a2, c2, P2, l2, d2, K2, U2, rfl, hv9, hl9⟩
                  replace HD := hid (HD.out.trans (hb.mono HD.out.size))
                  have k0 := stayB KB.out hb
                  clear hb CU KB
                  go_wp2
                  refine ⟨rfl, hK _ _ HD.out ?_⟩
                  clear hK K
                  refine anyM_reads (f := 2) [13, 14, 15] (by kernel_rfl) HD.out (by rfl) (by kernel_rfl) (by kernel_rfl) (by simp only [pickO, List.getElem?_cons_zero, List.getElem?_cons_succ]; exact rfl) ?_
                  repeat (go_big_quiet_step (fail))
                  refine wpQuiet_nil ?_
                  refine anyM_pick (f := 1) [17] (by kernel_rfl) (by decide) ?_
                  intro i9 hi9
                  simp only [List.mem_cons, List.not_mem_nil, or_false] at hi9
                  subst hi9
                  refine ⟨_, rfl, ?_⟩
                  intro K hK
                  obtain ⟨q0, q1⟩ := two_at k0
                  have f0 := frozen_at (i := 0) k0
                  have f1 := frozen_at (i := 1) k0
                  have PM := hid (bk_store HD.out lt9 k0 hv9 hl9)
                  have HU := hid (put2_below HD.out lt9 (u0 := .slice a2 n c2) (u1 := .slice l2 np d2))
                  obtain ⟨w2, hw2⟩ : ∃ y, put2 Z3 gz (.slice a2 n c2) (.slice l2 np d2) = y := ⟨_, rfl⟩
                  rw [hw2] at PM HU
                  unfold put2 at hw2
                  clear k0 hv9 hl9
                  go_wp2
                  refine ⟨rfl, hK _ _ HU.out ?_⟩
                  clear hK K q0 q1 f0 f1 HD hw2 F0 F1 F2 F3 F4
                  have HD := HU
                  refine anyM_reads (f := 0) [18] (by kernel_rfl) HD.out (by rfl) (by kernel_rfl) (by kernel_rfl) (by simp only [pickO, List.getElem?_cons_zero, List.getElem?_cons_succ]; exact rfl) ?_
                  repeat (go_big_quiet_step (fail))
                  refine wpQuiet_nil ?_
                  refine anyM_end (by kernel_rfl) ?_
                  replace X8 := hid (X8.out.up HU.out)
                  have X11 := hid PM.out.at_
                  clear PM HU HD hne lt9 CR
                  obtain ⟨d0, d1⟩ := X8.out.at_.cells
                  obtain ⟨e0, e1⟩ := X11.out.cells
                  have CS := hid (HM.out.same _ _ _ _ _ _ _ _ _ _ _ _ _ _ _ _ _ _ _ X8.out.at_.2.1 X8.out.at_.2.2 X11.out.2.1 X11.out.2.2)
                  rw [meshB_not hkl (benN_ne hil HF.out.1)] at CS
                  unfold meshV at CS
                  go_wp2_with fail
                  refine Calls.mono CS.out ?_
                  rintro e u8 ⟨rfl, hb⟩
                  replace X8 := hid (X8.out.up hb)
                  replace X11 := hid (X11.out.up hb)
                  clear hb CS d0 d1 e0 e1
                  obtain ⟨e0, e1⟩ := X11.out.cells
                  obtain ⟨d0, d1⟩ := X8.out.at_.cells
                  have f0 := frozen_at (i := 0) X8.out.at_.1
                  have f1 := frozen_at (i := 1) X8.out.at_.1
                  have X9 := hid (bk_store X8.out.below X8.out.ge X8.out.at_.1 X11.out.2.1 X11.out.2.2)
                  unfold put2 at X9
                  clear X8 X11
                  go_wp2
                  go_roundw
                  case rel => exact ⟨j + 1, _, _, _, _, _, _, _, by omega, by go_num, X9⟩
                  case measure => simp only [intOf]; omega
              · refine ⟨_, rfl, ?_⟩
                intro K hK
                go_wp2
                have hb1 := below_alloc D0 (.cells #[.slice none 0 0, .slice none 0 0] 27)
                have k0 := heap_alloc_new D0 (.cells #[.slice none 0 0, .slice none 0 0] 27)
                have lt9 : wr.heap.size ≤ D0.heap.size := HD.out.size
                replace HD := hid (HD.out.trans (hb1.mono HD.out.size))
                obtain ⟨Z1, hVz⟩ : ∃ v, World.alloc D0 (.cells #[.slice none 0 0, .slice none 0 0] 27) = v := ⟨_, rfl⟩
                obtain ⟨gz, hgz⟩ : ∃ g, D0.heap.size = g := ⟨_, rfl⟩
                rw [hVz] at k0 HD
                rw [hgz] at k0 lt9
                refine ⟨rfl, hK _ _ (by rw [hVz]; exact HD.out) ?_⟩
                rw [hVz, hgz]
                clear hK K hb1 hgz hVz
                have KB := hid k0
                clear k0
                refine anyM_pick (f := 7) [10] (by kernel_rfl) (by decide) ?_
                intro i9 hi9
                simp only [List.mem_cons, List.not_mem_nil, or_false] at hi9
                subst hi9
                refine ⟨_, rfl, ?_⟩
                intro K hK
                go_wp2_with fail
                refine Calls.mono (at_any i (P.m kk : Int) ⟨by omega, by omega⟩ _) ?_
                rintro e u9 ⟨rfl, hw9⟩
                subst u9
                rw [HII.out]
                go_wp2
                refine ⟨rfl, hK _ _ HD.out ?_⟩
                clear hK K
                refine anyM_reads (f := 6) [11] (by kernel_rfl) HD.out (by rfl) (by kernel_rfl) (by kernel_rfl) (by simp only [pickO, List.getElem?_cons_zero, List.getElem?_cons_succ]; exact rfl) ?_
                repeat (go_big_quiet_step (fail))
                refine wpQuiet_nil ?_
                refine anyM_pick (f := 5) [12] (by kernel_rfl) (by decide) ?_
                intro i9 hi9
                simp only [List.mem_cons, List.not_mem_nil, or_false] at hi9
                subst hi9
                refine ⟨_, rfl, ?_⟩
                intro K hK
                have CU := hid (CR.out Z1 HD.out)
                go_wp2_with fail
                refine Calls.mono CU.out ?_
                rintro e Z3 ⟨hb, a2, c2, P2, l2, d2, K2, U2, rfl, hv9, hl9⟩
                replace HD := hid (HD.out.trans (hb.mono HD.out.size))
                have k0 := stayB KB.out hb
                clear hb CU KB
                go_wp2
                refine ⟨rfl, hK _ _ HD.out ?_⟩
                clear hK K
                refine anyM_reads (f := 2) [13, 14, 15] (by kernel_rfl) HD.out (by rfl) (by kernel_rfl) (by kernel_rfl) (by simp only [pickO, List.getElem?_cons_zero, List.getElem?_cons_succ]; exact rfl) ?_
                repeat (go_big_quiet_step (fail))
                refine wpQuiet_nil ?_
                refine anyM_pick (f := 1) [17] (by kernel_rfl) (by decide) ?_
                intro i9 hi9
                simp only [List.mem_cons, List.not_mem_nil, or_false] at hi9
                subst hi9
                refine ⟨_, rfl, ?_⟩
                intro K hK
                obtain ⟨q0, q1⟩ := two_at k0
                have f0 := frozen_at (i := 0) k0
                have f1 := frozen_at (i := 1) k0
                have PM := hid (bk_store HD.out lt9 k0 hv9 hl9)
                have HU := hid (put2_below HD.out lt9 (u0 := .slice a2 n c2) (u1 := .slice l2 np d2))
                obtain ⟨w2, hw2⟩ : ∃ y, put2 Z3 gz (.slice a2 n c2) (.slice l2 np d2) = y := ⟨_, rfl⟩
                rw [hw2] at PM HU
                unfold put2 at hw2
                clear k0 hv9 hl9
                go_wp2
                refine ⟨rfl, hK _ _ HU.out ?_⟩
                clear hK K q0 q1 f0 f1 HD hw2 F0 F1 F2 F3 F4
                have HD := HU
                refine anyM_reads (f := 0) [18] (by kernel_rfl) HD.out (by rfl) (by kernel_rfl) (by kernel_rfl) (by simp only [pickO, List.getElem?_cons_zero, List.getElem?_cons_succ]; exact rfl) ?_
                repeat (go_big_quiet_step (fail))
                refine wpQuiet_nil ?_
                refine anyM_end (by kernel_rfl) ?_
                replace X8 := hid (X8.out.up HU.out)
                have X11 := hid PM.out.at_
                clear PM HU HD hne lt9 CR
                obtain ⟨d0, d1⟩ := X8.out.at_.cells
                obtain ⟨e0, e1⟩ := X11.out.cells
                have CS := hid (HM.out.same _ _ _ _ _ _ _ _ _ _ _ _ _ _ _ _ _ _ _ X8.out.at_.2.1 X8.out.at_.2.2 X11.out.2.1 X11.out.2.2)
                rw [meshB_not hkl (benN_ne hil HF.out.1)] at CS
                unfold meshV at CS
                go_wp2_with fail
                refine Calls.mono CS.out ?_
                rintro e u8 ⟨rfl, hb⟩
                replace X8 := hid (X8.out.up hb)
                replace X11 := hid (X11.out.up hb)
                clear hb CS d0 d1 e0 e1
                obtain ⟨e0, e1⟩ := X11.out.cells
                obtain ⟨d0, d1⟩ := X8.out.at_.cells
                have f0 := frozen_at (i := 0) X8.out.at_.1
                have f1 := frozen_at (i := 1) X8.out.at_.1
                have X9 := hid (bk_store X8.out.below X8.out.ge X8.out.at_.1 X11.out.2.1 X11.out.2.2)
                unfold put2 at X9
                clear X8 X11
                go_wp2
                go_roundw
                case rel => exact ⟨j + 1, _, _, _, _, _, _, _, by omega, by go_num, X9⟩
                case measure => simp only [intOf]; omega
            · have hje : j = 31 := by omega
              subst hje
              have A4 := hid (A3.out.up X8.out.below)
              obtain ⟨c0, c1⟩ := A4.out.cells
              obtain ⟨d0, d1⟩ := X8.out.at_.cells
              have CS := hid (HM.out.same _ _ _ _ _ _ _ _ _ _ _ _ _ _ _ _ _ _ _ X8.out.at_.2.1 X8.out.at_.2.2 A4.out.2.1 A4.out.2.2)
              rw [meshB_of fun q _ => benN_back HF.out.2] at CS
              unfold meshV at CS
              go_wp2_with fail
              refine Calls.mono CS.out ?_
              rintro e u9 ⟨rfl, hb⟩
              replace X8 := hid (X8.out.up hb)
              clear hb CS c0 c1 d0 d1
              go_wp2
              go_ret
              exact ⟨rfl, HB.out.trans (X8.out.below.mono HB.out.size)⟩
  · go_enter Tryz.func5, Tryz.ntmps5
    go_wp2_with fail
    refine Calls.mono (HJ.out _) ?_
    rintro e u1 ⟨rfl, hb⟩
    have A2 := hid (A1.out.up hb)
    replace HB := hid (HB.out.trans (hb.mono HB.out.size))
    clear hb hU hgx
    obtain ⟨c0, c1⟩ := A2.out.cells
    have CK := hid (HM.out.check _ n PV b _ np KV UV P u1 A2.out.2.1 A2.out.2.2)
    rw [hbad] at CK
    unfold meshV at CK
    have hcb : (bad != 0) = true := by simpa using h0
    clear hbad
    go_wp2_with fail
    refine Calls.mono CK.out ?_
    rintro e u2 ⟨rfl, hb⟩
    replace HB := hid (HB.out.trans (hb.mono HB.out.size))
    clear hb CK c0 c1
    go_wp2_with fail
    refine Calls.mono (HJ.out _) ?_
    rintro e u3 ⟨rfl, hb⟩
    replace HB := hid (HB.out.trans (hb.mono HB.out.size))
    clear hb
    go_wp2
    go_ret
    exact ⟨rfl, HB.out⟩

end Go.Proofs.YtalaobfmnacikaaGreat
