/- Several texts of one proof, in their order. -/
import Derived.Test.YtajmnlhfnhbleaaGreatTSum13
import Derived.Test.YtajmnlhfnhbleaaGreatTaleKeepsPart3
import Derived.Test.YtajmnlhfnhbleaaGreatTSum32

namespace Go.Proofs.YtajmnlhfnhbleaaGreat

open Go.RowKit CurveMath
set_option linter.unusedVariables false

theorem ms_again {w : World} {g : Nat} {a0 : Option Addr} {n0 c0 : Nat} {PV0 : Nat → Value} {b0 : Bk} {l0 : Option Addr} {np0 d0 : Nat} {KV0 : Nat → Value} {UV0 : Nat → Nat → Value} {P0 : Ps} {a : Option Addr} {n c : Nat} {PV : Nat → Value} {b : Bk} {l : Option Addr} {np d : Nat} {KV : Nat → Value} {UV : Nat → Nat → Value} {P : Ps}
    (h : MsAt w g a0 n0 c0 PV0 b0 l0 np0 d0 KV0 UV0 P0) (hv : VeSl w w.heap.size (.slice a n c) n PV b) (hl : PsSl w w.heap.size (.slice l np d) np KV UV P) :
    w.frozen? ⟨g, 0, none⟩ = false ∧ w.frozen? ⟨g, 1, none⟩ = false ∧ ∃ Y, (w.setCell ⟨g, 0, none⟩ (.slice a n c)).setCell ⟨g, 1, none⟩ (.slice l np d) = Y ∧ (∀ B w0, B ≤ g → Below B w0 w → Below B w0 Y) ∧ MsAt Y g a n c PV b l np d KV UV P :=
  ⟨frozen_at (i := 0) h.1, frozen_at (i := 1) h.1, _, rfl, fun B w0 hB hb => put2_below hb hB, put2_whole h.1 _ _, ve_put2 h.1 hv _, ps_put2 h.1 hl _ _⟩

theorem clean_run {lr : Nat} {Z : Nat → Int} {H : Nat → Hp} {len : Nat} (h : newE lr Z = 0) (hb : ∀ j, j < len → (H j).kd ≠ 5) :
    ∃ C, Clean (runM ⟨0, noB, lr, freshP Z⟩ (hapL H len)) C ∧ (runM ⟨0, noB, lr, freshP Z⟩ (hapL H len)).n = (savedL ⟨0, noB, lr, freshP Z⟩ (hapL H len)).length ∧
      ∀ j, j < (savedL ⟨0, noB, lr, freshP Z⟩ (hapL H len)).length → (runM ⟨0, noB, lr, freshP Z⟩ (hapL H len)).b.sz j = ((slL (savedL ⟨0, noB, lr, freshP Z⟩ (hapL H len)) j : Nat) : Int) ∧ C j = slX (savedL ⟨0, noB, lr, freshP Z⟩ (hapL H len)) j := by
  obtain ⟨C, h1, _, h3, h4⟩ := Clean.run (hapL H len) (clean_new h) fun x hx => by
    unfold hapL at hx
    obtain ⟨j, hj, rfl⟩ := List.mem_map.1 hx
    exact hb j (List.mem_range.1 hj)
  refine ⟨C, h1, by rw [h3]; exact Nat.zero_add _, fun j hj => ?_⟩
  have h5 := h4 j hj
  rw [show (⟨0, noB, lr, freshP Z⟩ : Ms).n + j = j from Nat.zero_add j] at h5
  exact h5

set_option maxHeartbeats 8000000 in
set_option maxRecDepth 10000 in
theorem taleKeeps_of (hO : MeshCore) (hW : WorldOwes) (hT : TaleOwes) (vr : Value) (lr : Nat) (Z : Nat → Int) (vs : Value) (n : Nat) (DV0 QV0 : Nat → Value) (H0 : Nat → Hp) (w : World) (hr : IntSl w w.heap.size vr lr Z) (hlr : lr ≤ 1048576) (hs : HpSl w w.heap.size vs n DV0 QV0 H0) :
    Calls Tryz.prog 10 #[vr, vs] w fun e w' => e = .returned (.bool true) ∧ Below w.heap.size w w' := by
  have HJ : Hid (∀ u : World, _) := fun u => told_any hO hT u
  have HO := hid hO
  have HWo := hid hW
  have HT := hid hT
  have HR := hid hr
  have CS := hid (straight_any vs n DV0 QV0 H0 60 w (by omega) hs)
  rw [show ((60 : Nat) : Int) = 60 from rfl] at CS
  obtain ⟨ar, cr, rfl, z1, z2⟩ := id hr
  obtain ⟨av0, cv0, rfl, z3, z4⟩ := id hs
  clear z1 z2 z3 z4 hr hs hO hW hT
  go_enter Tryz.func10, Tryz.ntmps10
  go_wp2_with fail
  refine Calls.mono CS.out ?_
  rintro e u1 ⟨hb, vo, rfl, len, hlen, DV, QV, H, hs, hbend⟩
  have HB := hid hb
  replace HR := hid (HR.out.up hb)
  have HS := hid hs
  have HBe := hid hbend
  obtain ⟨asl, csl, rfl, ⟨hsc, hsb⟩, z2⟩ := hs
  clear z2 hb hbend CS
  have CK := hid (HT.out.saved _ lr Z _ len DV QV H u1 HR.out hlr HS.out)
  obtain ⟨er, her⟩ : ∃ c, savE lr Z len = c := ⟨_, rfl⟩
  rw [her] at CK
  go_wp2_with fail
  refine Calls.mono CK.out ?_
  rintro e u2 ⟨hb, vsv, n9, VV, rfl, hn9, hls⟩
  replace HB := hid (HB.out.trans (hb.mono HB.out.size))
  replace HR := hid (HR.out.up hb)
  replace HS := hid (HS.out.up hb)
  have LS := hid hls
  have HN9 := hid hn9
  clear hn9
  obtain ⟨a9, c9, rfl, z1, z2⟩ := hls
  clear hb CK z1 z2
  go_wp2_with fail
  refine Calls.mono (HJ.out u2) ?_
  rintro e u3 ⟨rfl, hb⟩
  replace HB := hid (HB.out.trans (hb.mono HB.out.size))
  replace HR := hid (HR.out.up hb)
  replace HS := hid (HS.out.up hb)
  replace LS := hid (LS.out.up hb)
  clear hb
  by_cases h0 : er = 0
  · subst h0
    have hn9 := HN9.out
    rw [if_pos rfl] at hn9
    subst hn9
    have hne : newE lr Z = 0 := by
      unfold savE at her
      by_cases c : newE lr Z = 0
      · exact c
      · rw [if_neg c] at her; exact absurd her c
    obtain ⟨C, hcl, hcn, hcs⟩ := clean_run (len := len) hne HBe.out
    obtain ⟨M0, hM0⟩ : ∃ m : Ms, (⟨0, noB, lr, freshP Z⟩ : Ms) = m := ⟨_, rfl⟩
    obtain ⟨SL, hSL⟩ : ∃ l, savedL ⟨0, noB, lr, freshP Z⟩ (hapL H len) = l := ⟨_, rfl⟩
    rw [hSL] at hcn hcs LS ⊢
    rw [hM0] at hcl hcn hcs
    obtain ⟨M, hM⟩ : ∃ m : Ms, runM M0 (hapL H len) = m := ⟨_, rfl⟩
    rw [hM] at hcl hcn hcs
    rw [← hcn] at LS hcs ⊢
    have HNe := hid hne
    have HM0 := hid hM0
    have HM := hid hM
    have HCl := hid hcl
    have HCs := hid hcs
    have HCn := hid hcn
    have hS12 : M.n ≤ 12 := (right_of (ms_right hcl.right).book).le
    have HS12 := hid hS12
    have CN := hid (HO.out.new _ lr Z u3 HR.out hlr)
    rw [hne] at CN
    clear hne hM0 hM hcl hcs her hSL hcn
    go_wp2_with fail
    refine Calls.mono CN.out ?_
    rintro e u4 hMp
    obtain ⟨hb, b1, n1, e1, PV1, l1, np1, f1, KV1, UV1, rfl, hn1, hp1, hv9, hl9⟩ := mesh_open hMp.old
    rw [if_pos rfl] at hn1 hp1
    have hp2 := hp1.symm
    subst hn1 hp2
    obtain ⟨V1, g1, hV1, hg1, q0, q1, f0, f2, Y1, hY1, hb1, bx⟩ := ms_boxed hv9 hl9
    have HG1 : Hid (u3.heap.size ≤ g1) := by rw [← hg1]; exact hb.size
    replace hb := hb.trans (hb1.mono hb.size)
    have B3 := hid hb
    replace HS := hid (HS.out.up hb)
    have X1 := hid bx
    clear hb hb1 bx hv9 hl9 hMp CN HR
    obtain ⟨c0, c1⟩ := X1.out.cells
    have CR := hid (HWo.out.run _ 0 PV1 noB _ lr KV1 UV1 (freshP Z) _ len DV QV H Y1 X1.out.2.1 X1.out.2.2 HS.out)
    rw [HM0.out, HM.out, show runE M0 len = 0 from runE_of (by rw [← HM0.out]; exact HNe.out) (by omega)] at CR
    unfold meshV at CR
    go_wp2_with fail
    refine Calls.mono CR.out ?_
    rintro e u5 ⟨hb, vb5, vl5, vo5, n5, np5, k5, PV5, KV5, UV5, rfl, hn5, hp5, _, hv5, hl5, ho5⟩
    rw [if_pos rfl] at hn5 hp5
    subst hn5 hp5
    obtain ⟨ab5, cb5, rfl, z1, z2⟩ := id hv5
    obtain ⟨al5, cl5, rfl, z3, z4⟩ := id hl5
    obtain ⟨ao5, co5, rfl, z5, z6⟩ := ho5
    clear z1 z2 z3 z4 z5 z6 q0 q1 f0 f2 hV1 hg1 hY1 c0 c1 CR
    obtain ⟨f0, f1', Y2, hY2, hbY, bx⟩ := ms_again (X1.out.up hb) hv5 hl5
    obtain ⟨c0, c1⟩ := (X1.out.up hb).cells
    replace B3 := hid (hbY _ _ HG1.out (B3.out.trans (hb.mono B3.out.size)))
    have X2 := hid bx
    clear hb hbY bx hv5 hl5 X1
    obtain ⟨d0, d1⟩ := X2.out.cells
    unfold meshV
    go_wp2
    clear f0 f1' hY2 c0 c1 d0 d1
    go_loopw [57] (fun iv wr => ∃ i : Nat, i ≤ M.n ∧ iv = .int .i64 i ∧ Hid (Below Y2.heap.size Y2 wr)) (fun iv _ => M.n - (intOf iv).toNat)
    case atStart => exact ⟨0, Nat.zero_le _, rfl, Below.refl _ _⟩
    case round =>
      obtain ⟨i, hi, rfl, J⟩ := hrel
      by_cases hlt : i < M.n
      · have hii : (i : Int) < ((M.n : Nat) : Int) := by omega
        have B9 := hid (B3.out.trans (J.out.mono B3.out.size))
        have XJ := hid (X2.out.up J.out)
        obtain ⟨bl, off, c8, e8, hbl, x8, hi8⟩ := (LS.out.up B9.out).at hlt
        injection e8 with e8 _ e7
        subst e8 e7
        obtain ⟨av, cv, hvv, z1, z2⟩ := id hi8
        rw [hvv] at x8 hi8
        have HI8 := hid hi8
        have hv9 : 0 ≤ (i : Int) ∧ (i : Int) < (M.n : Int) := ⟨by omega, hii⟩
        have hrest := HCl.out.rest hv9
        have hR := ms_right HCl.out.right
        have CK := hid (HT.out.spare _ M.n PV5 M.b _ M.np KV5 UV5 M.P (i : Int) wr XJ.out.2.1 XJ.out.2.2)
        have CQ := hid (fun u hb => HO.out.restore _ M.n PV5 M.b _ M.np KV5 UV5 M.P (i : Int) u (XJ.out.2.1.up hb) (XJ.out.2.2.up hb))
        have hve : verM M.n M.b M.np M.P (i : Int) = 0 := by unfold verM; rw [if_pos hR.e, if_pos hv9]
        unfold spV at CK
        rw [hve, if_pos rfl] at CK
        obtain ⟨S, hS⟩ : ∃ c, spN M.b M.np M.P (i : Int) = c := ⟨_, rfl⟩
        obtain ⟨f, hf⟩ : ∃ c, rsE M.n M.b M.np M.P (i : Int) = c := ⟨_, rfl⟩
        rw [hS] at CK hrest
        rw [hf] at hrest
        have hcs := HCs.out i hlt
        unfold meshV at CK CQ
        have HRe := hid hrest
        have HF := hid hf
        have HCi := hid hcs
        obtain ⟨c0, c1⟩ := XJ.out.cells
        have X8 := hid x8
        have HXJ : Hid (∀ u, Below wr.heap.size wr u → u.cell? ⟨g1, 0, none⟩ = some (.slice ab5 M.n cb5) ∧ u.cell? ⟨g1, 1, none⟩ = some (.slice al5 M.np cl5)) := fun u hb => (XJ.out.up hb).cells
        clear hvv z1 z2 hi8 hR hve hS hf hrest hcs XJ hv9
        go_wp2_with fail
        refine Calls.mono CK.out ?_
        rintro e u6 ⟨rfl, hb⟩
        have B6 := hid hb
        clear hb CK c0 c1 x8
        obtain ⟨c0, c1⟩ := HXJ.out u6 B6.out
        go_wp2_with fail
        refine Calls.mono (CQ.out u6 B6.out) ?_
        rintro e u7 hM
        obtain ⟨hb, b7, m7, e7, b8, e8, rfl, hm7, hd7, hq7⟩ := rest_open hM
        have B7 := hid (B6.out.trans (hb.mono B6.out.size))
        have HM7 := hid hm7
        have HD7 := hid hd7
        rw [HF.out] at hm7 ⊢
        rw [HF.out] at HM7
        clear hb hM CQ c0 c1 hd7 hm7 hq7
        rcases Int.lt_or_le S 0 with hs | hs
        · have hf7 := HRe.out.1 hs
          subst hf7
          have J7 := hid (J.out.trans (B7.out.mono J.out.size))
          have h9 : ¬ S ≥ 0 := by omega
          go_wp2
          go_roundw
          case rel => exact ⟨i + 1, by omega, by go_num, J7⟩
          case measure => simp only [intOf]; omega
        · obtain ⟨hf0, hd0, hb0⟩ := HRe.out.2 hs
          subst hf0
          rw [hb0]
          have hns : ¬ S < 0 := by omega
          have hsz := HCi.out.1
          have hm7 := HM7.out
          rw [if_pos rfl, Int.toNat_natCast, hsz] at hm7
          have hm8 : m7 = slL SL i := by omega
          have CE := hid (equal_isl HD7.out (HI8.out.up B7.out))
          rw [show eqB m7 (slL SL i) (rsD M.b M.np M.P (i : Int)) (slX SL i) = true from decide_eq_true ⟨hm8, fun j hj => by
            rw [hd0 j (by rw [Int.toNat_natCast, hsz]; omega), Int.toNat_natCast, HCi.out.2]⟩] at CE
          clear hd0 hb0 hsz hm7 hm8
          go_wp2_with fail
          refine Calls.mono CE.out ?_
          rintro e y1 ⟨rfl, j1, hy1⟩
          have hb : Below u7.heap.size u7 y1 := by rw [hy1]; exact drewN_up _ _
          have B8 := hid (B7.out.trans (hb.mono B7.out.size))
          have J7 := hid (J.out.trans (B8.out.mono J.out.size))
          clear hb hy1 CE
          go_wp2
          go_roundw
          case rel => exact ⟨i + 1, by omega, by go_num, J7⟩
          case measure => simp only [intOf]; omega
      · have hie : M.n = i := by omega
        have hjn : ¬ (i : Int) < ((M.n : Nat) : Int) := by omega
        go_wp2
        go_ret
        exact ⟨rfl, HB.out.trans ((B3.out.trans (J.out.mono B3.out.size)).mono HB.out.size)⟩
  · have h1 : (er != 0) = true := by simpa using h0
    go_wp2_with fail
    refine Calls.mono (HJ.out u3) ?_
    rintro e u4 ⟨rfl, hb⟩
    replace HB := hid (HB.out.trans (hb.mono HB.out.size))
    clear hb
    go_wp2
    go_ret
    exact ⟨rfl, HB.out⟩

end Go.Proofs.YtajmnlhfnhbleaaGreat
