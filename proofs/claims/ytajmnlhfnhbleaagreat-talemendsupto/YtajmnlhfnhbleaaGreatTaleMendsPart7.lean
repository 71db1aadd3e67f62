/- Several texts of one proof, in their order. -/
import Derived.Test.YtajmnlhfnhbleaaGreatTaleMendsPart4
import Derived.Test.YtajmnlhfnhbleaaGreatTaleMendsPart6
import Derived.Test.YtajmnlhfnhbleaaGreatTSum8
import Derived.Test.YtajmnlhfnhbleaaGreatTSum13

namespace Go.Proofs.YtajmnlhfnhbleaaGreat

open Go.RowKit CurveMath
set_option linter.unusedVariables false

theorem ve_at {w : World} {B : Nat} {a : Option Addr} {n c : Nat} {PV : Nat → Value} {b : Bk} (h : VeSl w B (.slice a n c) n PV b) {i : Nat} (hi : i < n) : ∃ bl off, a = some ⟨bl, off, none⟩ ∧ bl < B ∧ w.cell? ⟨bl, off + i * 4, none⟩ = some (PV i) ∧ w.cell? ⟨bl, off + i * 4 + 1, none⟩ = some (.int .i64 (b.nd i)) ∧ w.cell? ⟨bl, off + i * 4 + 2, none⟩ = some (.int .i64 (b.of i)) ∧
    w.cell? ⟨bl, off + i * 4 + 3, none⟩ = some (.int .i64 (b.sz i)) ∧ IntSl w B (PV i) (b.PL i) (b.PX i) := by
  obtain ⟨ad, cap, e, _, h2⟩ := h
  injection e with e1
  subst e1
  rcases h2 with h2 | ⟨bl, off, rfl, h4, h5⟩
  · omega
  · exact ⟨bl, off, rfl, h4, h5 i hi⟩

def mendH (k : Nat) : Hp := ⟨6, k, 0, 0, dn0, 0, dn0, 0, 0⟩

theorem mend_do {m : Ms} {k : Nat} (h : msE m = 0) : doE m (mendH k) = mendE m.n m.b m.np m.P k ∧ happM m (mendH k) = ⟨m.n, m.b, m.np, mendP m.b m.np m.P k⟩ := by
  unfold doE
  rw [if_pos h]
  unfold happE happM mendH
  simp

theorem mend_clean {m : Ms} {C : Nat → Nat → Int} (h : Clean m C) {k : Nat} (he : mendE m.n m.b m.np m.P k = 0) : Clean ⟨m.n, m.b, m.np, mendP m.b m.np m.P k⟩ C := by
  have h9 : happE m (mendH k) = 0 := by unfold happE mendH; simpa using he
  have h1 := h.happ (x := mendH k) (by unfold mendH; simp) h9
  rw [show happM m (mendH k) = ⟨m.n, m.b, m.np, mendP m.b m.np m.P k⟩ by unfold happM mendH; simp, show contC m (mendH k) C = C by unfold contC mendH; simp] at h1
  exact h1

def lvM (m : Ms) (Z : Nat → Int) (j : Nat) : Ms := leavesM m ((List.range j).map fun q => (Z q % (m.np : Int)).toNat)

theorem lvM_next (m : Ms) (Z : Nat → Int) (j : Nat) : lvM m Z (j + 1) = leaveM (lvM m Z j) (Z j % (m.np : Int)).toNat := by
  unfold lvM leavesM
  rw [List.range_succ, List.map_append, List.foldl_append]
  rfl

theorem lvM_all {m : Ms} {C : Nat → Nat → Int} (h : Clean m C) (Z : Nat → Int) (j : Nat) (v : Int) (hp : 1 ≤ m.np) : Clean (lvM m Z j) C ∧ (lvM m Z j).n = m.n ∧ (lvM m Z j).b = m.b ∧ (lvM m Z j).np = m.np ∧ spN m.b m.np m.P v ≤ spN m.b m.np (lvM m Z j).P v + (j : Int) := by
  have h9 := leaves_clean ((List.range j).map fun q => (Z q % (m.np : Int)).toNat) h v fun k hk => by
    obtain ⟨q, _, rfl⟩ := List.mem_map.1 hk
    have h1 := Int.emod_nonneg (Z q) (show (m.np : Int) ≠ 0 by omega)
    have h2 := Int.emod_lt_of_pos (Z q) (show 0 < (m.np : Int) by omega)
    omega
  rw [List.length_map, List.length_range] at h9
  exact h9

def LvMade (W w' : World) (g : Nat) (er : Int) (n : Nat) (b : Bk) (np : Nat) (P : Ps) (a : Option Addr) (n' c : Nat) (PV : Nat → Value) (l : Option Addr) (np' d : Nat) (KV : Nat → Value) (UV : Nat → Nat → Value) : Prop :=
  Below W.heap.size W w' ∧ MsAt w' g a n' c PV b l np' d KV UV P ∧ n' = (if er = 0 then n else 0) ∧ np' = (if er = 0 then np else 0)

set_option maxHeartbeats 8000000 in
set_option maxRecDepth 10000 in
theorem taleMends_of (hO : MeshCore) (hW : WorldOwes) (hT : TaleOwes) (vr : Value) (lr : Nat) (Z : Nat → Int) (vs : Value) (n : Nat) (DV0 QV0 : Nat → Value) (H0 : Nat → Hp) (k : Int) (vg : Value) (lg : Nat) (G : Nat → Int) (w : World) (hr : IntSl w w.heap.size vr lr Z) (hlr : lr ≤ 1048576) (hs : HpSl w w.heap.size vs n DV0 QV0 H0) (hg : IntSl w w.heap.size vg lg G) :
    Calls Tryz.prog 11 #[vr, vs, .int .i64 k, vg] w fun e w' => e = .returned (.bool true) ∧ Below w.heap.size w w' := by
  have HJ : Hid (∀ u : World, _) := fun u => told_any hO hT u
  have HO := hid hO
  have HWo := hid hW
  have HT := hid hT
  have HR := hid hr
  have HG := hid hg
  have CS := hid (straight_any vs n DV0 QV0 H0 60 w (by omega) hs)
  rw [show ((60 : Nat) : Int) = 60 from rfl] at CS
  obtain ⟨ar, cr, rfl, z1, z2⟩ := id hr
  obtain ⟨av0, cv0, rfl, z3, z4⟩ := id hs
  obtain ⟨ag, cg, rfl, ⟨hgc, _⟩, z5⟩ := id hg
  clear z1 z2 z3 z4 z5 hr hs hg hO hW hT
  go_enter Tryz.func11, Tryz.ntmps11
  go_wp2_with fail
  refine Calls.mono CS.out ?_
  rintro e u1 ⟨hb, vo, rfl, len, hlen, DV, QV, H, hs, hbend⟩
  have HB := hid hb
  replace HR := hid (HR.out.up hb)
  replace HG := hid (HG.out.up hb)
  have HS := hid hs
  have HBe := hid hbend
  obtain ⟨asl, csl, rfl, ⟨hsc, hsb⟩, z2⟩ := hs
  clear z2 hb hbend CS
  have CK := hid (HT.out.saved _ lr Z _ len DV QV H u1 HR.out hlr HS.out)
  obtain ⟨er, her⟩ : ∃ c, savE lr Z len = c := ⟨_, rfl⟩
  rw [her] at CK
  go_wp2_with fail
  refine Calls.mono CK.out ?_
  rintro e u2 ⟨hb, vsv, n9, VV, rfl, hn9, hls⟩
  replace HB := hid (HB.out.trans (hb.mono HB.out.size))
  replace HR := hid (HR.out.up hb)
  replace HG := hid (HG.out.up hb)
  replace HS := hid (HS.out.up hb)
  have LS := hid hls
  have HN9 := hid hn9
  clear hn9
  obtain ⟨a9, c9, rfl, z1, z2⟩ := hls
  clear hb CK z1 z2
  go_wp2_with fail
  refine Calls.mono (HJ.out u2) ?_
  rintro e u3 ⟨rfl, hb⟩
  replace HB := hid (HB.out.trans (hb.mono HB.out.size))
  replace HR := hid (HR.out.up hb)
  replace HG := hid (HG.out.up hb)
  replace HS := hid (HS.out.up hb)
  replace LS := hid (LS.out.up hb)
  clear hb
  by_cases h0 : er = 0
  · subst h0
    have hn9 := HN9.out
    rw [if_pos rfl] at hn9
    by_cases hz : n9 = 0
    · subst hz
      clear hn9
      go_wp2_with fail
      refine Calls.mono (HJ.out u3) ?_
      rintro e u4 ⟨rfl, hb⟩
      replace HB := hid (HB.out.trans (hb.mono HB.out.size))
      clear hb
      go_wp2
      go_ret
      exact ⟨rfl, HB.out⟩
    have hz9 : ((n9 : Int) == 0) = false := by rw [beq_eq_false_iff_ne]; omega
    subst hn9
    have hne : newE lr Z = 0 := by
      unfold savE at her
      by_cases c : newE lr Z = 0
      · exact c
      · rw [if_neg c] at her; exact absurd her c
    obtain ⟨C, hcl, hcn, hcs⟩ := clean_run (len := len) hne HBe.out
    obtain ⟨M0, hM0⟩ : ∃ m : Ms, (⟨0, noB, lr, freshP Z⟩ : Ms) = m := ⟨_, rfl⟩
    obtain ⟨SL, hSL⟩ : ∃ l, savedL ⟨0, noB, lr, freshP Z⟩ (hapL H len) = l := ⟨_, rfl⟩
    rw [hSL] at hcn hcs LS hz hz9 ⊢
    rw [hM0] at hcl hcn hcs
    obtain ⟨M, hM⟩ : ∃ m : Ms, runM M0 (hapL H len) = m := ⟨_, rfl⟩
    rw [hM] at hcl hcn hcs
    rw [← hcn] at LS hcs hz hz9 ⊢
    have HNe := hid hne
    have HM0 := hid hM0
    have HM := hid hM
    have HCl := hid hcl
    have HCs := hid hcs
    have HCn := hid hcn
    have hS12 : M.n ≤ 12 := (right_of (ms_right hcl.right).book).le
    have HS12 := hid hS12
    have CN := hid (HO.out.new _ lr Z u3 HR.out hlr)
    rw [hne] at CN
    clear hne hM0 hM hcl hcs her hSL hcn
    go_wp2_with fail
    refine Calls.mono CN.out ?_
    rintro e u4 hMp
    obtain ⟨hb, b1, n1, e1, PV1, l1, np1, f1, KV1, UV1, rfl, hn1, hp1, hv9, hl9⟩ := mesh_open hMp.old
    rw [if_pos rfl] at hn1 hp1
    have hp2 := hp1.symm
    subst hn1 hp2
    obtain ⟨V1, g1, hV1, hg1, q0, q1, f0, f2, Y1, hY1, hb1, bx⟩ := ms_boxed hv9 hl9
    have HG1 : Hid (u3.heap.size ≤ g1) := by rw [← hg1]; exact hb.size
    replace hb := hb.trans (hb1.mono hb.size)
    have B3 := hid hb
    replace HS := hid (HS.out.up hb)
    have X1 := hid bx
    clear hb hb1 bx hv9 hl9 hMp CN HR
    obtain ⟨c0, c1⟩ := X1.out.cells
    have CR := hid (HWo.out.run _ 0 PV1 noB _ lr KV1 UV1 (freshP Z) _ len DV QV H Y1 X1.out.2.1 X1.out.2.2 HS.out)
    rw [HM0.out, HM.out, show runE M0 len = 0 from runE_of (by rw [← HM0.out]; exact HNe.out) (by omega)] at CR
    unfold meshV at CR
    go_wp2_with fail
    refine Calls.mono CR.out ?_
    rintro e u5 ⟨hb, vb5, vl5, vo5, n5, np5, k5, PV5, KV5, UV5, rfl, hn5, hp5, _, hv5, hl5, ho5⟩
    rw [if_pos rfl] at hn5 hp5
    subst hn5 hp5
    obtain ⟨ab5, cb5, rfl, z1, z2⟩ := id hv5
    obtain ⟨al5, cl5, rfl, z3, z4⟩ := id hl5
    obtain ⟨ao5, co5, rfl, z5, z6⟩ := ho5
    clear z1 z2 z3 z4 z5 z6 q0 q1 f0 f2 hV1 hg1 hY1 c0 c1 CR
    obtain ⟨f0, f1', Y2, hY2, hbY, bx⟩ := ms_again (X1.out.up hb) hv5 hl5
    obtain ⟨c0, c1⟩ := (X1.out.up hb).cells
    replace B3 := hid (hbY _ _ HG1.out (B3.out.trans (hb.mono B3.out.size)))
    have X2 := hid bx
    clear hb hbY bx hv5 hl5 X1
    obtain ⟨d0, d1⟩ := X2.out.cells
    unfold meshV
    go_wp2_with fail
    refine Calls.mono (at_more k (M.n : Int) ⟨by omega, by omega⟩ Y2) ?_
    rintro e u6 ⟨rfl, hw⟩
    subst hw
    clear f0 f1' hY2 c0 c1 d0 d1
    have hk1 := Int.emod_nonneg k (show ((M.n : Nat) : Int) ≠ 0 by omega)
    have hk2 := Int.emod_lt_of_pos k (show 0 < ((M.n : Nat) : Int) by omega)
    obtain ⟨kk, hkk⟩ : ∃ j : Nat, k % ((M.n : Nat) : Int) = (j : Int) := ⟨(k % ((M.n : Nat) : Int)).toNat, by omega⟩
    rw [hkk] at hk1 hk2 ⊢
    have hkn : kk < M.n := by omega
    have HKn := hid hkn
    have CD := hid (HWo.out.does _ M.n PV5 M.b _ M.np KV5 UV5 M.P (mendH kk) (.slice none 0 0) (.slice none 0 0) u6 X2.out.2.1 X2.out.2.2 ⟨isl_zero _ _, isl_zero _ _⟩)
    obtain ⟨hme, hmm⟩ := mend_do (m := M) (k := kk) HCl.out.right
    rw [show (⟨M.n, M.b, M.np, M.P⟩ : Ms) = M from rfl, hme, hmm] at CD
    unfold meshV hapV mendH at CD
    have hmd := HCl.out.mend (v := (kk : Int)) ⟨hk1, hk2⟩
    obtain ⟨em, hem⟩ : ∃ c, mendE M.n M.b M.np M.P (kk : Int) = c := ⟨_, rfl⟩
    rw [hem] at CD hmd
    have HEm := hid hem
    obtain ⟨c0, c1⟩ := X2.out.cells
    clear hkk hem hme hmm
    go_wp2_with fail
    refine Calls.mono CD.out ?_
    rintro e u7 hMr
    obtain ⟨hb, b2, n2, e2, PV2, l2, np2, f2, KV2, UV2, rfl, hn2, hp2, hv2, hl2⟩ := mesh_open (show MeshPost u6 em M.n M.b M.np (mendP M.b M.np M.P (kk : Int)) e u7 from hMr)
    obtain ⟨V3, g3, hV3, hg3, q0, q1, f0, f1', Y3, hY3, hb1, bx⟩ := ms_boxed hv2 hl2
    have HG3 : Hid (u3.heap.size ≤ g3) := by
      have := B3.out.size
      have := hb.size
      show _ ≤ _
      omega
    have HN2 := hid hn2
    have HP2 := hid hp2
    have B4 := hid (B3.out.trans ((hb.trans (hb1.mono hb.size)).mono B3.out.size))
    have X3 := hid bx
    clear hb hb1 bx hv2 hl2 hMr CD c0 c1 hn2 hp2 X2 B3
    rcases hmd with rfl | rfl
    · have hn2 := HN2.out
      have hp2 := HP2.out
      rw [if_pos rfl] at hn2 hp2
      subst hn2 hp2
      have HC3 := hid (mend_clean HCl.out HEm.out)
      have hsp := mend_spare HEm.out
      obtain ⟨P3, hP3⟩ : ∃ P, mendP M.b M.np M.P (kk : Int) = P := ⟨_, rfl⟩
      rw [hP3] at X3 HC3 hsp
      rw [Int.toNat_natCast] at hsp
      have hR3 : MeshR M.n M.b M.np P3 := ms_right HC3.out.right
      have hpb := plan_bd hR3 hkn
      obtain ⟨o, ho⟩ : ∃ c, M.b.of kk = c := ⟨_, rfl⟩
      obtain ⟨d, hd⟩ : ∃ c, M.b.nd kk = c := ⟨_, rfl⟩
      rw [ho, hd] at hsp hpb
      obtain ⟨⟨hp1, hp2⟩, ⟨hp3, hp4⟩, _, _⟩ := hpb
      have hnp1 : 1 ≤ M.np := by
        have h9 := thAll_len hR3 (kk : Int) M.np (Nat.le_refl _)
        unfold spN thereL at hsp
        rw [Int.toNat_natCast, hd] at hsp
        omega
      have h8 := hR3.few
      have HSp := hid hsp
      have HR3 := hid hR3
      obtain ⟨c0, c1⟩ := X3.out.cells
      obtain ⟨bv, ov, hav, hbv, v0, v1, v2, v3, _⟩ := ve_at X3.out.2.1 hkn
      subst hav
      rw [ho] at v2
      rw [hd] at v1
      have HVs : Hid (∀ u, Below Y3.heap.size Y3 u → u.cell? ⟨bv, ov + kk * 4 + 1, none⟩ = some (.int .i64 d) ∧ u.cell? ⟨bv, ov + kk * 4 + 2, none⟩ = some (.int .i64 o) ∧ u.cell? ⟨bv, ov + kk * 4 + 3, none⟩ = some (.int .i64 (M.b.sz kk))) := fun u hu => ⟨by rw [hu.cell hbv]; exact v1, by rw [hu.cell hbv]; exact v2, by rw [hu.cell hbv]; exact v3⟩
      have CK := hid (HT.out.spare _ M.n PV2 M.b _ M.np KV2 UV2 P3 (kk : Int) Y3 X3.out.2.1 X3.out.2.2)
      unfold spV at CK
      rw [ver_of hR3 ⟨hk1, hk2⟩, if_pos rfl, hsp] at CK
      unfold meshV at CK
      clear hP3 hR3 hsp ho hd v0 v1 v2 v3
      go_wp2_with fail
      refine Calls.mono CK.out ?_
      rintro e u8 ⟨rfl, hb⟩
      have B5 := hid (B4.out.trans (hb.mono B4.out.size))
      obtain ⟨v1, v2, v3⟩ := HVs.out u8 hb
      have X4 := hid (X3.out.up hb)
      clear hb CK c0 c1 q0 q1 f0 f1' hV3 hg3 hY3 HVs X3
      obtain ⟨c0, c1⟩ := X4.out.cells
      obtain ⟨sz, hsz⟩ : ∃ c, M.b.sz kk = c := ⟨_, rfl⟩
      rw [hsz] at v3
      have HSz := hid hsz
      have hbP := below_alloc u8 (.cells #[.int .i64 d, .int .i64 o, .int .i64 sz] 59)
      have kP := heap_alloc_new u8 (.cells #[.int .i64 d, .int .i64 o, .int .i64 sz] 59)
      obtain ⟨V4, hV4⟩ : ∃ v, World.alloc u8 (.cells #[.int .i64 d, .int .i64 o, .int .i64 sz] 59) = v := ⟨_, rfl⟩
      obtain ⟨g4, hg4⟩ : ∃ g, u8.heap.size = g := ⟨_, rfl⟩
      rw [hV4] at hbP kP
      rw [hg4] at kP
      obtain ⟨y0, y1, y2⟩ := three_at kP
      have B6 := hid (B5.out.trans (hbP.mono B5.out.size))
      have X5 := hid (X4.out.up hbP)
      obtain ⟨q, hq⟩ : ∃ q : Nat, min (lg : Int) (o - d) = (q : Int) := ⟨(min (lg : Int) (o - d)).toNat, by omega⟩
      have hql : q ≤ lg := by omega
      have HQo : Hid ((q : Int) ≤ o - d) := by show _ ≤ _; omega
      have hqc : (q : Int) ≤ (cg : Int) := by omega
      clear hbP kP hsz B5 X4
      go_wp2
      clear c0 c1 v1 v2 v3 y0 y1 y2 hV4 hg4
      obtain ⟨X0, hX0⟩ : ∃ m : Ms, (⟨M.n, M.b, M.np, P3⟩ : Ms) = m := ⟨_, rfl⟩
      have J0 : Hid (MsAt V4 g3 (some ⟨bv, ov, none⟩) M.n e2 PV2 M.b l2 M.np f2 KV2 UV2 (lvM X0 G 0).P) := by rw [← hX0]; exact X5.out
      rw [hX0] at HC3
      have HX0 := hid hX0
      clear hX0
      go_loopw [103] (fun iv wr => ∃ (j : Nat) (a : Option Addr) (c : Nat) (PV : Nat → Value) (l : Option Addr) (f : Nat) (KV : Nat → Value) (UV : Nat → Nat → Value), j ≤ q ∧ iv = .int .i64 j ∧ Hid (Below u3.heap.size u3 wr) ∧ Hid (MsAt wr g3 a M.n c PV M.b l M.np f KV UV (lvM X0 G j).P)) (fun iv _ => q - (intOf iv).toNat)
      case atStart => exact ⟨0, _, _, _, _, _, _, _, Nat.zero_le _, rfl, B6, J0⟩
      case round =>
        obtain ⟨j, a7, c7, PV7, l7, d7, KV7, UV7, hj, rfl, BJ, XJ⟩ := hrel
        by_cases hlt : j < q
        · have hjj : (j : Int) < (q : Int) := by omega
          have hgi := HG.out.up BJ.out
          obtain ⟨ag9, cg9, e9, _, h9⟩ := hgi
          injection e9 with e9 _ e8
          subst e9 e8
          rcases h9 with h9 | ⟨bg, og, rfl, hbg, hg9⟩
          · omega
          have hgj := hg9 j (by omega)
          obtain ⟨gj, hgje⟩ : ∃ x, G j = x := ⟨_, rfl⟩
          rw [hgje] at hgj
          have hnx := lvM_next X0 G j
          obtain ⟨_, hLn, hLb, hLp, _⟩ := lvM_all HC3.out G j (kk : Int) (by rw [← HX0.out]; exact hnp1)
          obtain ⟨Q, hQ⟩ : ∃ m, lvM X0 G j = m := ⟨_, rfl⟩
          rw [hQ] at hnx XJ hLn hLb hLp
          rw [← HX0.out] at hLn hLb hLp
          have hnpX : X0.np = M.np := by rw [← HX0.out]
          rw [hgje, hnpX] at hnx
          have hi1 := Int.emod_nonneg gj (show ((M.np : Nat) : Int) ≠ 0 by omega)
          have hi2 := Int.emod_lt_of_pos gj (show 0 < ((M.np : Nat) : Int) by omega)
          obtain ⟨kj, hkj⟩ : ∃ x : Nat, gj % ((M.np : Nat) : Int) = (x : Int) := ⟨(gj % ((M.np : Nat) : Int)).toNat, by omega⟩
          rw [hkj, Int.toNat_natCast] at hnx
          rw [hkj] at hi1 hi2
          obtain ⟨s0, s1⟩ := XJ.out.cells
          go_wp2_with fail
          have CA : Hid (∀ u : World, Calls Tryz.prog 20 #[.int .i64 gj, .int .i64 ((M.np : Nat) : Int)] u fun e w' => e = .returned (.int .i64 (kj : Int)) ∧ w' = u) := fun u => by
            have h9 := at_more gj ((M.np : Nat) : Int) ⟨by omega, by omega⟩ u
            rw [hkj] at h9
            exact h9
          obtain ⟨er, her⟩ : ∃ c : Int, (if Q.P.th kj = true then 0 else 6) = c := ⟨_, rfl⟩
          have HCl9 := (lvM_all HC3.out G j (kk : Int) (by rw [← HX0.out]; exact hnp1)).1
          rw [hQ] at HCl9
          have hRQ : MeshR M.n M.b M.np Q.P := by
            have h9 := ms_right HCl9.right
            rw [hLn, hLb, hLp] at h9
            exact h9
          have CR : Hid (∀ u, Below wr.heap.size wr u → Calls Tryz.prog 12 #[.agg #[.slice a7 M.n c7, .slice l7 M.np d7], .agg #[.int .i64 2, .int .i64 (kj : Int), .int .i64 0, .slice none 0 0, .slice none 0 0, .int .i64 0, .int .i64 0]] u fun e u' => Below u.heap.size u u' ∧
              ∃ a8 n8 c8 P8 l8 np8 d8 K8 U8, e = .returned (.tuple #[.agg #[.slice a8 n8 c8, .slice l8 np8 d8], .int .i64 er]) ∧ Hid (n8 = if er = 0 then M.n else 0) ∧ Hid (np8 = if er = 0 then M.np else 0) ∧ VeSl u' u'.heap.size (.slice a8 n8 c8) n8 P8 M.b ∧ PsSl u' u'.heap.size (.slice l8 np8 d8) np8 K8 U8 (putB Q.P kj false)) := fun u hb => by
            have h9 := HWo.out.does _ M.n PV7 M.b _ M.np KV7 UV7 Q.P (goH kj) (.slice none 0 0) (.slice none 0 0) u (XJ.out.2.1.up hb) (XJ.out.2.2.up hb) ⟨isl_zero _ _, isl_zero _ _⟩
            rw [go_e hRQ (by omega), go_m, her] at h9
            exact h9.mono fun e u' hM => by
              obtain ⟨hb, a8, n8, c8, P8, l8, np8, d8, K8, U8, rfl, hn8, hp8, hv9, hl9⟩ := mesh_open (show MeshPost u er M.n M.b M.np (putB Q.P kj false) e u' from hM)
              exact ⟨hb, a8, n8, c8, P8, l8, np8, d8, K8, U8, rfl, hn8, hp8, hv9, hl9⟩
          have HEr := hid her
          have HNx := hid hnx
          have HQ := hid hQ
          clear hkj her hnx hQ HCl9 hRQ hLn hLb hLp hnpX hgj hg9
          refine region_tree_to (Below wr.heap.size wr) 13 #[true, true, true, true, true, true, true, true, true, true, true, true, true, false] 13 (fun a' w' => ∃ (gz : Nat) (a8 : Option Addr) (n8 c8 : Nat) (P8 : Nat → Value) (l8 : Option Addr) (np8 d8 : Nat) (K8 : Nat → Value) (U8 : Nat → Nat → Value), (∃ J : Nat → Value, a' = ⟨#[.slice ar lr cr, .slice asl len csl, .int .i64 (kk : Int), .slice (some ⟨bg, og, none⟩) lg cg, undef, undef, undef, undef, .bool false, .slice a9 M.n c9, .int .i64 0, .pointer (some ⟨g1, 0, none⟩), .pointer (some ⟨g3, 0, none⟩), .int .i64 (o - d), .pointer (some ⟨g4, 0, none⟩), undef, .int .i64 gj, .pointer (some ⟨gz, 0, none⟩), J 18, undef, undef, .slice av0 n cv0, .slice asl len csl, .tuple #[.slice a9 M.n c9, .int .i64 0], .slice ar lr cr, .slice asl len csl, .tuple #[.slice a9 M.n c9, .int .i64 0], .slice a9 M.n c9, .int .i64 0, .bool true, .bool false, .bool false, .int .i64 0, .bool false, .bool false, .bool false, .slice a9 M.n c9, .int .i64 (M.n : Int), .bool false, .bool false, undef, .tuple #[.agg #[.slice b1 0 e1, .slice l1 lr f1], .int .i64 0], .slice ar lr cr, .tuple #[.agg #[.slice b1 0 e1, .slice l1 lr f1], .int .i64 0], .agg #[.slice b1 0 e1, .slice l1 lr f1], .int .i64 0, .int .i64 0, .bool false, .tuple #[.agg #[.slice ab5 M.n cb5, .slice al5 M.np cl5], .slice ao5 (runS M0 (hapL H len)).length co5, .int .i64 0], .agg #[.slice b1 0 e1, .slice l1 lr f1], .slice asl len csl, .tuple #[.agg #[.slice ab5 M.n cb5, .slice al5 M.np cl5], .slice ao5 (runS M0 (hapL H len)).length co5, .int .i64 0], .agg #[.slice ab5 M.n cb5, .slice al5 M.np cl5], .slice ao5 (runS M0 (hapL H len)).length co5, .int .i64 0, .int .i64 0, .bool false, .int .i64 k, .slice a9 M.n c9, .int .i64 (M.n : Int), .int .i64 (kk : Int), .tuple #[.agg #[.slice (some ⟨bv, ov, none⟩) M.n e2, .slice l2 M.np f2], .int .i64 0], .agg #[.slice ab5 M.n cb5, .slice al5 M.np cl5], .int .i64 (kk : Int), .agg #[.int .i64 6, .int .i64 (kk : Int), .int .i64 0, .slice none 0 0, .slice none 0 0, .int .i64 0, .int .i64 0], .tuple #[.agg #[.slice (some ⟨bv, ov, none⟩) M.n e2, .slice l2 M.np f2], .int .i64 0], .agg #[.slice (some ⟨bv, ov, none⟩) M.n e2, .slice l2 M.np f2], .int .i64 0, .int .i64 0, .bool false, undef, undef, .tuple #[.int .i64 (o - d), .int .i64 0], .agg #[.slice (some ⟨bv, ov, none⟩) M.n e2, .slice l2 M.np f2], .int .i64 (kk : Int), .tuple #[.int .i64 (o - d), .int .i64 0], .int .i64 (o - d), .int .i64 0, .pointer (some ⟨g3, 0, none⟩), .pointer (some ⟨g3, 0, none⟩), .slice (some ⟨bv, ov, none⟩) M.n e2, .int .i64 (kk : Int), .pointer (some ⟨bv, ov + kk * 4, none⟩), .pointer (some ⟨bv, ov + kk * 4 + 1, none⟩), .agg #[.int .i64 d, .int .i64 o, .int .i64 sz], .int .i64 0, .bool false, .bool false, .int .i64 (o - d), .pointer (some ⟨g4, 1, none⟩), .int .i64 o, .pointer (some ⟨g4, 0, none⟩), .int .i64 d, .int .i64 (o - d), .bool false, .bool false, .slice (some ⟨bg, og, none⟩) lg cg, .slice (some ⟨bg, og, none⟩) lg cg, .int .i64 (lg : Int), .int .i64 (o - d), .int .i64 (q : Int), .slice (some ⟨bg, og, none⟩) q cg, .int .i64 (q : Int), .int .i64 (j : Int), .bool true, .pointer (some ⟨bg, og + j, none⟩), .int .i64 gj, J 107, J 108, J 109, J 110, J 111, J 112, J 113, J 114, J 115, J 116, .int .i64 er, J 118, u119, u120, u121, undef, undef, undef, undef, undef, undef, undef, undef, undef, undef, undef, undef, undef, undef, undef, undef, undef, undef, undef, undef, undef, undef], []⟩) ∧ LvMade wr w' gz er M.n M.b M.np (putB Q.P kj false) a8 n8 c8 P8 l8 np8 d8 K8 U8) (by kernel_rfl) (by kernel_rfl) (by kernel_rfl) rfl (by simp only [pickO, List.getElem?_cons_zero, List.getElem?_cons_succ]; exact rfl) rfl ?_ ?_
          · obtain ⟨D0, hD0⟩ : ∃ u, wr.drew = u := ⟨_, rfl⟩
            have HD : Hid (Below wr.heap.size wr D0) := by rw [← hD0]; exact drew_below wr
            rw [hD0]
            clear hD0
            have hne : Nonempty (Of (Below wr.heap.size wr)) := ⟨⟨wr, Below.refl _ _⟩⟩
            have F0 : ∀ u : Of (Below wr.heap.size wr), u.val.cell? ⟨g3, 0, none⟩ = some (.slice a7 M.n c7) := fun u => by rw [u.is.cell (cell_lt s0)]; exact s0
            have F1 : ∀ u : Of (Below wr.heap.size wr), u.val.cell? ⟨g3, 1, none⟩ = some (.slice l7 M.np d7) := fun u => by rw [u.is.cell (cell_lt s1)]; exact s1
            refine anyL_readsO (f := 8) (c := 13) (q := [0, 1, 2, 3, 4]) (by simp only [pickO, List.getElem?_cons_zero, List.getElem?_cons_succ]; exact rfl) (by kernel_rfl) (by kernel_rfl) HD.out (by kernel_rfl) (by kernel_rfl) (by kernel_rfl) ?_
            repeat (go_big_quiet_step (fail))
            refine wpQuiet_nil ?_
            clear s0 s1
            refine anyL_pick (f := 7) [5, 11] (by kernel_rfl) (by decide) ?_
            intro i hi
            simp only [List.mem_cons, List.not_mem_nil, or_false] at hi
            rcases hi with rfl | rfl
            · refine ⟨_, rfl, ?_⟩
              intro K hK
              go_wp2_with fail
              refine Calls.mono (CA.out D0) ?_
              rintro e u9 ⟨rfl, hw9⟩
              subst hw9
              go_wp2
              refine ⟨rfl, hK _ _ HD.out ?_⟩
              clear hK K
              refine anyL_readsO (f := 6) (c := 13) (q := [6]) (by simp only [pickO, List.getElem?_cons_zero, List.getElem?_cons_succ]; exact rfl) (by kernel_rfl) (by kernel_rfl) HD.out (by kernel_rfl) (by kernel_rfl) (by kernel_rfl) ?_
              repeat (go_big_quiet_step (fail))
              refine wpQuiet_nil ?_
              refine anyL_pick (f := 5) [7, 11] (by kernel_rfl) (by decide) ?_
              intro i hi
              simp only [List.mem_cons, List.not_mem_nil, or_false] at hi
              rcases hi with rfl | rfl
              · refine ⟨_, rfl, ?_⟩
                intro K hK
                have CU := hid (CR.out u9 HD.out)
                go_wp2_with fail
                refine Calls.mono CU.out ?_
                rintro e u2 ⟨hb, a8, n8, c8, P8, l8, np8, d8, K8, U8, rfl, hn8, hp8, hv9, hl9⟩
                replace HD := hid (HD.out.trans (hb.mono HD.out.size))
                clear hb CU
                go_wp2
                refine ⟨rfl, hK _ _ HD.out ?_⟩
                clear hK K
                refine anyL_readsO (f := 2) (c := 13) (q := [8, 9, 10]) (by simp only [pickO, List.getElem?_cons_zero, List.getElem?_cons_succ]; exact rfl) (by kernel_rfl) (by kernel_rfl) HD.out (by kernel_rfl) (by kernel_rfl) (by kernel_rfl) ?_
                repeat (go_big_quiet_step (fail))
                refine wpQuiet_nil ?_
                refine anyL_pick (f := 1) [11] (by kernel_rfl) (by decide) ?_
                intro i hi
                simp only [List.mem_cons, List.not_mem_nil, or_false] at hi
                subst hi
                refine ⟨_, rfl, ?_⟩
                intro K hK
                go_wp2
                have hb1 := below_alloc u2 (.cells #[.slice none 0 0, .slice none 0 0] 27)
                have k0 := heap_alloc_new u2 (.cells #[.slice none 0 0, .slice none 0 0] 27)
                have lt9 : wr.heap.size ≤ u2.heap.size := HD.out.size
                replace HD := hid (HD.out.trans (hb1.mono HD.out.size))
                obtain ⟨V9, hV9⟩ : ∃ v, World.alloc u2 (.cells #[.slice none 0 0, .slice none 0 0] 27) = v := ⟨_, rfl⟩
                obtain ⟨gz, hgz⟩ : ∃ g, u2.heap.size = g := ⟨_, rfl⟩
                replace hv9 := hv9.up hb1
                replace hl9 := hl9.up hb1
                rw [hV9] at k0 hv9 hl9 HD
                rw [hgz] at k0 lt9
                refine ⟨rfl, hK _ _ (by rw [hV9]; exact HD.out) ?_⟩
                rw [hV9, hgz]
                clear hK K hb1 hgz hV9
                refine anyL_pick (f := 0) [12] (by kernel_rfl) (by decide) ?_
                intro i hi
                simp only [List.mem_cons, List.not_mem_nil, or_false] at hi
                subst hi
                refine ⟨_, rfl, ?_⟩
                intro K hK
                obtain ⟨q0, q1⟩ := two_at k0
                have f0 := frozen_at (i := 0) k0
                have f1 := frozen_at (i := 1) k0
                have PM : Hid (LvMade wr (put2 V9 gz (.slice a8 n8 c8) (.slice l8 np8 d8)) gz er M.n M.b M.np (putB Q.P kj false) a8 n8 c8 P8 l8 np8 d8 K8 U8) := ⟨put2_below HD.out lt9, pt_store k0 hv9 hl9, hn8.out, hp8.out⟩
                unfold put2 at PM
                clear k0 hv9 hl9
                go_wp2
                refine ⟨rfl, hK _ _ PM.out.1 ?_⟩
                clear hK K q0 q1 f0 f1 HD
                refine anyL_end (by kernel_rfl) ?_
                exact ⟨_, _, _, _, _, _, _, _, _, _, tm_all rfl, PM.out⟩
              · refine ⟨_, rfl, ?_⟩
                intro K hK
                go_wp2
                have hb1 := below_alloc u9 (.cells #[.slice none 0 0, .slice none 0 0] 27)
                have k0 := heap_alloc_new u9 (.cells #[.slice none 0 0, .slice none 0 0] 27)
                have lt9 : wr.heap.size ≤ u9.heap.size := HD.out.size
                replace HD := hid (HD.out.trans (hb1.mono HD.out.size))
                obtain ⟨V9, hV9⟩ : ∃ v, World.alloc u9 (.cells #[.slice none 0 0, .slice none 0 0] 27) = v := ⟨_, rfl⟩
                obtain ⟨gz, hgz⟩ : ∃ g, u9.heap.size = g := ⟨_, rfl⟩
                rw [hV9] at k0 HD
                rw [hgz] at k0 lt9
                refine ⟨rfl, hK _ _ (by rw [hV9]; exact HD.out) ?_⟩
                rw [hV9, hgz]
                clear hK K hb1 hgz hV9
                have KB := hid k0
                clear k0
                refine anyL_pick (f := 4) [7] (by kernel_rfl) (by decide) ?_
                intro i hi
                simp only [List.mem_cons, List.not_mem_nil, or_false] at hi
                subst hi
                refine ⟨_, rfl, ?_⟩
                intro K hK
                have CU := hid (CR.out V9 HD.out)
                go_wp2_with fail
                refine Calls.mono CU.out ?_
                rintro e u2 ⟨hb, a8, n8, c8, P8, l8, np8, d8, K8, U8, rfl, hn8, hp8, hv9, hl9⟩
                replace HD := hid (HD.out.trans (hb.mono HD.out.size))
                have k0 := stayB KB.out hb
                clear hb CU KB
                go_wp2
                refine ⟨rfl, hK _ _ HD.out ?_⟩
                clear hK K
                refine anyL_readsO (f := 1) (c := 13) (q := [8, 9, 10]) (by simp only [pickO, List.getElem?_cons_zero, List.getElem?_cons_succ]; exact rfl) (by kernel_rfl) (by kernel_rfl) HD.out (by kernel_rfl) (by kernel_rfl) (by kernel_rfl) ?_
                repeat (go_big_quiet_step (fail))
                refine wpQuiet_nil ?_
                refine anyL_pick (f := 0) [12] (by kernel_rfl) (by decide) ?_
                intro i hi
                simp only [List.mem_cons, List.not_mem_nil, or_false] at hi
                subst hi
                refine ⟨_, rfl, ?_⟩
                intro K hK
                obtain ⟨q0, q1⟩ := two_at k0
                have f0 := frozen_at (i := 0) k0
                have f1 := frozen_at (i := 1) k0
                have PM : Hid (LvMade wr (put2 u2 gz (.slice a8 n8 c8) (.slice l8 np8 d8)) gz er M.n M.b M.np (putB Q.P kj false) a8 n8 c8 P8 l8 np8 d8 K8 U8) := ⟨put2_below HD.out lt9, pt_store k0 hv9 hl9, hn8.out, hp8.out⟩
                unfold put2 at PM
                clear k0 hv9 hl9
                go_wp2
                refine ⟨rfl, hK _ _ PM.out.1 ?_⟩
                clear hK K q0 q1 f0 f1 HD
                refine anyL_end (by kernel_rfl) ?_
                exact ⟨_, _, _, _, _, _, _, _, _, _, tm_all rfl, PM.out⟩
            · refine ⟨_, rfl, ?_⟩
              intro K hK
              go_wp2
              have hb1 := below_alloc D0 (.cells #[.slice none 0 0, .slice none 0 0] 27)
              have k0 := heap_alloc_new D0 (.cells #[.slice none 0 0, .slice none 0 0] 27)
              have lt9 : wr.heap.size ≤ D0.heap.size := HD.out.size
              replace HD := hid (HD.out.trans (hb1.mono HD.out.size))
              obtain ⟨V9, hV9⟩ : ∃ v, World.alloc D0 (.cells #[.slice none 0 0, .slice none 0 0] 27) = v := ⟨_, rfl⟩
              obtain ⟨gz, hgz⟩ : ∃ g, D0.heap.size = g := ⟨_, rfl⟩
              rw [hV9] at k0 HD
              rw [hgz] at k0 lt9
              refine ⟨rfl, hK _ _ (by rw [hV9]; exact HD.out) ?_⟩
              rw [hV9, hgz]
              clear hK K hb1 hgz hV9
              have KB := hid k0
              clear k0
              refine anyL_pick (f := 6) [5] (by kernel_rfl) (by decide) ?_
              intro i hi
              simp only [List.mem_cons, List.not_mem_nil, or_false] at hi
              subst hi
              refine ⟨_, rfl, ?_⟩
              intro K hK
              go_wp2_with fail
              refine Calls.mono (CA.out V9) ?_
              rintro e u9 ⟨rfl, hw9⟩
              subst hw9
              go_wp2
              refine ⟨rfl, hK _ _ HD.out ?_⟩
              clear hK K
              refine anyL_readsO (f := 5) (c := 13) (q := [6]) (by simp only [pickO, List.getElem?_cons_zero, List.getElem?_cons_succ]; exact rfl) (by kernel_rfl) (by kernel_rfl) HD.out (by kernel_rfl) (by kernel_rfl) (by kernel_rfl) ?_
              repeat (go_big_quiet_step (fail))
              refine wpQuiet_nil ?_
              refine anyL_pick (f := 4) [7] (by kernel_rfl) (by decide) ?_
              intro i hi
              simp only [List.mem_cons, List.not_mem_nil, or_false] at hi
              subst hi
              refine ⟨_, rfl, ?_⟩
              intro K hK
              have CU := hid (CR.out u9 HD.out)
              go_wp2_with fail
              refine Calls.mono CU.out ?_
              rintro e u2 ⟨hb, a8, n8, c8, P8, l8, np8, d8, K8, U8, rfl, hn8, hp8, hv9, hl9⟩
              replace HD := hid (HD.out.trans (hb.mono HD.out.size))
              have k0 := stayB KB.out hb
              clear hb CU KB
              go_wp2
              refine ⟨rfl, hK _ _ HD.out ?_⟩
              clear hK K
              refine anyL_readsO (f := 1) (c := 13) (q := [8, 9, 10]) (by simp only [pickO, List.getElem?_cons_zero, List.getElem?_cons_succ]; exact rfl) (by kernel_rfl) (by kernel_rfl) HD.out (by kernel_rfl) (by kernel_rfl) (by kernel_rfl) ?_
              repeat (go_big_quiet_step (fail))
              refine wpQuiet_nil ?_
              refine anyL_pick (f := 0) [12] (by kernel_rfl) (by decide) ?_
              intro i hi
              simp only [List.mem_cons, List.not_mem_nil, or_false] at hi
              subst hi
              refine ⟨_, rfl, ?_⟩
              intro K hK
              obtain ⟨q0, q1⟩ := two_at k0
              have f0 := frozen_at (i := 0) k0
              have f1 := frozen_at (i := 1) k0
              have PM : Hid (LvMade wr (put2 u2 gz (.slice a8 n8 c8) (.slice l8 np8 d8)) gz er M.n M.b M.np (putB Q.P kj false) a8 n8 c8 P8 l8 np8 d8 K8 U8) := ⟨put2_below HD.out lt9, pt_store k0 hv9 hl9, hn8.out, hp8.out⟩
              unfold put2 at PM
              clear k0 hv9 hl9
              go_wp2
              refine ⟨rfl, hK _ _ PM.out.1 ?_⟩
              clear hK K q0 q1 f0 f1 HD
              refine anyL_end (by kernel_rfl) ?_
              exact ⟨_, _, _, _, _, _, _, _, _, _, tm_all rfl, PM.out⟩
          · rintro a' w2 ⟨gz, a8, n8, c8, P8, l8, np8, d8, K8, U8, ⟨J, rfl⟩, hM⟩
            obtain ⟨hb, bx, hn8, hp8⟩ := hM
            have B7 := hid (BJ.out.trans (hb.mono BJ.out.size))
            have XQ := hid (XJ.out.up hb)
            have XB := hid bx
            have HN8 := hid hn8
            have HP8 := hid hp8
            clear hb bx hn8 hp8 CA CR s0 s1 XJ BJ
            obtain ⟨s0, s1⟩ := XQ.out.cells
            obtain ⟨t0, t1⟩ := XB.out.cells
            cases hth : Q.P.th kj with
            | false =>
              have he := HEr.out
              rw [hth, if_neg (by decide)] at he
              subst he
              have hl9 : leaveM Q kj = Q := by unfold leaveM; rw [hth, if_neg (by decide)]
              have HL := hid hl9
              clear hth hl9
              go_wp2
              go_roundw
              case rel => exact ⟨j + 1, a7, c7, PV7, l7, d7, KV7, UV7, by omega, by go_num, B7, by rw [HNx.out, HL.out]; exact XQ⟩
              case measure => simp only [intOf]; omega
            | true =>
              have he := HEr.out
              rw [hth, if_pos rfl] at he
              subst he
              have hn8 := HN8.out
              have hp8 := HP8.out
              rw [if_pos rfl] at hn8 hp8
              have hn9 := hn8.symm
              have hp9 := hp8.symm
              subst hn9 hp9
              have hl9 : (leaveM Q kj).P = putB Q.P kj false := by unfold leaveM; rw [if_pos hth]
              have HL := hid hl9
              obtain ⟨r0, r1, Y9, hY9, hbY, bx⟩ := ms_again XQ.out XB.out.2.1 XB.out.2.2
              have B8 := hid (hbY _ _ HG3.out B7.out)
              have X9 : Hid (MsAt Y9 g3 a8 M.n c8 P8 M.b l8 M.np d8 K8 U8 (leaveM Q kj).P) := by rw [HL.out]; exact bx
              clear hth hl9 hbY bx
              go_wp2
              go_roundw
              case rel => exact ⟨j + 1, a8, c8, P8, l8, d8, K8, U8, by omega, by go_num, B8, by rw [HNx.out]; exact X9⟩
              case measure => simp only [intOf]; omega
        · have hje : q = j := by omega
          subst hje
          have hjn : ¬ (q : Int) < (q : Int) := by omega
          obtain ⟨hCL, hLn, hLb, hLp, hLs⟩ := lvM_all HC3.out G q (kk : Int) (by rw [← HX0.out]; exact hnp1)
          obtain ⟨Q, hQ⟩ : ∃ m, lvM X0 G q = m := ⟨_, rfl⟩
          rw [hQ] at XJ hCL hLn hLb hLp hLs
          rw [← HX0.out] at hLn hLb hLp hLs
          have hQM : Q = ⟨M.n, M.b, M.np, Q.P⟩ := by rw [← hLn, ← hLb, ← hLp]
          rw [hQM] at hCL
          obtain ⟨hf0, hd0, hb0⟩ := (hCL.rest (v := (kk : Int)) ⟨hk1, hk2⟩).2 (by
            have h1 := HSp.out
            have h2 := HQo.out
            show 0 ≤ spN M.b M.np Q.P (kk : Int)
            have h3 : spN M.b M.np P3 (kk : Int) ≤ spN M.b M.np Q.P (kk : Int) + (q : Int) := hLs
            omega)
          have CQ := hid (HO.out.restore _ M.n PV7 M.b _ M.np KV7 UV7 Q.P (kk : Int) wr XJ.out.2.1 XJ.out.2.2)
          have HF0 := hid hf0
          have HB0 := hid hb0
          have HD0 := hid hd0
          obtain ⟨s0, s1⟩ := XJ.out.cells
          unfold meshV at CQ
          obtain ⟨b8, o8, c8, e8, hb8, x8, hi8⟩ := (LS.out.up BJ.out).at HKn.out
          injection e8 with e8 _ e7
          subst e8 e7
          obtain ⟨av, cv, hvv, z1, z2⟩ := id hi8
          rw [hvv] at x8 hi8
          have HI8 := hid hi8
          clear hvv z1 z2 hi8 hf0 hd0 hb0 hCL hLn hLb hLp hLs hQ hQM
          go_wp2_with fail
          refine Calls.mono CQ.out ?_
          rintro e u9 hMr
          obtain ⟨hb, b7, m7, e7, b9, e9, rfl, hm7, hd7, hq7⟩ := rest_open hMr
          rw [show rsE M.n M.b M.np Q.P (kk : Int) = 0 from HF0.out] at hm7 ⊢
          rw [show rsB M.n M.b M.np Q.P (kk : Int) = [] from HB0.out]
          have hsz : M.b.sz kk = ((slL SL kk : Nat) : Int) := (HCs.out kk HKn.out).1
          rw [if_pos rfl, Int.toNat_natCast, hsz] at hm7
          have hm8 : m7 = slL SL kk := by omega
          have B9 := hid (BJ.out.trans (hb.mono BJ.out.size))
          have y8 : u9.cell? ⟨b8, o8 + kk, none⟩ = some (.slice av (slL SL kk) cv) := by rw [hb.cell hb8]; exact x8
          have CE := hid (equal_isl hd7 (HI8.out.up hb))
          rw [show eqB m7 (slL SL kk) (rsD M.b M.np Q.P (kk : Int)) (slX SL kk) = true from decide_eq_true ⟨hm8, fun j hj => by
            have h9 : rsD M.b M.np Q.P (kk : Int) j = C kk j := HD0.out j (by show (j : Int) < M.b.sz ((kk : Int).toNat); rw [Int.toNat_natCast, hsz]; omega)
            rw [h9, (HCs.out kk HKn.out).2]⟩] at CE
          clear hb hMr hm7 hd7 hq7 hsz hm8 CQ s0 s1 x8
          go_wp2_with fail
          refine Calls.mono CE.out ?_
          rintro e y1 ⟨rfl, j1, hy1⟩
          have hb : Below u9.heap.size u9 y1 := by rw [hy1]; exact drewN_up _ _
          have BZ := hid (HB.out.trans ((B9.out.trans (hb.mono B9.out.size)).mono HB.out.size))
          clear hb hy1 CE y8
          go_wp2
          go_ret
          exact ⟨rfl, BZ.out⟩
    · have hn2 := HN2.out
      have hp2 := HP2.out
      rw [if_neg (by decide)] at hn2 hp2
      subst hn2 hp2
      go_wp2
      go_ret
      exact ⟨rfl, HB.out.trans (B4.out.mono HB.out.size)⟩
  · have h1 : (er != 0) = true := by simpa using h0
    go_wp2_with fail
    refine Calls.mono (HJ.out u3) ?_
    rintro e u4 ⟨rfl, hb⟩
    replace HB := hid (HB.out.trans (hb.mono HB.out.size))
    clear hb
    go_wp2
    go_ret
    exact ⟨rfl, HB.out⟩

end Go.Proofs.YtajmnlhfnhbleaaGreat
