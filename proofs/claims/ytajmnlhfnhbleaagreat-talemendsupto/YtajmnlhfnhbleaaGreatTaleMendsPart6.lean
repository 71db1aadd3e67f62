/- Several texts of one proof, in their order. -/
import Derived.Test.YtajmnlhfnhbleaaGreatTSum13
import Derived.Test.YtajmnlhfnhbleaaGreatTSum32
import Derived.Test.YtajmnlhfnhbleaaGreatTaleMendsPart5

namespace Go.Proofs.YtajmnlhfnhbleaaGreat

open Go.RowKit CurveMath
set_option linter.unusedVariables false

def loseH (k : Nat) : Hp := ⟨4, k, 0, 0, dn0, 0, dn0, 0, 0⟩
def goH (k : Nat) : Hp := ⟨2, k, 0, 0, dn0, 0, dn0, 0, 0⟩

section

variable {n : Nat} {b : Bk} {np : Nat} {P : Ps} {k : Nat}

theorem lose_e (hR : MeshR n b np P) (hk : k < np) : doE ⟨n, b, np, P⟩ (loseH k) = 0 := by
  unfold doE msE
  rw [if_pos hR.e]
  unfold happE lonE loseH
  simp
  omega

theorem go_e (hR : MeshR n b np P) (hk : k < np) : doE ⟨n, b, np, P⟩ (goH k) = if P.th k = true then 0 else 6 := by
  unfold doE msE
  rw [if_pos hR.e]
  unfold happE lonE goH
  simp
  omega

theorem lose_m : happM ⟨n, b, np, P⟩ (loseH k) = ⟨n, b, np, putT P k 0 (P.t k)⟩ := by
  unfold happM lonP loseH
  simp

theorem go_m : happM ⟨n, b, np, P⟩ (goH k) = ⟨n, b, np, putB P k false⟩ := by
  unfold happM lonP goH
  simp

theorem ver_of {v : Int} (hR : MeshR n b np P) (hv : 0 ≤ v ∧ v < (n : Int)) : verM n b np P v = 0 := by
  unfold verM
  rw [if_pos hR.e, if_pos hv]

end

set_option maxHeartbeats 8000000 in
set_option maxRecDepth 10000 in
theorem taleSpare_of (hO : MeshOwes) (hW : WorldOwes) (hT : TaleOwes) (vb : Value) (n : Nat) (PV : Nat → Value) (b : Bk) (vl : Value) (np : Nat) (KV : Nat → Value) (UV : Nat → Nat → Value) (P : Ps) (k i : Int) (w : World) (hv : VeSl w w.heap.size vb n PV b) (hl : PsSl w w.heap.size vl np KV UV P) :
    Calls Tryz.prog 9 #[meshV vb vl, .int .i64 k, .int .i64 i] w fun e w' => e = .returned (.bool true) ∧ Below w.heap.size w w' := by
  have HJ : Hid (∀ u : World, _) := fun u => told_any hO.toMeshCore hT u
  have HO := hid hO.toMeshCore
  have HWo := hid hW
  have HT := hid hT
  obtain ⟨ab, cb, rfl, z1, z2⟩ := id hv
  clear z1 z2
  obtain ⟨al, cl, rfl, z1, z2⟩ := id hl
  clear z1 z2
  have hb0 := below_alloc w (.cells #[.slice ab n cb, .slice al np cl] 27)
  have A0 := hid (MsAt.box hv hl)
  obtain ⟨U, hU⟩ : ∃ u, w.alloc (.cells #[.slice ab n cb, .slice al np cl] 27) = u := ⟨_, rfl⟩
  rw [hU] at hb0 A0
  obtain ⟨gx, hgx⟩ : ∃ g, w.heap.size = g := ⟨_, rfl⟩
  have HB := hid hb0
  have A1 : Hid (MsAt U gx ab n cb PV b al np cl KV UV P) := by rw [← hgx]; exact A0.out
  obtain ⟨c0, c1⟩ := A1.out.cells
  have CK := hid (HT.out.spare _ n PV b _ np KV UV P k U A1.out.2.1 A1.out.2.2)
  obtain ⟨S, hS⟩ : ∃ c, spV n b np P k = c := ⟨_, rfl⟩
  obtain ⟨ve, hve⟩ : ∃ c, verM n b np P k = c := ⟨_, rfl⟩
  obtain ⟨vS, hvS⟩ : ∃ v, Value.int .i64 S = v := ⟨_, rfl⟩
  rw [hS, hve, hvS] at CK
  unfold spV at hS
  rw [hve] at hS
  have HS := hid hS
  have HVe := hid hve
  unfold meshV at CK
  clear hb0 A0 hv hl hO hW hT hS hve
  unfold meshV
  go_enter Tryz.func9, Tryz.ntmps9
  go_wp2_with fail
  refine Calls.mono CK.out ?_
  rintro e u1 ⟨rfl, hb⟩
  replace A1 := hid (A1.out.up hb)
  replace HB := hid (HB.out.trans (hb.mono HB.out.size))
  clear hb CK c0 c1 hU hgx
  go_wp2_with fail
  refine Calls.mono (HJ.out u1) ?_
  rintro e u2 ⟨rfl, hb⟩
  replace A1 := hid (A1.out.up hb)
  replace HB := hid (HB.out.trans (hb.mono HB.out.size))
  clear hb
  by_cases h0 : ve = 0
  · subst h0
    obtain ⟨hR, hk0, hkn⟩ := verM_ok HVe.out
    have HR := hid hR
    have hS := HS.out
    rw [if_pos rfl] at hS
    have HS2 := hid hS
    obtain ⟨c0, c1⟩ := A1.out.cells
    have CK := hid (HO.out.restore _ n PV b _ np KV UV P k u2 A1.out.2.1 A1.out.2.2)
    unfold meshV at CK
    have h8 := hR.few
    clear hR hS
    go_wp2_with fail
    refine Calls.mono CK.out ?_
    rintro e u3 hM
    obtain ⟨hb, a1, m1, d1, a2, d2, rfl, _, _, _⟩ := rest_open hM
    replace A1 := hid (A1.out.up hb)
    replace HB := hid (HB.out.trans (hb.mono HB.out.size))
    clear hb hM CK c0 c1
    obtain ⟨q1, hq1⟩ : ∃ q, (rsB n b np P k).length = q := ⟨_, rfl⟩
    rw [hq1]
    clear hq1
    obtain ⟨er, her⟩ : ∃ q, rsE n b np P k = q := ⟨_, rfl⟩
    have HEr : Hid ((S < 0 → er = 7) ∧ (0 ≤ S → er = 0 ∨ er = 9)) := by
      have h := spare_says HR.out ⟨hk0, hkn⟩
      rw [HS2.out, her] at h
      exact h
    rw [her]
    clear her
    go_wp2_with fail
    rename_i K2 hK2 K1 hK1 K0 hK0
    subst hvS
    have REST : ∀ a' w', Below u3.heap.size u3 w' → (∃ J : Nat → Value, a' = ⟨#[.agg #[.slice ab n cb, .slice al np cl], .int .i64 k, .int .i64 i, .pointer (some ⟨gx, 0, none⟩), undef, undef, .bool false, .int .i64 S, .int .i64 0, .slice a1 m1 d1, .slice a2 q1 d2, .int .i64 er, undef, undef, undef, undef, .tuple #[.int .i64 S, .int .i64 0], .agg #[.slice ab n cb, .slice al np cl], .int .i64 k, .tuple #[.int .i64 S, .int .i64 0], .int .i64 S, .int .i64 0, .bool true, .bool false, .bool false, .int .i64 0, .bool false, .bool false, undef, .tuple #[.slice a1 m1 d1, .slice a2 q1 d2, .int .i64 er], .agg #[.slice ab n cb, .slice al np cl], .int .i64 k, .tuple #[.slice a1 m1 d1, .slice a2 q1 d2, .int .i64 er], .slice a1 m1 d1, .slice a2 q1 d2, .int .i64 er, J 36, J 37, J 38, J 39, J 40, J 41, J 42, J 43, J 44, J 45, J 46, J 47, J 48, J 49, J 50, J 51, J 52, undef, undef, undef, undef, undef, undef, undef, undef, undef, undef, undef, undef, undef, undef, undef, undef, undef, undef, undef, undef, undef, undef, undef, undef, undef, undef, undef, undef, undef, undef, undef, undef, undef, undef, undef, undef, undef, undef, undef, undef, undef, undef, undef, undef, undef, undef, undef, undef, undef, undef, undef, undef, undef, undef, undef, undef, undef, undef, undef, undef, undef, undef, undef, undef, undef, undef, undef, undef, undef, undef, undef, undef, undef, undef, undef, undef, undef, undef, undef, undef, undef, undef, undef, undef, undef, undef, undef, undef, undef, undef, undef, undef], []⟩) → K2 a' w' := by
      rintro a' u4 hb ⟨J, rfl⟩
      replace A1 := hid (A1.out.up hb)
      replace HB := hid (HB.out.trans (hb.mono HB.out.size))
      clear hb hK0 hK1
      refine hK2 _ _ ?_
      clear hK2
      obtain ⟨c0, c1⟩ := A1.out.cells
      have hpb := plan_bd HR.out (q := k.toNat) (by omega)
      by_cases hp0 : np = 0
      · subst hp0
        have hSn : S < 0 := by
          have h := HS2.out
          unfold spN at h
          rw [show thereL P k 0 = [] from rfl] at h
          simp at h
          omega
        clear hpb
        go_wp2
        go_ret
        exact ⟨rfl, HB.out⟩
      · clear hpb
        go_wp2_with fail
        refine Calls.mono (at_more i (np : Int) ⟨by omega, by omega⟩ u4) ?_
        rintro e u5 ⟨rfl, hw⟩
        subst hw
        have hi1 := Int.emod_nonneg i (show (np : Int) ≠ 0 by omega)
        have hi2 := Int.emod_lt_of_pos i (show 0 < (np : Int) by omega)
        obtain ⟨kk, hkk⟩ : ∃ j : Nat, i % (np : Int) = (j : Int) := ⟨(i % (np : Int)).toNat, by omega⟩
        rw [hkk] at hi1 hi2
        rw [hkk]
        have hkp : kk < np := by omega
        have HKp := hid hkp
        clear hkk hi1
        have CD := hid (HWo.out.does _ n PV b _ np KV UV P (loseH kk) (.slice none 0 0) (.slice none 0 0) u5 A1.out.2.1 A1.out.2.2 ⟨isl_zero _ _, isl_zero _ _⟩)
        rw [lose_e HR.out hkp, lose_m] at CD
        unfold meshV hapV loseH at CD
        go_wp2_with fail
        refine Calls.mono CD.out ?_
        rintro e u6 hM
        obtain ⟨hb, b1, n1, e1, PV1, l1, np1, f1, KV1, UV1, rfl, hn1, hp1, hv9, hl9⟩ := mesh_open (show MeshPost u5 0 n b np (putT P kk 0 (P.t kk)) e u6 from hM)
        rw [if_pos rfl] at hn1 hp1
        have hn2 := hn1.symm
        have hp2 := hp1.symm
        subst hn2 hp2
        obtain ⟨V1, g1, hV1, hg1, q0, q1, f0, f2, Y1, hY1, hb1, bx⟩ := ms_boxed hv9 hl9
        replace hb := hb.trans (hb1.mono hb.size)
        replace A1 := hid (A1.out.up hb)
        replace HB := hid (HB.out.trans (hb.mono HB.out.size))
        have X1 := hid bx
        clear hb hb1 bx hv9 hl9 hM CD c0 c1
        have hR1 : MeshR n b np (putT P kk 0 (P.t kk)) := HR.out.putT (HR.out.peer kk hkp).none
        have HR1 := hid hR1
        obtain ⟨d0, d1⟩ := X1.out.cells
        have CK := hid (HT.out.spare _ n PV1 b _ np KV1 UV1 _ k Y1 X1.out.2.1 X1.out.2.2)
        unfold spV at CK
        rw [ver_of hR1 ⟨hk0, hkn⟩, if_pos rfl] at CK
        obtain ⟨T, hT⟩ : ∃ c, spN b np (putT P kk 0 (P.t kk)) k = c := ⟨_, rfl⟩
        have hsl := spare_lost (v := k) HR.out hkp
        rw [HS2.out, hT] at hsl
        rw [hT] at CK
        unfold meshV at CK
        have HSl := hid hsl
        have HTe := hid hT
        obtain ⟨c0, c1⟩ := A1.out.cells
        clear hR1 hsl hT
        go_wp2_with fail
        refine Calls.mono CK.out ?_
        rintro e u7 ⟨rfl, hb⟩
        replace A1 := hid (A1.out.up hb)
        replace HB := hid (HB.out.trans (hb.mono HB.out.size))
        clear hb CK d0 d1 c0 c1 q0 q1 f0 f2 hV1 hg1 hY1 X1
        obtain ⟨c0, c1⟩ := A1.out.cells
        obtain ⟨bl, off, rfl, hbl, g0, g1, g2, g3⟩ := A1.out.2.2.at hkp
        have G3 := hid g3
        obtain ⟨ak, ck, hke, _, _⟩ := g3
        rw [hke] at g2 G3
        have CF := hid (peFind (P.th kk) (P.rm kk) _ (P.m kk) (UV kk) (P.t kk) k u7 G3.out)
        obtain ⟨th, hth⟩ : ∃ c, P.th kk = c := ⟨_, rfl⟩
        have HTh := hid hth
        obtain ⟨fa, hfa⟩ : ∃ x, fstAt (P.t kk).V k (P.m kk) 0 = x := ⟨_, rfl⟩
        have HHk : Hid (hasK P k kk = (th && decide (0 ≤ fa))) := by
          show _ = _
          unfold hasK
          rw [hth, hfa]
        rw [hth, hfa] at CF
        rw [hth] at g0
        unfold peerV at CF
        have hsb : -4 ≤ S ∧ S ≤ 8 := by
          have h := HS2.out
          have h9 := plan_bd HR.out (q := k.toNat) (by omega)
          have h7 := thAll_len HR.out k np (Nat.le_refl _)
          unfold spN thereL at h
          omega
        obtain ⟨hsb1, hsb2⟩ := hsb
        have h1 : ¬ T > S := by have := HSl.out.1; omega
        have h2 : ¬ T < S - 1 := by have := HSl.out.2.1; omega
        clear hth hfa hke
        have hTS : T = S ∨ (T = S - 1 ∧ th = true ∧ 0 ≤ fa) := by
          by_cases h : hasK P k kk = true
          · rw [HHk.out, Bool.and_eq_true, decide_eq_true_iff] at h
            have := HSl.out
            by_cases e : T = S
            · exact Or.inl e
            · exact Or.inr ⟨by omega, h.1, h.2⟩
          · exact Or.inl (HSl.out.2.2 (by simpa using h))
        clear HSl HHk
        rcases hTS with h3 | ⟨h3, h9, h4⟩
        have h5 : ¬ T < S := by omega
        have HX := hid h3
        have HE := hid h3
        have A2 := A1
        have HB2 := HB
        clear h3
        go_wp2_with fail
        rotate_left
        have h5 : T < S := by omega
        have h6 : ¬ fa < 0 := by omega
        have HX := hid h9
        have HE := hid h3
        rw [h9] at g0 CF
        clear h3 h4 h9
        go_wp2_with fail
        refine Calls.mono CF.out ?_
        rintro e u8 ⟨rfl, hb⟩
        have A2 := hid (A1.out.up hb)
        have HB2 := hid (HB.out.trans (hb.mono HB.out.size))
        clear hb c0 c1
        obtain ⟨c0, c1⟩ := A2.out.cells
        go_wp2_with fail
        all_goals
          have CL := hid (HWo.out.does _ n PV b _ np KV UV P (goH kk) (.slice none 0 0) (.slice none 0 0) _ A2.out.2.1 A2.out.2.2 ⟨isl_zero _ _, isl_zero _ _⟩)
          rw [go_e HR.out hkp, go_m, HTh.out] at CL
          unfold meshV hapV goH at CL
          refine Calls.mono CL.out ?_
          rintro e u9 hM
          clear CL CF c0 c1 g0 g1 g2
          obtain ⟨hb, b1, n1, e1, PV1, l1, np1, f1, KV1, UV1, rfl, hn1, hp1, hv9, hl9⟩ := mesh_open (show MeshPost _ (if th = true then 0 else 6) n b np (putB P kk false) e u9 from hM)
          obtain ⟨V1, g1, hV1, hg1, q0, q1, f0, f2, Y1, hY1, hb1, bx⟩ := ms_boxed hv9 hl9
          replace hb := hb.trans (hb1.mono hb.size)
          replace A2 := hid (A2.out.up hb)
          replace HB2 := hid (HB2.out.trans (hb.mono HB2.out.size))
          have X1 := hid bx
          clear hb hb1 bx hv9 hl9 hM
          cases th with
          | false =>
            obtain ⟨bl', off', e9, _, r0, _, _, _⟩ := A2.out.2.2.at hkp
            injection e9 with e9
            injection e9 with e8 e9
            subst e8 e9
            rw [HTh.out] at r0
            have := HX.out
            have hn2 : n1 = 0 := by simpa using hn1
            have hp2 : np1 = 0 := by simpa using hp1
            clear hn1 hp1
            subst hn2 hp2
            rw [if_neg (by decide)]
            obtain ⟨c0, c1⟩ := A2.out.cells
            first
            | (cases this; done)
            | (go_wp2
               go_ret
               exact ⟨rfl, HB2.out⟩)
          | true =>
            rw [if_pos rfl]
            have hn2 : n = n1 := by simpa using hn1.symm
            have hp2 : np = np1 := by simpa using hp1.symm
            clear hn1 hp1
            subst hn2 hp2
            obtain ⟨d0, d1⟩ := X1.out.cells
            have CK := hid (HT.out.spare _ n PV1 b _ np KV1 UV1 _ k Y1 X1.out.2.1 X1.out.2.2)
            unfold spV at CK
            rw [ver_of (HR.out.putB kk false) ⟨hk0, hkn⟩, if_pos rfl, spare_gone HR.out hkp, HTe.out] at CK
            unfold meshV at CK
            go_wp2_with fail
            refine Calls.mono CK.out ?_
            rintro e u7 ⟨rfl, hb⟩
            replace HB2 := hid (HB2.out.trans (hb.mono HB2.out.size))
            clear hb CK d0 d1 q0 q1 f0 f2 hV1 hg1 hY1 X1
            go_wp2
            go_ret
            exact ⟨by have e9 := HE.out; simp [e9], HB2.out⟩
    clear hK2
    rcases Int.lt_or_le S 0 with hs | hs
    · obtain rfl := HEr.out.1 hs
      go_wp2
      exact REST _ _ (by first | exact Below.refl _ _ | exact drew_below u3) (tm_all rfl)
    · have hs2 : ¬ S < 0 := by omega
      rcases HEr.out.2 hs with rfl | rfl
      · go_wp2
        exact REST _ _ (by first | exact Below.refl _ _ | exact drew_below u3) (tm_all rfl)
      · go_wp2
        exact REST _ _ (by first | exact Below.refl _ _ | exact drew_below u3) (tm_all rfl)
  · have h1 : (ve != 0) = true := by simpa using h0
    go_wp2_with fail
    refine Calls.mono (HJ.out u2) ?_
    rintro e u3 ⟨rfl, hb⟩
    replace HB := hid (HB.out.trans (hb.mono HB.out.size))
    clear hb
    go_wp2
    go_ret
    exact ⟨rfl, HB.out⟩

end Go.Proofs.YtajmnlhfnhbleaaGreat
