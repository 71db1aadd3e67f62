/- Several texts of one proof, in their order. -/
import Derived.Test.YtikchpffkhohlaaGreatMeshSavesPart3

namespace Go.Proofs.YtikchpffkhohlaaGreat

open Go.RowKit CurveMath
set_option linter.unusedVariables false

set_option maxHeartbeats 16000000 in
set_option maxRecDepth 10000 in
theorem meshSaves_of (hO : MeshOwes) (vb : Value) (n : Nat) (PV : Nat → Value) (b : Bk) (vl : Value) (np : Nat) (KV : Nat → Value) (UV : Nat → Nat → Value) (P : Ps) (vd : Value) (len : Nat) (D : Nat → Int) (vp : Value) (lp : Nat) (X : Nat → Int) (need of sz : Int) (vg : Value) (lg : Nat) (G : Nat → Bool) (old : Int) (w : World)
    (hv : VeSl w w.heap.size vb n PV b) (hl : PsSl w w.heap.size vl np KV UV P) (hd : IntSl w w.heap.size vd len D) (hp : IntSl w w.heap.size vp lp X) (hg : BoSl w w.heap.size vg lg G) :
    Calls Tryz.prog 4 #[meshV vb vl, vd, vp, planV need of sz, vg, .int .i64 old] w fun e w' => e = .returned (.bool true) ∧ Below w.heap.size w w' := by
  have HO := hid hO
  have HW : Hid (∀ u : World, _) := fun u => woven_any hO u
  have HV := hid hv
  have HL := hid hl
  have A3 := hid hd
  have A4 := hid hp
  have HG := hid hg
  obtain ⟨ab, cb, rfl, _, _⟩ := hv
  obtain ⟨al, cl, rfl, _, _⟩ := hl
  obtain ⟨ad, cd, rfl, _, _⟩ := hd
  obtain ⟨ap, cp, rfl, _, _⟩ := hp
  obtain ⟨ag, cg, rfl, _⟩ := hg
  have hb0 : Below w.heap.size w ((w.alloc (.cells #[.slice ab n cb, .slice al np cl] 27)).alloc (.cells #[.int .i64 need, .int .i64 of, .int .i64 sz] 30)) := ((Below.refl w.heap.size w).alloc (Nat.le_refl _) _).alloc (by simp) _
  have k0 := heap_two_old w (.cells #[.slice ab n cb, .slice al np cl] 27) (.cells #[.int .i64 need, .int .i64 of, .int .i64 sz] 30)
  have k1 := heap_two_new w (.cells #[.slice ab n cb, .slice al np cl] 27) (.cells #[.int .i64 need, .int .i64 of, .int .i64 sz] 30)
  obtain ⟨U, hU⟩ : ∃ u, (w.alloc (.cells #[.slice ab n cb, .slice al np cl] 27)).alloc (.cells #[.int .i64 need, .int .i64 of, .int .i64 sz] 30) = u := ⟨_, rfl⟩
  rw [hU] at hb0 k0 k1
  have HB := hid hb0
  have A0 : Hid (MsAt U w.heap.size ab n cb PV b al np cl KV UV P) := ⟨k0, HV.out.up hb0, HL.out.up hb0⟩
  have A1 : Hid (U.heap[w.heap.size + 1]? = some (.cells #[.int .i64 need, .int .i64 of, .int .i64 sz] 30 (0, 0))) := k1
  have D0 := A3
  replace A3 := hid (A3.out.up hb0)
  replace A4 := hid (A4.out.up hb0)
  clear hb0 k0 k1 HV HL hO
  obtain ⟨c0, c1⟩ := A0.out.cells
  obtain ⟨p0, p1, p2⟩ := three_at A1.out
  have CK := hid (HO.out.save _ n PV b _ np KV UV P _ len D _ lp X need of U A0.out.2.1 A0.out.2.2 A3.out A4.out)
  unfold meshV at CK
  unfold meshV planV
  go_enter Tryz.func4, Tryz.ntmps4
  go_wp2_with fail
  refine Calls.mono CK.out ?_
  rintro e u1 hM
  obtain ⟨hb, ab1, n1, cb1, PV1, al1, np1, cl1, KV1, UV1, rfl, hn1, hp1, hv9, hl9, hw9⟩ := mesh_openN hM
  obtain ⟨er, her⟩ : ∃ c, saveE n b np P need of len D lp X = c := ⟨_, rfl⟩
  rw [her] at hn1 hp1
  rw [her]
  have HEr := hid her
  have hb2 := below_alloc u1 (.cells #[.slice ab1 n1 cb1, .slice al1 np1 cl1] 27)
  have hx := MsAt.box hv9 hl9
  have hnw : NewP w.heap.size (u1.alloc (.cells #[.slice ab1 n1 cb1, .slice al1 np1 cl1] 27)) (.slice al1 np1 cl1) np1 KV1 UV1 (saveP n np P need of len D) := (hw9.mono HB.out.size).up hb2
  have hlo : ∀ bl off, al1 = some ⟨bl, off, none⟩ → bl ≠ u1.heap.size := fun bl off e => by
    have := (hw9.1 _ _ _ (by rw [e])).2.1
    show bl ≠ u1.heap.size
    have h9 : bl < u1.heap.size := this
    omega
  obtain ⟨V1, hV1⟩ : ∃ v, World.alloc u1 (.cells #[.slice ab1 n1 cb1, .slice al1 np1 cl1] 27) = v := ⟨_, rfl⟩
  rw [hV1] at hb2 hx hnw
  replace hb := hb.trans (hb2.mono hb.size)
  replace HB := hid (HB.out.trans (hb.mono HB.out.size))
  replace A0 := hid (A0.out.up hb)
  replace A1 := hid (stayB A1.out hb)
  obtain ⟨gx, hgx⟩ : ∃ g, u1.heap.size = g := ⟨_, rfl⟩
  rw [hgx] at hx hlo
  have J : Hid (SvInv w V1 gx ab1 n1 cb1 PV1 (saveB n b need of len lp X) al1 np1 cl1 KV1 UV1 (saveP n np P need of len D)) := ⟨HB.out, hx, hnw, hlo⟩
  have HN1 := hid hn1
  have HP1 := hid hp1
  clear hM hb hb2 hx hnw hlo hw9 CK hv9 hl9 her c0 c1 p0 p1 p2 hU hn1 hp1 A3 A4
  go_wp2_with fail
  refine Calls.mono (HW.out V1) ?_
  rintro e u2 ⟨rfl, hb⟩
  replace HB := hid (HB.out.trans (hb.mono HB.out.size))
  replace A0 := hid (A0.out.up hb)
  replace A1 := hid (stayB A1.out hb)
  replace J := hid (J.out.up hb)
  clear hb hV1
  by_cases hc0 : er = 0
  · subst hc0
    have HS := hid (saveE_ok HEr.out)
    obtain rfl : n1 = n + 1 := by have := HN1.out; rw [if_pos rfl] at this; exact this
    obtain rfl : np1 = np := by have := HP1.out; rw [if_pos rfl] at this; exact this
    have h8 : np1 ≤ 8 := HS.out.mesh.few
    have HE1 := hid HS.out.right.e
    have HEl : Hid (∀ q : Int, 0 ≤ q ∧ q < (n : Int) → _) := fun q hq => HS.out.elder hq
    have HNw : Hid (∀ t : Nat → Bool, _) := fun t => HS.out.newer t
    have HFs : Hid (∀ k, k < np1 → P.th k = true → _) := fun k hk ht => save_fst HS.out hk ht
    have hn12 : n + 1 ≤ 12 := (right_of HS.out.right.book).le
    have hsz3 : (saveB n b need of len lp X).sz (n : Int).toNat = (len : Int) := by simp [saveB, snocB]
    obtain ⟨B', hB'⟩ : ∃ q, saveB n b need of len lp X = q := ⟨_, rfl⟩
    obtain ⟨Z, hZ⟩ : ∃ q, saveP n np1 P need of len D = q := ⟨_, rfl⟩
    have hZt : Z.th = P.th := by rw [← hZ]; rfl
    rw [hB', hZ] at J HE1
    rw [hB'] at hsz3
    simp only [hB', hZ] at HEl HNw HFs
    have HZt := hid hZt
    have HSz := hid hsz3
    have HOldSz : Hid (∀ q : Int, 0 ≤ q ∧ q < (n : Int) → B'.sz q.toNat = b.sz q.toNat) := fun q hq => by
      have hne : q.toNat ≠ n := by omega
      rw [← hB']
      simp [saveB, snocB, hne]
    clear hB' hZ hZt hsz3 HN1 HP1 HEr
    obtain ⟨c0, c1⟩ := J.out.x.cells
    obtain ⟨d0, d1⟩ := A0.out.cells
    have CK := hid (HO.out.check _ (n + 1) PV1 B' _ np1 KV1 UV1 Z u2 J.out.x.2.1 J.out.x.2.2)
    rw [HE1.out] at CK
    unfold meshV at CK
    go_wp2_with fail
    refine Calls.mono CK.out ?_
    rintro e u3 ⟨rfl, hb⟩
    replace HB := hid (HB.out.trans (hb.mono HB.out.size))
    replace A0 := hid (A0.out.up hb)
    replace A1 := hid (stayB A1.out hb)
    replace J := hid (J.out.up hb)
    clear hb CK c0 c1 d0 d1
    obtain ⟨c0, c1⟩ := J.out.x.cells
    have hln : (((n + 1 : Nat) : Int) != (n : Int) + 1) = false := by rw [bne_eq_false_iff_eq]; omega
    by_cases hn0 : n = 0
    · have hni : ¬ (0 : Int) < (n : Int) := by omega
      have hd61 : decide ((0 : Int) < (n : Int)) = false := decide_eq_false hni
      clear hn0
      have J0 : Hid (SvInv w u3 gx ab1 (n + 1) cb1 PV1 B' al1 np1 cl1 KV1 UV1 (goP Z (tI P lg G 0))) := by
        rw [show goP Z (tI P lg G 0) = Z by rw [tI_zero, ← HZt.out]; rfl]
        exact J.out
      have HPl : Hid (u3.heap[w.heap.size + 1]? = some (.cells #[.int .i64 need, .int .i64 of, .int .i64 sz] 30 (0, 0))) := A1.out
      go_wp2
      clear c0 c1 hni hd61
      try generalize decide (0 < n) = z61
      go_loopw [22, 97] (fun cv iv wr => ∃ i : Nat, i ≤ np1 ∧ cv = .int .i64 ((hereL n np1 P of (tK P lg G) i).length : Nat) ∧ iv = .int .i64 i ∧ Hid (SvInv w wr gx ab1 (n + 1) cb1 PV1 B' al1 np1 cl1 KV1 UV1 (goP Z (tI P lg G i))) ∧ Hid (Below u3.heap.size u3 wr ∨ True) ∧ Hid (wr.heap[w.heap.size + 1]? = some (.cells #[.int .i64 need, .int .i64 of, .int .i64 sz] 30 (0, 0)))) (fun _ iv _ => np1 - (intOf iv).toNat)
      case atStart => exact ⟨0, Nat.zero_le _, rfl, rfl, J0, Or.inr trivial, HPl⟩
      case round =>
        obtain ⟨i, hi, rfl, rfl, J, _, HPl⟩ := hrel
        by_cases hlt : i < np1
        · have hii : (i : Int) < (np1 : Int) := by omega
          obtain ⟨bl, off, ak, ck, hal, ⟨c0, c1⟩, ⟨g0, f0⟩, g1, g2, g3⟩ := J.out.cells hlt
          have hth : (goP Z (tI P lg G i)).th i = P.th i := by show tI P lg G i i = P.th i; unfold tI; rw [if_neg (by omega)]
          rw [hth] at g0
          subst hal
          have G3 := hid g3
          have hcnt := here_step n np1 P of (tK P lg G) i
          have hgv := HFs.out i hlt
          have HCnt := hid hcnt
          have HGv := hid hgv
          clear g3 hth hcnt hgv
          have hlen8 : (hereL n np1 P of (tK P lg G) i).length ≤ i := by
            unfold hereL
            rw [List.length_map]
            exact Nat.le_trans (List.length_filter_le _ _) (by simp)
          obtain ⟨ct, hct⟩ : ∃ c, (hereL n np1 P of (tK P lg G) i).length = c := ⟨_, rfl⟩
          rw [hct] at HCnt hlen8
          rw [hct]
          clear hct
          by_cases hgone : (decide (i < lg) && G i) = true
          · rw [Bool.and_eq_true, decide_eq_true_iff] at hgone
            obtain ⟨hil, hGi⟩ := hgone
            obtain ⟨ad2, cp2, he, h2⟩ := HG.out
            injection he with e1 _ e3
            subst e1 e3
            rcases h2 with h2 | ⟨bg, og, rfl, hbg, h5⟩
            · omega
            have hgc : wr.cell? ⟨bg, og + i, none⟩ = some (.bool true) := by rw [J.out.below.cell hbg, h5 i hil, hGi]
            have hil2 : (i : Int) < (lg : Int) := by omega
            have hT : tK P lg G i = false := by unfold tK; rw [decide_eq_true hil, hGi]; simp
            have hst : goP (goP Z (tI P lg G i)) (fun q => if q = i then false else (goP Z (tI P lg G i)).th q) = goP Z (tI P lg G (i + 1)) := by rw [tI_go hT]; rfl
            have JG := J.out.goes hlt
            rw [hst] at JG
            have hne9 : w.heap.size + 1 ≠ bl := fun e9 => by
              have h7 := (J.out.new.1 _ _ _ rfl).1
              have h6 : wr.cell? ⟨w.heap.size + 1, off + i * 3, none⟩ = some (.bool (P.th i)) := by rw [e9]; exact g0
              have h4 := HPl.out
              unfold World.cell? at h6
              rw [h4] at h6
              rcases (show off + i * 3 = 0 ∨ off + i * 3 = 1 ∨ off + i * 3 = 2 ∨ 3 ≤ off + i * 3 by omega) with h | h | h | h
              · simp [h] at h6
              · simp [h] at h6
              · simp [h] at h6
              · simp at h6
                rw [List.getElem?_eq_none (by simp; omega)] at h6
                cases h6
            have HPl2 : Hid ((wr.setCell ⟨bl, off + i * 3, none⟩ (.bool false)).heap[w.heap.size + 1]? = some (.cells #[.int .i64 need, .int .i64 of, .int .i64 sz] 30 (0, 0))) := by
              show _ = _
              rw [Below.heap_setCell _ _ _ _ (by show w.heap.size + 1 ≠ bl; exact hne9)]; exact HPl.out
            have HJG := hid JG
            obtain ⟨bl', off', ak', ck', hal', ⟨c0', c1'⟩, ⟨g0', _⟩, _⟩ := JG.cells hlt
            injection hal' with hal'
            injection hal' with ea eb
            subst ea eb
            have hth : (goP Z (tI P lg G (i + 1))).th i = false := by show tI P lg G (i + 1) i = false; unfold tI; rw [if_pos (by omega), hT]
            rw [hth] at g0'
            have hcn : (hereL n np1 P of (tK P lg G) (i + 1)).length = ct := by rw [HCnt.out]; unfold hereB; rw [hT, Bool.false_and, if_neg (by decide)]; rfl
            have HCn := hid hcn
            clear JG hst hth hne9 h5 hcn hT hGi
            go_wp2
            go_roundw
            case rel => exact ⟨i + 1, by omega, by rw [HCn.out], by go_num, HJG, Or.inr trivial, HPl2⟩
            case measure => simp only [intOf]; omega
          · have hT : tK P lg G i = P.th i := by unfold tK; rw [Bool.not_eq_true] at hgone; rw [hgone]; simp
            have HT := hid hT
            have hst := tI_stay hT
            have J2 : Hid (SvInv w wr gx ab1 (n + 1) cb1 PV1 B' (some ⟨bl, off, none⟩) np1 cl1 KV1 UV1 (goP Z (tI P lg G (i + 1)))) := by rw [hst]; exact J.out
            have HHe : Hid (hereB n np1 P of (tK P lg G) i = (P.th i && decide (0 ≤ gvn n np1 P of i))) := by show _ = _; unfold hereB; rw [HT.out]
            clear hT hst
            by_cases hil : i < lg
            · have hGi : G i = false := by
                cases h : G i with
                | false => rfl
                | true => exact absurd (by rw [decide_eq_true hil, h]; rfl) hgone
              obtain ⟨ad2, cp2, he, h2⟩ := HG.out
              injection he with e1 _ e3
              subst e1 e3
              rcases h2 with h2 | ⟨bg, og, rfl, hbg, h5⟩
              · omega
              have hgc : wr.cell? ⟨bg, og + i, none⟩ = some (.bool false) := by rw [J.out.below.cell hbg, h5 i hil, hGi]
              have hil2 : (i : Int) < (lg : Int) := by omega
              clear h5 hGi hgone
              cases hti : P.th i with
              | false =>
                rw [hti] at g0 HHe
                have hcn : (hereL n np1 P of (tK P lg G) (i + 1)).length = ct := by rw [HCnt.out, HHe.out, Bool.false_and, if_neg (by decide)]; rfl
                have HCn := hid hcn
                clear hcn hti
                go_wp2
                go_roundw
                case rel => exact ⟨i + 1, by omega, by rw [HCn.out], by go_num, J2, Or.inr trivial, HPl⟩
                case measure => simp only [intOf]; omega
              | true =>
                rw [hti] at g0 HHe
                have hgv := HGv.out hti
                have CF := hid (peFind true (Z.rm i) _ (Z.m i) (UV1 i) (Z.t i) (n : Int) wr G3.out)
                obtain ⟨fa, hfa⟩ : ∃ x, fstAt (Z.t i).V (n : Int) (Z.m i) 0 = x := ⟨_, rfl⟩
                rw [hfa] at CF hgv
                have g1' : wr.cell? ⟨bl, off + i * 3 + 1, none⟩ = some (.int .i64 (Z.rm i)) := g1
                have g2' : wr.cell? ⟨bl, off + i * 3 + 2, none⟩ = some (.slice ak (Z.m i) ck) := g2
                unfold peerV at CF
                have CF2 : Hid (Calls Tryz.prog 25 #[.agg #[.bool true, .int .i64 (Z.rm i), .slice ak (Z.m i) ck], .int .i64 (n : Int)] wr fun e w' => e = .returned (.int .i64 fa) ∧ Below wr.heap.size wr w') := CF.out
                clear hfa hti CF g1 g2
                go_wp2_with fail
                refine Calls.mono CF2.out ?_
                rintro e y1 ⟨rfl, hb⟩
                replace J2 := hid (J2.out.up hb)
                replace HPl := hid (stayB HPl.out hb)
                clear hb CF2 c0 c1 g0 f0 g1' g2'
                by_cases hf : 0 ≤ fa
                · have hcn : (hereL n np1 P of (tK P lg G) (i + 1)).length = ct + 1 := by
                    rw [HCnt.out, HHe.out, Bool.true_and, ← hgv, decide_eq_true hf, if_pos rfl]
                  have HCn := hid hcn
                  clear hcn hgv
                  go_wp2
                  go_roundw
                  case rel => exact ⟨i + 1, by omega, by rw [HCn.out]; go_num, by go_num, J2, Or.inr trivial, HPl⟩
                  case measure => simp only [intOf]; omega
                · have hcn : (hereL n np1 P of (tK P lg G) (i + 1)).length = ct := by
                    rw [HCnt.out, HHe.out, Bool.true_and, ← hgv, decide_eq_false hf, if_neg (by decide)]; rfl
                  have HCn := hid hcn
                  have hf2 : fa < 0 := by omega
                  clear hcn hgv hf
                  go_wp2
                  go_roundw
                  case rel => exact ⟨i + 1, by omega, by rw [HCn.out], by go_num, J2, Or.inr trivial, HPl⟩
                  case measure => simp only [intOf]; omega
            · have hil2 : ¬ (i : Int) < (lg : Int) := by omega
              clear hgone
              cases hti : P.th i with
              | false =>
                rw [hti] at g0 HHe
                have hcn : (hereL n np1 P of (tK P lg G) (i + 1)).length = ct := by rw [HCnt.out, HHe.out, Bool.false_and, if_neg (by decide)]; rfl
                have HCn := hid hcn
                clear hcn hti
                go_wp2
                go_roundw
                case rel => exact ⟨i + 1, by omega, by rw [HCn.out], by go_num, J2, Or.inr trivial, HPl⟩
                case measure => simp only [intOf]; omega
              | true =>
                rw [hti] at g0 HHe
                have hgv := HGv.out hti
                have CF := hid (peFind true (Z.rm i) _ (Z.m i) (UV1 i) (Z.t i) (n : Int) wr G3.out)
                obtain ⟨fa, hfa⟩ : ∃ x, fstAt (Z.t i).V (n : Int) (Z.m i) 0 = x := ⟨_, rfl⟩
                rw [hfa] at CF hgv
                have g1' : wr.cell? ⟨bl, off + i * 3 + 1, none⟩ = some (.int .i64 (Z.rm i)) := g1
                have g2' : wr.cell? ⟨bl, off + i * 3 + 2, none⟩ = some (.slice ak (Z.m i) ck) := g2
                unfold peerV at CF
                have CF2 : Hid (Calls Tryz.prog 25 #[.agg #[.bool true, .int .i64 (Z.rm i), .slice ak (Z.m i) ck], .int .i64 (n : Int)] wr fun e w' => e = .returned (.int .i64 fa) ∧ Below wr.heap.size wr w') := CF.out
                clear hfa hti CF g1 g2
                go_wp2_with fail
                refine Calls.mono CF2.out ?_
                rintro e y1 ⟨rfl, hb⟩
                replace J2 := hid (J2.out.up hb)
                replace HPl := hid (stayB HPl.out hb)
                clear hb CF2 c0 c1 g0 f0 g1' g2'
                by_cases hf : 0 ≤ fa
                · have hcn : (hereL n np1 P of (tK P lg G) (i + 1)).length = ct + 1 := by
                    rw [HCnt.out, HHe.out, Bool.true_and, ← hgv, decide_eq_true hf, if_pos rfl]
                  have HCn := hid hcn
                  clear hcn hgv
                  go_wp2
                  go_roundw
                  case rel => exact ⟨i + 1, by omega, by rw [HCn.out]; go_num, by go_num, J2, Or.inr trivial, HPl⟩
                  case measure => simp only [intOf]; omega
                · have hcn : (hereL n np1 P of (tK P lg G) (i + 1)).length = ct := by
                    rw [HCnt.out, HHe.out, Bool.true_and, ← hgv, decide_eq_false hf, if_neg (by decide)]; rfl
                  have HCn := hid hcn
                  have hf2 : fa < 0 := by omega
                  clear hcn hgv hf
                  go_wp2
                  go_roundw
                  case rel => exact ⟨i + 1, by omega, by rw [HCn.out], by go_num, J2, Or.inr trivial, HPl⟩
                  case measure => simp only [intOf]; omega
        · have hie : np1 = i := by omega
          subst hie
          have hN := HNw.out (tI P lg G np1)
          rw [here_count] at hN
          obtain ⟨hN1, hN2⟩ := hN
          obtain ⟨ct, hct⟩ : ∃ c, (hereL n np1 P of (tK P lg G) np1).length = c := ⟨_, rfl⟩
          rw [hct] at hN1 hN2
          rw [hct]
          have H1 := hid hN1
          have H2 := hid hN2
          obtain ⟨c0, c1⟩ := J.out.x.cells
          obtain ⟨p0, p1, p2⟩ := three_at HPl.out
          have CK := hid (HO.out.restore _ (n + 1) PV1 B' _ np1 KV1 UV1 (goP Z (tI P lg G np1)) (n : Int) wr J.out.x.2.1 J.out.x.2.2)
          unfold meshV at CK
          clear hN1 hN2 hct
          go_wp2_with fail
          refine Calls.mono CK.out ?_
          rintro e u9 hM
          obtain ⟨hb, a9, m9, c9, b9, e9, rfl, hm9, hr9, hs9⟩ := rest_open hM
          have HBe := hid (J.out.below.trans (hb.mono J.out.below.size))
          have DD := hid (D0.out.up HBe.out)
          replace HPl := hid (stayB HPl.out hb)
          by_cases hcn : (ct : Int) < need
          · have he := H1.out hcn
            rw [he]
            clear hM hb CK hm9 hr9 hs9 c0 c1 p0 p1 p2
            obtain ⟨p0, p1, p2⟩ := three_at HPl.out
            go_wp2
            go_ret
            exact ⟨rfl, HBe.out⟩
          · obtain ⟨he, hdd, hbb⟩ := H2.out (by omega)
            rw [he, if_pos rfl, HSz.out] at hm9
            rw [he, hbb, List.length_nil]
            obtain rfl : m9 = len := by omega
            have CE := hid (equal_isl hr9 DD.out)
            rw [show eqB m9 m9 (rsD B' np1 (goP Z (tI P lg G np1)) (n : Int)) D = true from decide_eq_true ⟨rfl, fun j hj => hdd j hj⟩] at CE
            clear hM hb CK hm9 hr9 hs9 c0 c1 p0 p1 p2 he hdd hbb
            obtain ⟨p0, p1, p2⟩ := three_at HPl.out
            go_wp2_with fail
            refine Calls.mono CE.out ?_
            rintro e y9 ⟨rfl, q9, hy9⟩
            have hb : Below u9.heap.size u9 y9 := by rw [hy9]; exact drewN_up _ _
            have HBf := hid (HBe.out.trans (hb.mono HBe.out.size))
            clear hb hy9 CE p0 p1 p2
            go_wp2
            go_ret
            exact ⟨rfl, HBf.out⟩
    · have hni : (0 : Int) < (n : Int) := by omega
      have hd61 : decide ((0 : Int) < (n : Int)) = true := decide_eq_true hni
      clear hn0
      have CA := hid (at_any old (n : Int) (by omega) u3)
      go_wp2_with fail
      refine Calls.mono CA.out ?_
      rintro e u4 ⟨rfl, hu4⟩
      subst u4
      obtain ⟨q, hq⟩ : ∃ q, old % (n : Int) = q := ⟨_, rfl⟩
      have hqb : 0 ≤ q ∧ q < (n : Int) := by rw [← hq]; exact ⟨Int.emod_nonneg _ (by omega), Int.emod_lt_of_pos _ hni⟩
      rw [hq]
      clear hq CA
      obtain ⟨g1, g2, g3⟩ := HEl.out q hqb
      have G1 := hid g1
      have G2 := hid g2
      have G3 := hid g3
      clear g1 g2 g3 c0 c1
      obtain ⟨d0, d1⟩ := A0.out.cells
      have CK := hid (HO.out.restore _ n PV b _ np1 KV UV P q u3 A0.out.2.1 A0.out.2.2)
      unfold meshV at CK
      go_wp2_with fail
      refine Calls.mono CK.out ?_
      rintro e u5 hM
      obtain ⟨hb, a5, m5, c5, b5, e5, rfl, hm5, hr5, hs5⟩ := rest_open hM
      have HM5 := hid hm5
      have R5 := hid hr5
      have S5 := hid hs5
      replace HB := hid (HB.out.trans (hb.mono HB.out.size))
      replace A1 := hid (stayB A1.out hb)
      replace J := hid (J.out.up hb)
      clear hM hb CK d0 d1 hm5 hr5 hs5
      obtain ⟨c0, c1⟩ := J.out.x.cells
      have CK := hid (HO.out.restore _ (n + 1) PV1 B' _ np1 KV1 UV1 Z q u5 J.out.x.2.1 J.out.x.2.2)
      unfold meshV at CK
      go_wp2_with fail
      refine Calls.mono CK.out ?_
      rintro e u6 hM
      obtain ⟨hb, a6, m6, c6, b6, e6, rfl, hm6, hr6, hs6⟩ := rest_open hM
      rw [G1.out] at hm6
      rw [G2.out] at hr6
      rw [G3.out] at hs6
      rw [G1.out, G3.out]
      have hsq : B'.sz q.toNat = b.sz q.toNat := HOldSz.out q hqb
      rw [hsq] at hm6
      obtain rfl : m6 = m5 := by have := HM5.out; omega
      have R6 := hid hr6
      have S6 := hid hs6
      replace R5 := hid (R5.out.up hb)
      replace S5 := hid (S5.out.up hb)
      replace HB := hid (HB.out.trans (hb.mono HB.out.size))
      replace A1 := hid (stayB A1.out hb)
      replace J := hid (J.out.up hb)
      clear hM hb CK c0 c1 hm6 hr6 hs6 hsq HM5
      obtain ⟨er5, her5⟩ : ∃ c, rsE n b np1 P q = c := ⟨_, rfl⟩
      obtain ⟨lb5, hlb5⟩ : ∃ c, rsB n b np1 P q = c := ⟨_, rfl⟩
      rw [her5, hlb5]
      rw [hlb5] at S5 S6
      clear her5 hlb5 G1 G2 G3
      have CK := hid (equal_isl R5.out R6.out)
      rw [eqB_self] at CK
      go_wp2_with fail
      refine Calls.mono CK.out ?_
      rintro e u7 ⟨rfl, q7, hy7⟩
      have hb : Below u6.heap.size u6 u7 := by rw [hy7]; exact drewN_up _ _
      replace S5 := hid (S5.out.up hb)
      replace S6 := hid (S6.out.up hb)
      replace HB := hid (HB.out.trans (hb.mono HB.out.size))
      replace A1 := hid (stayB A1.out hb)
      replace J := hid (J.out.up hb)
      clear hb hy7 CK
      have CK := hid (equal_isl S5.out S6.out)
      rw [eqB_self] at CK
      go_wp2_with fail
      refine Calls.mono CK.out ?_
      rintro e u8 ⟨rfl, q8, hy8⟩
      have hb : Below u7.heap.size u7 u8 := by rw [hy8]; exact drewN_up _ _
      replace HB := hid (HB.out.trans (hb.mono HB.out.size))
      replace A1 := hid (stayB A1.out hb)
      replace J := hid (J.out.up hb)
      clear hb hy8 CK R5 R6 S5 S6
      obtain ⟨c0, c1⟩ := J.out.x.cells
      have J0 : Hid (SvInv w u8 gx ab1 (n + 1) cb1 PV1 B' al1 np1 cl1 KV1 UV1 (goP Z (tI P lg G 0))) := by
        rw [show goP Z (tI P lg G 0) = Z by rw [tI_zero, ← HZt.out]; rfl]
        exact J.out
      have HPl : Hid (u8.heap[w.heap.size + 1]? = some (.cells #[.int .i64 need, .int .i64 of, .int .i64 sz] 30 (0, 0))) := A1.out
      go_wp2
      clear c0 c1 hni hd61
      try generalize decide (0 < n) = z61
      go_loopw [22, 97] (fun cv iv wr => ∃ i : Nat, i ≤ np1 ∧ cv = .int .i64 ((hereL n np1 P of (tK P lg G) i).length : Nat) ∧ iv = .int .i64 i ∧ Hid (SvInv w wr gx ab1 (n + 1) cb1 PV1 B' al1 np1 cl1 KV1 UV1 (goP Z (tI P lg G i))) ∧ Hid (Below u8.heap.size u8 wr ∨ True) ∧ Hid (wr.heap[w.heap.size + 1]? = some (.cells #[.int .i64 need, .int .i64 of, .int .i64 sz] 30 (0, 0)))) (fun _ iv _ => np1 - (intOf iv).toNat)
      case atStart => exact ⟨0, Nat.zero_le _, rfl, rfl, J0, Or.inr trivial, HPl⟩
      case round =>
        obtain ⟨i, hi, rfl, rfl, J, _, HPl⟩ := hrel
        by_cases hlt : i < np1
        · have hii : (i : Int) < (np1 : Int) := by omega
          obtain ⟨bl, off, ak, ck, hal, ⟨c0, c1⟩, ⟨g0, f0⟩, g1, g2, g3⟩ := J.out.cells hlt
          have hth : (goP Z (tI P lg G i)).th i = P.th i := by show tI P lg G i i = P.th i; unfold tI; rw [if_neg (by omega)]
          rw [hth] at g0
          subst hal
          have G3 := hid g3
          have hcnt := here_step n np1 P of (tK P lg G) i
          have hgv := HFs.out i hlt
          have HCnt := hid hcnt
          have HGv := hid hgv
          clear g3 hth hcnt hgv
          have hlen8 : (hereL n np1 P of (tK P lg G) i).length ≤ i := by
            unfold hereL
            rw [List.length_map]
            exact Nat.le_trans (List.length_filter_le _ _) (by simp)
          obtain ⟨ct, hct⟩ : ∃ c, (hereL n np1 P of (tK P lg G) i).length = c := ⟨_, rfl⟩
          rw [hct] at HCnt hlen8
          rw [hct]
          clear hct
          by_cases hgone : (decide (i < lg) && G i) = true
          · rw [Bool.and_eq_true, decide_eq_true_iff] at hgone
            obtain ⟨hil, hGi⟩ := hgone
            obtain ⟨ad2, cp2, he, h2⟩ := HG.out
            injection he with e1 _ e3
            subst e1 e3
            rcases h2 with h2 | ⟨bg, og, rfl, hbg, h5⟩
            · omega
            have hgc : wr.cell? ⟨bg, og + i, none⟩ = some (.bool true) := by rw [J.out.below.cell hbg, h5 i hil, hGi]
            have hil2 : (i : Int) < (lg : Int) := by omega
            have hT : tK P lg G i = false := by unfold tK; rw [decide_eq_true hil, hGi]; simp
            have hst : goP (goP Z (tI P lg G i)) (fun q => if q = i then false else (goP Z (tI P lg G i)).th q) = goP Z (tI P lg G (i + 1)) := by rw [tI_go hT]; rfl
            have JG := J.out.goes hlt
            rw [hst] at JG
            have hne9 : w.heap.size + 1 ≠ bl := fun e9 => by
              have h7 := (J.out.new.1 _ _ _ rfl).1
              have h6 : wr.cell? ⟨w.heap.size + 1, off + i * 3, none⟩ = some (.bool (P.th i)) := by rw [e9]; exact g0
              have h4 := HPl.out
              unfold World.cell? at h6
              rw [h4] at h6
              rcases (show off + i * 3 = 0 ∨ off + i * 3 = 1 ∨ off + i * 3 = 2 ∨ 3 ≤ off + i * 3 by omega) with h | h | h | h
              · simp [h] at h6
              · simp [h] at h6
              · simp [h] at h6
              · simp at h6
                rw [List.getElem?_eq_none (by simp; omega)] at h6
                cases h6
            have HPl2 : Hid ((wr.setCell ⟨bl, off + i * 3, none⟩ (.bool false)).heap[w.heap.size + 1]? = some (.cells #[.int .i64 need, .int .i64 of, .int .i64 sz] 30 (0, 0))) := by
              show _ = _
              rw [Below.heap_setCell _ _ _ _ (by show w.heap.size + 1 ≠ bl; exact hne9)]; exact HPl.out
            have HJG := hid JG
            obtain ⟨bl', off', ak', ck', hal', ⟨c0', c1'⟩, ⟨g0', _⟩, _⟩ := JG.cells hlt
            injection hal' with hal'
            injection hal' with ea eb
            subst ea eb
            have hth : (goP Z (tI P lg G (i + 1))).th i = false := by show tI P lg G (i + 1) i = false; unfold tI; rw [if_pos (by omega), hT]
            rw [hth] at g0'
            have hcn : (hereL n np1 P of (tK P lg G) (i + 1)).length = ct := by rw [HCnt.out]; unfold hereB; rw [hT, Bool.false_and, if_neg (by decide)]; rfl
            have HCn := hid hcn
            clear JG hst hth hne9 h5 hcn hT hGi
            go_wp2
            go_roundw
            case rel => exact ⟨i + 1, by omega, by rw [HCn.out], by go_num, HJG, Or.inr trivial, HPl2⟩
            case measure => simp only [intOf]; omega
          · have hT : tK P lg G i = P.th i := by unfold tK; rw [Bool.not_eq_true] at hgone; rw [hgone]; simp
            have HT := hid hT
            have hst := tI_stay hT
            have J2 : Hid (SvInv w wr gx ab1 (n + 1) cb1 PV1 B' (some ⟨bl, off, none⟩) np1 cl1 KV1 UV1 (goP Z (tI P lg G (i + 1)))) := by rw [hst]; exact J.out
            have HHe : Hid (hereB n np1 P of (tK P lg G) i = (P.th i && decide (0 ≤ gvn n np1 P of i))) := by show _ = _; unfold hereB; rw [HT.out]
            clear hT hst
            by_cases hil : i < lg
            · have hGi : G i = false := by
                cases h : G i with
                | false => rfl
                | true => exact absurd (by rw [decide_eq_true hil, h]; rfl) hgone
              obtain ⟨ad2, cp2, he, h2⟩ := HG.out
              injection he with e1 _ e3
              subst e1 e3
              rcases h2 with h2 | ⟨bg, og, rfl, hbg, h5⟩
              · omega
              have hgc : wr.cell? ⟨bg, og + i, none⟩ = some (.bool false) := by rw [J.out.below.cell hbg, h5 i hil, hGi]
              have hil2 : (i : Int) < (lg : Int) := by omega
              clear h5 hGi hgone
              cases hti : P.th i with
              | false =>
                rw [hti] at g0 HHe
                have hcn : (hereL n np1 P of (tK P lg G) (i + 1)).length = ct := by rw [HCnt.out, HHe.out, Bool.false_and, if_neg (by decide)]; rfl
                have HCn := hid hcn
                clear hcn hti
                go_wp2
                go_roundw
                case rel => exact ⟨i + 1, by omega, by rw [HCn.out], by go_num, J2, Or.inr trivial, HPl⟩
                case measure => simp only [intOf]; omega
              | true =>
                rw [hti] at g0 HHe
                have hgv := HGv.out hti
                have CF := hid (peFind true (Z.rm i) _ (Z.m i) (UV1 i) (Z.t i) (n : Int) wr G3.out)
                obtain ⟨fa, hfa⟩ : ∃ x, fstAt (Z.t i).V (n : Int) (Z.m i) 0 = x := ⟨_, rfl⟩
                rw [hfa] at CF hgv
                have g1' : wr.cell? ⟨bl, off + i * 3 + 1, none⟩ = some (.int .i64 (Z.rm i)) := g1
                have g2' : wr.cell? ⟨bl, off + i * 3 + 2, none⟩ = some (.slice ak (Z.m i) ck) := g2
                unfold peerV at CF
                have CF2 : Hid (Calls Tryz.prog 25 #[.agg #[.bool true, .int .i64 (Z.rm i), .slice ak (Z.m i) ck], .int .i64 (n : Int)] wr fun e w' => e = .returned (.int .i64 fa) ∧ Below wr.heap.size wr w') := CF.out
                clear hfa hti CF g1 g2
                go_wp2_with fail
                refine Calls.mono CF2.out ?_
                rintro e y1 ⟨rfl, hb⟩
                replace J2 := hid (J2.out.up hb)
                replace HPl := hid (stayB HPl.out hb)
                clear hb CF2 c0 c1 g0 f0 g1' g2'
                by_cases hf : 0 ≤ fa
                · have hcn : (hereL n np1 P of (tK P lg G) (i + 1)).length = ct + 1 := by
                    rw [HCnt.out, HHe.out, Bool.true_and, ← hgv, decide_eq_true hf, if_pos rfl]
                  have HCn := hid hcn
                  clear hcn hgv
                  go_wp2
                  go_roundw
                  case rel => exact ⟨i + 1, by omega, by rw [HCn.out]; go_num, by go_num, J2, Or.inr trivial, HPl⟩
                  case measure => simp only [intOf]; omega
                · have hcn : (hereL n np1 P of (tK P lg G) (i + 1)).length = ct := by
                    rw [HCnt.out, HHe.out, Bool.true_and, ← hgv, decide_eq_false hf, if_neg (by decide)]; rfl
                  have HCn := hid hcn
                  have hf2 : fa < 0 := by omega
                  clear hcn hgv hf
                  go_wp2
                  go_roundw
                  case rel => exact ⟨i + 1, by omega, by rw [HCn.out], by go_num, J2, Or.inr trivial, HPl⟩
                  case measure => simp only [intOf]; omega
            · have hil2 : ¬ (i : Int) < (lg : Int) := by omega
              clear hgone
              cases hti : P.th i with
              | false =>
                rw [hti] at g0 HHe
                have hcn : (hereL n np1 P of (tK P lg G) (i + 1)).length = ct := by rw [HCnt.out, HHe.out, Bool.false_and, if_neg (by decide)]; rfl
                have HCn := hid hcn
                clear hcn hti
                go_wp2
                go_roundw
                case rel => exact ⟨i + 1, by omega, by rw [HCn.out], by go_num, J2, Or.inr trivial, HPl⟩
                case measure => simp only [intOf]; omega
              | true =>
                rw [hti] at g0 HHe
                have hgv := HGv.out hti
                have CF := hid (peFind true (Z.rm i) _ (Z.m i) (UV1 i) (Z.t i) (n : Int) wr G3.out)
                obtain ⟨fa, hfa⟩ : ∃ x, fstAt (Z.t i).V (n : Int) (Z.m i) 0 = x := ⟨_, rfl⟩
                rw [hfa] at CF hgv
                have g1' : wr.cell? ⟨bl, off + i * 3 + 1, none⟩ = some (.int .i64 (Z.rm i)) := g1
                have g2' : wr.cell? ⟨bl, off + i * 3 + 2, none⟩ = some (.slice ak (Z.m i) ck) := g2
                unfold peerV at CF
                have CF2 : Hid (Calls Tryz.prog 25 #[.agg #[.bool true, .int .i64 (Z.rm i), .slice ak (Z.m i) ck], .int .i64 (n : Int)] wr fun e w' => e = .returned (.int .i64 fa) ∧ Below wr.heap.size wr w') := CF.out
                clear hfa hti CF g1 g2
                go_wp2_with fail
                refine Calls.mono CF2.out ?_
                rintro e y1 ⟨rfl, hb⟩
                replace J2 := hid (J2.out.up hb)
                replace HPl := hid (stayB HPl.out hb)
                clear hb CF2 c0 c1 g0 f0 g1' g2'
                by_cases hf : 0 ≤ fa
                · have hcn : (hereL n np1 P of (tK P lg G) (i + 1)).length = ct + 1 := by
                    rw [HCnt.out, HHe.out, Bool.true_and, ← hgv, decide_eq_true hf, if_pos rfl]
                  have HCn := hid hcn
                  clear hcn hgv
                  go_wp2
                  go_roundw
                  case rel => exact ⟨i + 1, by omega, by rw [HCn.out]; go_num, by go_num, J2, Or.inr trivial, HPl⟩
                  case measure => simp only [intOf]; omega
                · have hcn : (hereL n np1 P of (tK P lg G) (i + 1)).length = ct := by
                    rw [HCnt.out, HHe.out, Bool.true_and, ← hgv, decide_eq_false hf, if_neg (by decide)]; rfl
                  have HCn := hid hcn
                  have hf2 : fa < 0 := by omega
                  clear hcn hgv hf
                  go_wp2
                  go_roundw
                  case rel => exact ⟨i + 1, by omega, by rw [HCn.out], by go_num, J2, Or.inr trivial, HPl⟩
                  case measure => simp only [intOf]; omega
        · have hie : np1 = i := by omega
          subst hie
          have hN := HNw.out (tI P lg G np1)
          rw [here_count] at hN
          obtain ⟨hN1, hN2⟩ := hN
          obtain ⟨ct, hct⟩ : ∃ c, (hereL n np1 P of (tK P lg G) np1).length = c := ⟨_, rfl⟩
          rw [hct] at hN1 hN2
          rw [hct]
          have H1 := hid hN1
          have H2 := hid hN2
          obtain ⟨c0, c1⟩ := J.out.x.cells
          obtain ⟨p0, p1, p2⟩ := three_at HPl.out
          have CK := hid (HO.out.restore _ (n + 1) PV1 B' _ np1 KV1 UV1 (goP Z (tI P lg G np1)) (n : Int) wr J.out.x.2.1 J.out.x.2.2)
          unfold meshV at CK
          clear hN1 hN2 hct
          go_wp2_with fail
          refine Calls.mono CK.out ?_
          rintro e u9 hM
          obtain ⟨hb, a9, m9, c9, b9, e9, rfl, hm9, hr9, hs9⟩ := rest_open hM
          have HBe := hid (J.out.below.trans (hb.mono J.out.below.size))
          have DD := hid (D0.out.up HBe.out)
          replace HPl := hid (stayB HPl.out hb)
          by_cases hcn : (ct : Int) < need
          · have he := H1.out hcn
            rw [he]
            clear hM hb CK hm9 hr9 hs9 c0 c1 p0 p1 p2
            obtain ⟨p0, p1, p2⟩ := three_at HPl.out
            go_wp2
            go_ret
            exact ⟨rfl, HBe.out⟩
          · obtain ⟨he, hdd, hbb⟩ := H2.out (by omega)
            rw [he, if_pos rfl, HSz.out] at hm9
            rw [he, hbb, List.length_nil]
            obtain rfl : m9 = len := by omega
            have CE := hid (equal_isl hr9 DD.out)
            rw [show eqB m9 m9 (rsD B' np1 (goP Z (tI P lg G np1)) (n : Int)) D = true from decide_eq_true ⟨rfl, fun j hj => hdd j hj⟩] at CE
            clear hM hb CK hm9 hr9 hs9 c0 c1 p0 p1 p2 he hdd hbb
            obtain ⟨p0, p1, p2⟩ := three_at HPl.out
            go_wp2_with fail
            refine Calls.mono CE.out ?_
            rintro e y9 ⟨rfl, q9, hy9⟩
            have hb : Below u9.heap.size u9 y9 := by rw [hy9]; exact drewN_up _ _
            have HBf := hid (HBe.out.trans (hb.mono HBe.out.size))
            clear hb hy9 CE p0 p1 p2
            go_wp2
            go_ret
            exact ⟨rfl, HBf.out⟩
  · have hcb : (er != 0) = true := by simpa using hc0
    clear hc0
    go_wp2_with fail
    refine Calls.mono (HW.out u2) ?_
    rintro e u4 ⟨rfl, hb⟩
    replace HB := hid (HB.out.trans (hb.mono HB.out.size))
    clear hb
    go_wp2
    go_ret
    exact ⟨rfl, HB.out⟩

end Go.Proofs.YtikchpffkhohlaaGreat
