/- Several texts of one proof, in their order. -/
import Derived.Test.YtikchpffkhohlaaGreatMSum24
import Derived.Test.YtikchpffkhohlaaGreatMSum13
import Derived.Test.YtikchpffkhohlaaGreatMSum3

namespace Go.Proofs.YtikchpffkhohlaaGreat

open Go.RowKit Go.Maps CurveMath
set_option linter.unusedVariables false

set_option maxHeartbeats 16000000 in
set_option maxRecDepth 10000 in
theorem meshMends_of (hO : MeshOwes) (vb : Value) (n : Nat) (PV : Nat → Value) (b : Bk) (vl : Value) (np : Nat) (KV : Nat → Value) (UV : Nat → Nat → Value) (P : Ps) (k : Int) (w : World) (hv : VeSl w w.heap.size vb n PV b) (hl : PsSl w w.heap.size vl np KV UV P) :
    Calls Tryz.prog 5 #[meshV vb vl, .int .i64 k] w fun e w' => e = .returned (.bool true) ∧ Below w.heap.size w w' := by
  have HO := hid hO
  have HW : Hid (∀ u : World, _) := fun u => woven_any hO u
  have HV := hid hv
  have HL := hid hl
  obtain ⟨ab, cb, rfl, _, _⟩ := hv
  obtain ⟨al, cl, rfl, _, _⟩ := hl
  have hb0 := below_alloc w (.cells #[.slice ab n cb, .slice al np cl] 27)
  have hx := MsAt.box HV.out HL.out
  obtain ⟨U, hU⟩ : ∃ u, w.alloc (.cells #[.slice ab n cb, .slice al np cl] 27) = u := ⟨_, rfl⟩
  rw [hU] at hb0 hx
  have HB := hid hb0
  have A0 : Hid (MsAt U w.heap.size ab n cb PV b al np cl KV UV P) := hx
  clear hb0 hx hO HV HL
  obtain ⟨c0, c1⟩ := A0.out.cells
  have CK := hid (HO.out.repair _ n PV b _ np KV UV P k U A0.out.2.1 A0.out.2.2)
  unfold meshV at CK
  unfold meshV
  go_enter Tryz.func5, Tryz.ntmps5
  go_wp2_with fail
  refine Calls.mono CK.out ?_
  rintro e u1 hM
  obtain ⟨hb, ab1, n1, cb1, PV1, al1, np1, cl1, KV1, UV1, rfl, hn1, hp1, hv9, hl9⟩ := mesh_open hM.old
  obtain ⟨er, her⟩ : ∃ c, mendE n b np P k = c := ⟨_, rfl⟩
  rw [her] at hn1 hp1
  rw [her]
  have HEr := hid her
  have hb2 := below_alloc u1 (.cells #[.slice ab1 n1 cb1, .slice al1 np1 cl1] 27)
  have hx := MsAt.box hv9 hl9
  obtain ⟨V1, hV1⟩ : ∃ v, World.alloc u1 (.cells #[.slice ab1 n1 cb1, .slice al1 np1 cl1] 27) = v := ⟨_, rfl⟩
  rw [hV1] at hb2 hx
  replace hb := hb.trans (hb2.mono hb.size)
  replace HB := hid (HB.out.trans (hb.mono HB.out.size))
  replace A0 := hid (A0.out.up hb)
  obtain ⟨gx, hgx⟩ : ∃ g, u1.heap.size = g := ⟨_, rfl⟩
  rw [hgx] at hx
  have X1 := hid hx
  have HN1 := hid hn1
  have HP1 := hid hp1
  clear hM hb hb2 hx CK hv9 hl9 her c0 c1 hU hn1 hp1
  go_wp2_with fail
  refine Calls.mono (HW.out V1) ?_
  rintro e u2 ⟨rfl, hb⟩
  replace HB := hid (HB.out.trans (hb.mono HB.out.size))
  replace A0 := hid (A0.out.up hb)
  replace X1 := hid (X1.out.up hb)
  clear hb hV1
  by_cases hc0 : er = 0
  · subst hc0
    obtain rfl : n1 = n := by have := HN1.out; rw [if_pos rfl] at this; exact this
    obtain rfl : np1 = np := by have := HP1.out; rw [if_pos rfl] at this; exact this
    have hF := mend_facts HEr.out
    obtain ⟨Z, hZ⟩ : ∃ Z, mendP b np1 P k = Z := ⟨_, rfl⟩
    obtain ⟨of, hof⟩ : ∃ c, (b.of k.toNat).toNat = c := ⟨_, rfl⟩
    rw [hZ, hof] at hF
    rw [hZ] at X1
    have HF := hid hF
    have h8 : np1 ≤ 8 := hF.mesh.few
    obtain ⟨kk, rfl⟩ : ∃ q : Nat, k = (q : Int) := ⟨k.toNat, by have := hF.ver_; omega⟩
    clear hF hZ hof HEr HN1 HP1
    obtain ⟨np, hnp⟩ : ∃ q, np1 = q := ⟨_, rfl⟩
    subst hnp
    obtain ⟨c0, c1⟩ := A0.out.cells
    have CK := hid (HO.out.restore _ n1 PV b _ np1 KV UV P kk u2 A0.out.2.1 A0.out.2.2)
    unfold meshV at CK
    go_wp2_with fail
    refine Calls.mono CK.out ?_
    rintro e u3 hM
    obtain ⟨hb, a1, m1, c1', a2, c2, rfl, hm1, hr1, hs1⟩ := rest_open hM
    rw [HF.out.e1, if_pos rfl] at hm1
    rw [HF.out.e1]
    have HM1 := hid hm1
    have R1 := hid hr1
    obtain ⟨lb, hlb⟩ : ∃ c, (rsB n1 b np1 P kk).length = c := ⟨_, rfl⟩
    rw [hlb]
    replace HB := hid (HB.out.trans (hb.mono HB.out.size))
    replace A0 := hid (A0.out.up hb)
    replace X1 := hid (X1.out.up hb)
    clear hM hb CK hm1 hr1 hs1 hlb c0 c1
    obtain ⟨c0, c1⟩ := X1.out.cells
    have CK := hid (HO.out.restore _ n1 PV1 b _ np1 KV1 UV1 Z kk u3 X1.out.2.1 X1.out.2.2)
    unfold meshV at CK
    go_wp2_with fail
    refine Calls.mono CK.out ?_
    rintro e u4 hM
    obtain ⟨hb, a3, m3, c3, a4, c4, rfl, hm3, hr3, hs3⟩ := rest_open hM
    rw [HF.out.e2, if_pos rfl] at hm3
    rw [HF.out.e2, HF.out.b2, List.length_nil]
    have HM3 := hid hm3
    have R3 := hid hr3
    replace HB := hid (HB.out.trans (hb.mono HB.out.size))
    replace A0 := hid (A0.out.up hb)
    replace X1 := hid (X1.out.up hb)
    replace R1 := hid (R1.out.up hb)
    clear hM hb CK hm3 hr3 hs3 c0 c1
    obtain ⟨c0, c1⟩ := X1.out.cells
    have CK := hid (HO.out.repair _ n1 PV1 b _ np1 KV1 UV1 Z kk u4 X1.out.2.1 X1.out.2.2)
    unfold meshV at CK
    go_wp2_with fail
    refine Calls.mono CK.out ?_
    rintro e u5 hM
    obtain ⟨hb, ab2, n2, cb2, PV2, al2, np2, cl2, KV2, UV2, rfl, hn2, hp2, hv9, hl9⟩ := mesh_open hM.old
    rw [HF.out.a1, if_pos rfl] at hn2 hp2
    rw [HF.out.a1]
    rw [HF.out.a2] at hl9
    subst hn2 hp2
    have hb2 := below_alloc u5 (.cells #[.slice ab2 n2 cb2, .slice al2 np2 cl2] 27)
    have hx := MsAt.box hv9 hl9
    obtain ⟨V5, hV5⟩ : ∃ v, World.alloc u5 (.cells #[.slice ab2 n2 cb2, .slice al2 np2 cl2] 27) = v := ⟨_, rfl⟩
    rw [hV5] at hb2 hx
    replace hb := hb.trans (hb2.mono hb.size)
    have Y1 := hid hx
    replace HB := hid (HB.out.trans (hb.mono HB.out.size))
    replace A0 := hid (A0.out.up hb)
    replace X1 := hid (X1.out.up hb)
    replace R1 := hid (R1.out.up hb)
    replace R3 := hid (R3.out.up hb)
    clear hM hb hb2 hx CK hv9 hl9 c0 c1
    have CK := hid (equal_isl R1.out R3.out)
    have hq : eqB m1 m3 (rsD b np2 P kk) (rsD b np2 Z kk) = true := decide_eq_true ⟨by have := HM1.out; have := HM3.out; omega, fun j hj => HF.out.d j (by have := HM1.out; omega)⟩
    rw [hq] at CK
    clear hq
    go_wp2_with fail
    refine Calls.mono CK.out ?_
    rintro e u6 ⟨rfl, q6, hy6⟩
    have hb : Below V5.heap.size V5 u6 := by rw [hy6]; exact drewN_up _ _
    replace HB := hid (HB.out.trans (hb.mono HB.out.size))
    replace A0 := hid (A0.out.up hb)
    replace X1 := hid (X1.out.up hb)
    replace Y1 := hid (Y1.out.up hb)
    clear hb hy6 CK hV5 R1 R3 HM1 HM3
    obtain ⟨c0, c1⟩ := X1.out.cells
    obtain ⟨d0, d1⟩ := Y1.out.cells
    have CK := hid (HO.out.same u6 _ _ _ _ _ _ _ _ _ _ _ _ _ _ b b Z Z X1.out.2.1 X1.out.2.2 Y1.out.2.1 Y1.out.2.2)
    rw [meshB_self] at CK
    unfold meshV at CK
    go_wp2_with fail
    refine Calls.mono CK.out ?_
    rintro e u7 ⟨rfl, hb⟩
    replace HB := hid (HB.out.trans (hb.mono HB.out.size))
    replace A0 := hid (A0.out.up hb)
    replace X1 := hid (X1.out.up hb)
    clear hb CK c0 c1 d0 d1 Y1
    obtain ⟨c0, c1⟩ := X1.out.cells
    obtain ⟨d0, d1⟩ := A0.out.cells
    have CK := hid (bkSame X1.out.2.1 A0.out.2.1)
    rw [bookB_self] at CK
    unfold bookV at CK
    go_wp2_with fail
    refine Calls.mono CK.out ?_
    rintro e u8 ⟨rfl, hb⟩
    replace HB := hid (HB.out.trans (hb.mono HB.out.size))
    replace A0 := hid (A0.out.up hb)
    replace X1 := hid (X1.out.up hb)
    clear hb CK c0 c1 d0 d1
    obtain ⟨c0, c1⟩ := X1.out.cells
    have CK := hid (HO.out.check _ n2 PV1 b _ np2 KV1 UV1 Z u8 X1.out.2.1 X1.out.2.2)
    rw [HF.out.right.e] at CK
    unfold meshV at CK
    go_wp2_with fail
    refine Calls.mono CK.out ?_
    rintro e u9 ⟨rfl, hb⟩
    replace HB := hid (HB.out.trans (hb.mono HB.out.size))
    replace A0 := hid (A0.out.up hb)
    replace X1 := hid (X1.out.up hb)
    clear hb CK c0 c1
    have hmm := @run_makeMap Tryz.prog
    have hbm := below_alloc u9 (.map #[] 0)
    have J0 : Hid (MnInv w (u9.alloc (.map #[] 0)) w.heap.size gx ab n2 cb PV b al np2 cl KV UV P ab1 cb1 PV1 al1 cl1 KV1 UV1 Z u9.heap.size 0 (fun _ => false)) :=
      ⟨HB.out.trans (hbm.mono HB.out.size), A0.out.up hbm, X1.out.up hbm, setM_made u9 8, HB.out.size⟩
    clear hbm
    obtain ⟨c0, c1⟩ := J0.out.x.cells
    clear HB A0 X1
    go_wp2
    clear c0 c1
    generalize u9.heap.size = gm at *
    generalize u9.alloc (.map #[] 0) = V0 at *
    clear hmm
    go_loopw [99] (fun iv wr => ∃ (i : Nat) (S : Nat → Bool), i ≤ np2 ∧ iv = .int .i64 i ∧ Hid (MnInv w wr w.heap.size gx ab n2 cb PV b al np2 cl KV UV P ab1 cb1 PV1 al1 cl1 KV1 UV1 Z gm i S) ∧ Hid (SeenI Z kk i S)) (fun iv _ => np2 - (intOf iv).toNat)
    case atStart => exact ⟨0, fun _ => false, Nat.zero_le _, rfl, J0, seen_start _ _⟩
    case round =>
      obtain ⟨i, S, hi, rfl, J, HS⟩ := hrel
      by_cases hlt : i < np2
      · have hii : (i : Int) < (np2 : Int) := by omega
        obtain ⟨bl, off, hal1, hbl, g0, g1, g2, g3⟩ := J.out.x.2.2.at hlt
        subst hal1
        have G3 := hid g3
        obtain ⟨ak, ck, hke, _, _⟩ := g3
        rw [hke] at g2 G3
        rw [HF.out.th i] at g0
        obtain ⟨bm, om, hal, hbm, f0, f1, f2, f3⟩ := J.out.a.2.2.at hlt
        subst hal
        have MK := hid f3
        obtain ⟨am, cm, hkm, _, _⟩ := f3
        rw [hkm] at f2 MK
        have HSame := hid (HF.out.same i hlt)
        rw [HF.out.th i] at HSame
        have HAway := hid (HF.out.away i hlt)
        rw [HF.out.th i] at HAway
        obtain ⟨fa, hfa⟩ : ∃ x, fstAt (Z.t i).V kk (Z.m i) 0 = x := ⟨_, rfl⟩
        have hhas : hasK Z kk i = (P.th i && decide (0 ≤ fa)) := by unfold hasK; rw [HF.out.th i, hfa]
        have HHas := hid hhas
        have HFa := hid hfa
        clear hhas hfa hke hkm
        cases htk : P.th i with
        | true =>
          rw [htk] at g0 f0 HHas HSame HAway
          have MC : Hid (wr.cell? ⟨bm, om + i * 3, none⟩ = some (.bool true) ∧ wr.cell? ⟨bm, om + i * 3 + 1, none⟩ = some (.int .i64 (P.rm i)) ∧ wr.cell? ⟨bm, om + i * 3 + 2, none⟩ = some (.slice am (P.m i) cm)) := ⟨f0, f1, f2⟩
          clear htk f0 f1 f2
          have hbA := below_alloc wr (.cells #[.bool true, .int .i64 (Z.rm i), .slice ak (Z.m i) ck] 47)
          have PA := hid (PrAt.box (th := true) (room := Z.rm i) G3.out)
          have HFd := hid (peFind true (Z.rm i) _ (Z.m i) (UV1 i) (Z.t i) kk _ PA.out.2)
          rw [HFa.out] at HFd
          unfold peerV at HFd
          replace J := hid (J.out.up hbA)
          replace MK := hid (MK.out.up hbA)
          obtain ⟨gp, hgp⟩ : ∃ g, wr.heap.size = g := ⟨_, rfl⟩
          obtain ⟨WA, hWA⟩ : ∃ v, wr.alloc (.cells #[.bool true, .int .i64 (Z.rm i), .slice ak (Z.m i) ck] 47) = v := ⟨_, rfl⟩
          rw [hWA] at J PA HFd MK
          have hbA2 := hbA
          rw [hWA] at hbA2
          replace MC : Hid (WA.cell? ⟨bm, om + i * 3, none⟩ = some (.bool true) ∧ WA.cell? ⟨bm, om + i * 3 + 1, none⟩ = some (.int .i64 (P.rm i)) ∧ WA.cell? ⟨bm, om + i * 3 + 2, none⟩ = some (.slice am (P.m i) cm)) := ⟨by rw [hbA2.cell (cell_lt MC.out.1)]; exact MC.out.1, by rw [hbA2.cell (cell_lt MC.out.2.1)]; exact MC.out.2.1, by rw [hbA2.cell (cell_lt MC.out.2.2)]; exact MC.out.2.2⟩
          rw [hgp] at PA
          obtain ⟨z0, z1, z2⟩ := PA.out.cells
          clear hbA hbA2
          go_wp2_with fail
          refine Calls.mono HFd.out ?_
          rintro e w2 ⟨rfl, hb⟩
          clear z0 z1 z2
          replace J := hid (J.out.up hb)
          replace PA := hid (PA.out.up hb)
          replace MK := hid (MK.out.up hb)
          replace MC : Hid (w2.cell? ⟨bm, om + i * 3, none⟩ = some (.bool true) ∧ w2.cell? ⟨bm, om + i * 3 + 1, none⟩ = some (.int .i64 (P.rm i)) ∧ w2.cell? ⟨bm, om + i * 3 + 2, none⟩ = some (.slice am (P.m i) cm)) := ⟨by rw [hb.cell (cell_lt MC.out.1)]; exact MC.out.1, by rw [hb.cell (cell_lt MC.out.2.1)]; exact MC.out.2.1, by rw [hb.cell (cell_lt MC.out.2.2)]; exact MC.out.2.2⟩
          clear hb HFd g0 g1 g2 G3 hWA
          by_cases hf : 0 ≤ fa
          · have hhas : hasK Z kk i = true := by rw [HHas.out, decide_eq_true hf]; rfl
            obtain ⟨q, hq, hnq⟩ := HF.out.num i hlt hhas
            obtain ⟨_, hat, _⟩ := hasK_at hhas
            have hpa : fa = ((atK Z kk i : Nat) : Int) := by unfold atK; rw [HFa.out]; omega
            have hSq := seen_new HF.out HS.out hlt hhas hnq
            have HHs := hid hhas
            have HNq := hid hnq
            have hnq2 : (Z.t i).N (atK Z kk i) = (q : Int) := hnq
            obtain ⟨p, hpe⟩ : ∃ p, atK Z kk i = p := ⟨_, rfl⟩
            rw [hpe] at hat hpa hnq2
            subst hpa
            obtain ⟨bk, ok, hak, hbk, n0, n1, n2', n3⟩ := PA.out.2.at hat
            subst hak
            rw [hnq2] at n1
            have hpm : (p : Int) < (Z.m i : Int) := by omega
            have q8 : q ≤ 8 := by have := HF.out.of8; omega
            have look := J.out.mp.look (k := q) (by omega)
            rw [hSq] at look
            obtain ⟨z0, z1, z2⟩ := PA.out.cells
            obtain ⟨Dm, hD, hat', hhas', hsz⟩ := J.out.mp
            have HD := hid hD
            have HKi := hid (keyInt (x := (q : Int)) (by omega))
            clear hD hnq hnq2 hpe hSq hhas n0 n2' n3 hbk
            go_wp2_with (at_mapUpdate; refine wpList_mapUpdate_own _ rfl _ _ _ 51 rfl 3 4 keyedInt Tryz.underlying51 _ gm i _ rfl HD.out (by unfold maxLen; omega) _ _ _ rfl rfl HKi.out _ [] (plainElem_bool Tryz.underlying4 true) ?_; intro w6 hown6 hgrow6; have HO6 := hid hown6; have HG6 := hid hgrow6; clear hown6 hgrow6; refine Hid.out ?_)
            have hS6 := setM_put HD.out hat' hhas' hsz q8 HO6.out
            have hmp := J.out.mp
            replace PA := hid (PA.out.grownM hmp HG6.out)
            replace MK := hid ((MK.out.grownN hmp HG6.out).mono HG6.out.size)
            have hnm : ∀ {a : Addr} {u : Value}, w2.cell? a = some u → w6.cell? a = some u := fun ha => HG6.out.cell ha (by intro e; injection e with e; exact hmp.ne ha e)
            replace MC : Hid (w6.cell? ⟨bm, om + i * 3, none⟩ = some (.bool true) ∧ w6.cell? ⟨bm, om + i * 3 + 1, none⟩ = some (.int .i64 (P.rm i)) ∧ w6.cell? ⟨bm, om + i * 3 + 2, none⟩ = some (.slice am (P.m i) cm)) := ⟨hnm MC.out.1, hnm MC.out.2.1, hnm MC.out.2.2⟩
            replace J := hid (J.out.grown HG6.out hS6)
            have HE := hid (seen_put HS.out HHs.out HNq.out)
            clear hat' hhas' hsz HD HO6 HG6 hS6 hmp hnm look n1 z0 z1 z2 HHs HNq HKi
            refine hid ?_
            obtain ⟨b0, b1⟩ := J.out.x.cells
            obtain ⟨z0, z1, z2⟩ := PA.out.cells
            have CD := hid (peDrop _ n2 PV1 b true (Z.rm i) _ (Z.m i) (UV1 i) (Z.t i) kk w6 J.out.x.2.1 PA.out.2)
            unfold bookV peerV at CD
            go_wp2_with fail
            refine Calls.mono CD.out ?_
            rintro e t1 hd
            obtain ⟨hb, aa, ca, UA, rfl, hk, _⟩ := drop_opened (HF.out.right.peer i hlt).e hd
            have hb2 := below_alloc t1 (.cells #[.bool true, .int .i64 (Z.rm i), .slice aa (butL (Z.t i) kk (Z.m i)).length ca] 47)
            have hx := PrAt.box (th := true) (room := Z.rm i) hk
            obtain ⟨ga, hga⟩ : ∃ g, t1.heap.size = g := ⟨_, rfl⟩
            obtain ⟨V3, hV3⟩ : ∃ v, World.alloc t1 (.cells #[.bool true, .int .i64 (Z.rm i), .slice aa (butL (Z.t i) kk (Z.m i)).length ca] 47) = v := ⟨_, rfl⟩
            rw [hV3] at hb2 hx
            rw [hga] at hx
            replace hb := hb.trans (hb2.mono hb.size)
            replace J := hid (J.out.up hb)
            replace PA := hid (PA.out.up hb)
            have XA := hid hx
            replace MK := hid (MK.out.up hb)
            replace MC : Hid (V3.cell? ⟨bm, om + i * 3, none⟩ = some (.bool true) ∧ V3.cell? ⟨bm, om + i * 3 + 1, none⟩ = some (.int .i64 (P.rm i)) ∧ V3.cell? ⟨bm, om + i * 3 + 2, none⟩ = some (.slice am (P.m i) cm)) := ⟨by rw [hb.cell (cell_lt MC.out.1)]; exact MC.out.1, by rw [hb.cell (cell_lt MC.out.2.1)]; exact MC.out.2.1, by rw [hb.cell (cell_lt MC.out.2.2)]; exact MC.out.2.2⟩
            clear hd hb hb2 hx hk CD b0 b1 z0 z1 z2
            go_wp2_with fail
            obtain ⟨b0, b1⟩ := J.out.a.cells
            have M0 := MC.out.1
            have M1 := MC.out.2.1
            have M2 := MC.out.2.2
            have hne : Nonempty (Of (Below V3.heap.size V3)) := ⟨⟨V3, Below.refl _ _⟩⟩
            have F0 : ∀ u : Of (Below V3.heap.size V3), u.val.cell? _ = some _ := fun u => by rw [u.is.cell (cell_lt b0)]; exact b0
            have F1 : ∀ u : Of (Below V3.heap.size V3), u.val.cell? _ = some _ := fun u => by rw [u.is.cell (cell_lt b1)]; exact b1
            have F2 : ∀ u : Of (Below V3.heap.size V3), u.val.cell? _ = some _ := fun u => by rw [u.is.cell (cell_lt M0)]; exact M0
            have F3 : ∀ u : Of (Below V3.heap.size V3), u.val.cell? _ = some _ := fun u => by rw [u.is.cell (cell_lt M1)]; exact M1
            have F4 : ∀ u : Of (Below V3.heap.size V3), u.val.cell? _ = some _ := fun u => by rw [u.is.cell (cell_lt M2)]; exact M2
            clear b0 b1 M0 M1 M2
            obtain ⟨D0, hD0⟩ : ∃ u, V3.drew = u := ⟨_, rfl⟩
            have HDr : Hid (Below V3.heap.size V3 D0) := by rw [← hD0]; exact drew_below V3
            refine region_fork (Below V3.heap.size V3) [0, 1, 2, 3, 4, 5, 6, 7] 8 12 [([9, 10, 11], 12), ([], 13)] [([], 8), ([9, 10, 11], 13)] [14] (by kernel_rfl) (by kernel_rfl) (by rw [hD0]; exact HDr.out) (by simp only [pickO, List.getElem?_cons_zero, List.getElem?_cons_succ]; exact rfl) (by simp only [pickO, List.getElem?_cons_zero, List.getElem?_cons_succ]; exact rfl) (by simp only [pickO, List.getElem?_cons_zero, List.getElem?_cons_succ]; exact rfl) ?_
            repeat (go_big_quiet_step (fail))
            refine wpQuiet_nil ?_
            rw [hD0]
            clear hD0
            refine ⟨?_, ?_⟩
            · intro K hK
              have CD := hid (peDrop _ n2 PV b true (P.rm i) _ (P.m i) (UV i) (P.t i) kk D0 (J.out.a.2.1.up HDr.out) (MK.out.up HDr.out))
              unfold bookV peerV at CD
              go_wp2_with fail
              refine Calls.mono CD.out ?_
              rintro e r1 hd
              obtain ⟨hb, ae, ce, UE, rfl, hk, hnk⟩ := drop_opened (HF.out.mesh.peer i hlt).e hd
              have HDr1 := hid (HDr.out.trans (hb.mono HDr.out.size))
              have HK := hid hk
              clear hd hb hk hnk CD
              go_wp2
              refine ⟨rfl, hK _ _ HDr1.out ?_⟩
              clear hK K
              refine mixO_cons (by simp only [pickO, List.getElem?_cons_zero, List.getElem?_cons_succ]; exact rfl) (by simp only [pickO, List.getElem?_cons_zero, List.getElem?_cons_succ]; exact rfl) ?_
              repeat (go_big_quiet_step (fail))
              refine wpQuiet_nil ?_
              intro K hK
              go_wp2
              have hb3 := below_alloc r1 (.cells #[.bool false, .int .i64 0, .slice none 0 0] 47)
              have k3 := heap_alloc_new r1 (.cells #[.bool false, .int .i64 0, .slice none 0 0] 47)
              obtain ⟨r2, hr2⟩ : ∃ v, r1.alloc (.cells #[.bool false, .int .i64 0, .slice none 0 0] 47) = v := ⟨_, rfl⟩
              obtain ⟨gb, hgb⟩ : ∃ g, r1.heap.size = g := ⟨_, rfl⟩
              rw [hr2] at hb3 k3
              rw [hgb] at k3
              have HDr2 := hid (HDr1.out.trans (hb3.mono HDr1.out.size))
              have HB3 := hid hb3
              have HGe : Hid (r1.heap.size ≤ gb) := Nat.le_of_eq hgb
              have HGb : Hid (V3.heap.size ≤ gb) := by have := HDr1.out.size; show _ ≤ _; omega
              refine ⟨rfl, hK _ _ (by rw [hr2]; exact HDr2.out) ?_⟩
              rw [hr2, hgb]
              have K3' := hid k3
              clear hK K k3
              clear hb3
              refine mixO_cons (lq := []) rfl (by simp only [pickO, List.getElem?_cons_zero, List.getElem?_cons_succ]; exact rfl) ?_

              refine wpQuiet_nil ?_
              intro K hK
              obtain ⟨s1, s2, s3⟩ := three_at K3'.out
              have f1 := frozen_at (i := 0) K3'.out
              have f2 := frozen_at (i := 1) K3'.out
              have f3 := frozen_at (i := 2) K3'.out
              go_wp2
              have hW5 : Below V3.heap.size V3 (put3 r2 gb (.bool true) (.int .i64 (P.rm i)) (.slice ae (butL (P.t i) kk (P.m i)).length ce)) := put3_below HDr2.out HGb.out
              refine ⟨rfl, hK _ _ hW5 ?_⟩
              have XB0 := put3_whole K3'.out (.bool true) (.int .i64 (P.rm i)) (.slice ae (butL (P.t i) kk (P.m i)).length ce)
              have hke : KeSl (put3 r2 gb (.bool true) (.int .i64 (P.rm i)) (.slice ae (butL (P.t i) kk (P.m i)).length ce)) _ _ _ _ _ := HK.out.up (put3_below HB3.out HGe.out)
              unfold put3 at hW5 XB0 hke
              obtain ⟨W5, hW5e⟩ : ∃ v, ((r2.setCell ⟨gb, 0, none⟩ (.bool true)).setCell ⟨gb, 1, none⟩ (.int .i64 (P.rm i))).setCell ⟨gb, 2, none⟩ (.slice ae (butL (P.t i) kk (P.m i)).length ce) = v := ⟨_, rfl⟩
              rw [hW5e] at hW5 XB0 hke
              rw [hW5e]
              have XB : Hid (PrAt W5 gb true (P.rm i) ae (butL (P.t i) kk (P.m i)).length ce UE (selT (P.t i) (butL (P.t i) kk (P.m i)))) := ⟨XB0, hke⟩
              replace J := hid (J.out.up hW5)
              replace PA := hid (PA.out.up hW5)
              replace XA := hid (XA.out.up hW5)
              replace MK := hid (MK.out.up hW5)
              replace MC : Hid (W5.cell? ⟨bm, om + i * 3, none⟩ = some (.bool true) ∧ W5.cell? ⟨bm, om + i * 3 + 1, none⟩ = some (.int .i64 (P.rm i)) ∧ W5.cell? ⟨bm, om + i * 3 + 2, none⟩ = some (.slice am (P.m i) cm)) := ⟨by rw [hW5.cell (cell_lt MC.out.1)]; exact MC.out.1, by rw [hW5.cell (cell_lt MC.out.2.1)]; exact MC.out.2.1, by rw [hW5.cell (cell_lt MC.out.2.2)]; exact MC.out.2.2⟩
              clear hK K s1 s2 s3 f1 f2 f3 XB0 hke hW5 hW5e
              refine mixO_nil (by simp only [pickO, List.getElem?_cons_zero, List.getElem?_cons_succ]; exact rfl) ?_
              repeat (go_big_quiet_step (fail))
              refine wpQuiet_nil ?_
              clear F0 F1 F2 F3 F4 hne HDr
              go_wp2_with fail
              obtain ⟨b0, b1⟩ := J.out.a.cells
              obtain ⟨x0, x1, x2⟩ := XA.out.cells
              obtain ⟨y0, y1, y2⟩ := XB.out.cells
              obtain ⟨z0, z1, z2⟩ := PA.out.cells
              have M0 := MC.out.1
              have M1 := MC.out.2.1
              have M2 := MC.out.2.2
              have hne : Nonempty (Of (Below W5.heap.size W5)) := ⟨⟨W5, Below.refl _ _⟩⟩
              have F0 : ∀ u : Of (Below W5.heap.size W5), u.val.cell? _ = some _ := fun u => by rw [u.is.cell (cell_lt x0)]; exact x0
              have F1 : ∀ u : Of (Below W5.heap.size W5), u.val.cell? _ = some _ := fun u => by rw [u.is.cell (cell_lt x1)]; exact x1
              have F2 : ∀ u : Of (Below W5.heap.size W5), u.val.cell? _ = some _ := fun u => by rw [u.is.cell (cell_lt x2)]; exact x2
              have F3 : ∀ u : Of (Below W5.heap.size W5), u.val.cell? _ = some _ := fun u => by rw [u.is.cell (cell_lt y0)]; exact y0
              have F4 : ∀ u : Of (Below W5.heap.size W5), u.val.cell? _ = some _ := fun u => by rw [u.is.cell (cell_lt y1)]; exact y1
              have F5 : ∀ u : Of (Below W5.heap.size W5), u.val.cell? _ = some _ := fun u => by rw [u.is.cell (cell_lt y2)]; exact y2
              have F6 : ∀ u : Of (Below W5.heap.size W5), u.val.cell? _ = some _ := fun u => by rw [u.is.cell (cell_lt z0)]; exact z0
              have F7 : ∀ u : Of (Below W5.heap.size W5), u.val.cell? _ = some _ := fun u => by rw [u.is.cell (cell_lt z1)]; exact z1
              have F8 : ∀ u : Of (Below W5.heap.size W5), u.val.cell? _ = some _ := fun u => by rw [u.is.cell (cell_lt z2)]; exact z2
              have F9 : ∀ u : Of (Below W5.heap.size W5), u.val.cell? _ = some _ := fun u => by rw [u.is.cell (cell_lt b1)]; exact b1
              have G0 : ∀ u : Of (Below W5.heap.size W5), u.val.cell? _ = some _ := fun u => by rw [u.is.cell (cell_lt M0)]; exact M0
              have G1 : ∀ u : Of (Below W5.heap.size W5), u.val.cell? _ = some _ := fun u => by rw [u.is.cell (cell_lt M1)]; exact M1
              have G2 : ∀ u : Of (Below W5.heap.size W5), u.val.cell? _ = some _ := fun u => by rw [u.is.cell (cell_lt M2)]; exact M2
              clear b0 b1 x0 x1 x2 y0 y1 y2 z0 z1 z2 M0 M1 M2
              have HDr : Hid (Below W5.heap.size W5 W5.drew) := drew_below W5
              refine region_mixed (Below W5.heap.size W5) [([0, 1, 2, 3, 4, 5, 6, 7, 8], 9), ([10, 11, 12, 13, 14, 15, 16, 17, 18, 19, 20, 21, 22], 23)] [24, 25, 26] (by kernel_rfl) (by kernel_rfl) HDr.out ?_
              refine mixO_cons (by simp only [pickO, List.getElem?_cons_zero, List.getElem?_cons_succ]; exact rfl) (by simp only [pickO, List.getElem?_cons_zero, List.getElem?_cons_succ]; exact rfl) ?_
              repeat (go_big_quiet_step (fail))
              refine wpQuiet_nil ?_
              intro K hK
              have CS := hid (peSame true true (Z.rm i) (P.rm i) (XA.out.2.up HDr.out) (XB.out.2.up HDr.out))
              rw [HSame.out] at CS
              unfold peerV at CS
              go_wp2_with fail
              refine Calls.mono CS.out ?_
              rintro e s1 ⟨rfl, hbs⟩
              have HD1 := hid (HDr.out.trans (hbs.mono HDr.out.size))
              clear hbs CS
              go_wp2
              refine ⟨rfl, hK _ _ HD1.out ?_⟩
              clear hK K
              refine mixO_cons (by simp only [pickO, List.getElem?_cons_zero, List.getElem?_cons_succ]; exact rfl) (by simp only [pickO, List.getElem?_cons_zero, List.getElem?_cons_succ]; exact rfl) ?_
              repeat (go_big_quiet_step (fail))
              refine wpQuiet_nil ?_
              intro K hK
              have HD2 := HD1
              go_wp2
              refine ⟨rfl, hK _ _ HD2.out ?_⟩
              clear hK K
              refine mixO_nil (by simp only [pickO, List.getElem?_cons_zero, List.getElem?_cons_succ]; exact rfl) ?_
              repeat (go_big_quiet_step (fail))
              refine wpQuiet_nil ?_
              clear F0 F1 F2 F3 F4 F5 F6 F7 F8 F9 G0 G1 G2 hne
              go_wp2
              have JE := J.out.up HD2.out
              go_roundw
              case rel => exact ⟨i + 1, (fun z => S z || decide (z = q)), by omega, by go_num, ⟨JE.below, JE.a, JE.x, JE.mp.mono (by omega), JE.og⟩, HE⟩
              case measure => simp only [intOf]; omega
            · intro K hK
              go_wp2
              have hb3 := below_alloc D0 (.cells #[.bool false, .int .i64 0, .slice none 0 0] 47)
              have k3 := heap_alloc_new D0 (.cells #[.bool false, .int .i64 0, .slice none 0 0] 47)
              obtain ⟨r0, hr0⟩ : ∃ v, D0.alloc (.cells #[.bool false, .int .i64 0, .slice none 0 0] 47) = v := ⟨_, rfl⟩
              obtain ⟨gb, hgb⟩ : ∃ g, D0.heap.size = g := ⟨_, rfl⟩
              rw [hr0] at hb3 k3
              rw [hgb] at k3
              have HDr0 := hid (HDr.out.trans (hb3.mono HDr.out.size))
              have HGb : Hid (V3.heap.size ≤ gb) := by have := HDr.out.size; show _ ≤ _; omega
              refine ⟨rfl, hK _ _ (by rw [hr0]; exact HDr0.out) ?_⟩
              rw [hr0, hgb]
              have K3 := hid k3
              clear hK K hb3 k3
              refine mixO_cons (lq := []) rfl (by simp only [pickO, List.getElem?_cons_zero, List.getElem?_cons_succ]; exact rfl) ?_
              refine wpQuiet_nil ?_
              intro K hK
              have CD := hid (peDrop _ n2 PV b true (P.rm i) _ (P.m i) (UV i) (P.t i) kk r0 (J.out.a.2.1.up HDr0.out) (MK.out.up HDr0.out))
              unfold bookV peerV at CD
              go_wp2_with fail
              refine Calls.mono CD.out ?_
              rintro e r2 hd
              obtain ⟨hb, ae, ce, UE, rfl, hk, hnk⟩ := drop_opened (HF.out.mesh.peer i hlt).e hd
              have HDr2 := hid (HDr0.out.trans (hb.mono HDr0.out.size))
              have HK := hid hk
              have HNk := hid hnk
              have HGe : Hid (gb < r0.heap.size) := by show gb < r0.heap.size; rw [← hr0, ← hgb]; simp
              have k3 := stayB K3.out hb
              clear hd hb hk hnk CD
              go_wp2
              refine ⟨rfl, hK _ _ HDr2.out ?_⟩
              have K3' := hid k3
              clear hK K k3
              refine mixO_cons (by simp only [pickO, List.getElem?_cons_zero, List.getElem?_cons_succ]; exact rfl) (by simp only [pickO, List.getElem?_cons_zero, List.getElem?_cons_succ]; exact rfl) ?_
              repeat (go_big_quiet_step (fail))

              refine wpQuiet_nil ?_
              intro K hK
              obtain ⟨s1, s2, s3⟩ := three_at K3'.out
              have f1 := frozen_at (i := 0) K3'.out
              have f2 := frozen_at (i := 1) K3'.out
              have f3 := frozen_at (i := 2) K3'.out
              go_wp2
              have hW5 : Below V3.heap.size V3 (put3 r2 gb (.bool true) (.int .i64 (P.rm i)) (.slice ae (butL (P.t i) kk (P.m i)).length ce)) := put3_below HDr2.out HGb.out
              refine ⟨rfl, hK _ _ hW5 ?_⟩
              have XB0 := put3_whole K3'.out (.bool true) (.int .i64 (P.rm i)) (.slice ae (butL (P.t i) kk (P.m i)).length ce)
              have hke : KeSl (put3 r2 gb (.bool true) (.int .i64 (P.rm i)) (.slice ae (butL (P.t i) kk (P.m i)).length ce)) _ _ _ _ _ := kel_newput HK.out HNk.out HGe.out _ _ _
              unfold put3 at hW5 XB0 hke
              obtain ⟨W5, hW5e⟩ : ∃ v, ((r2.setCell ⟨gb, 0, none⟩ (.bool true)).setCell ⟨gb, 1, none⟩ (.int .i64 (P.rm i))).setCell ⟨gb, 2, none⟩ (.slice ae (butL (P.t i) kk (P.m i)).length ce) = v := ⟨_, rfl⟩
              rw [hW5e] at hW5 XB0 hke
              rw [hW5e]
              have XB : Hid (PrAt W5 gb true (P.rm i) ae (butL (P.t i) kk (P.m i)).length ce UE (selT (P.t i) (butL (P.t i) kk (P.m i)))) := ⟨XB0, hke⟩
              replace J := hid (J.out.up hW5)
              replace PA := hid (PA.out.up hW5)
              replace XA := hid (XA.out.up hW5)
              replace MK := hid (MK.out.up hW5)
              replace MC : Hid (W5.cell? ⟨bm, om + i * 3, none⟩ = some (.bool true) ∧ W5.cell? ⟨bm, om + i * 3 + 1, none⟩ = some (.int .i64 (P.rm i)) ∧ W5.cell? ⟨bm, om + i * 3 + 2, none⟩ = some (.slice am (P.m i) cm)) := ⟨by rw [hW5.cell (cell_lt MC.out.1)]; exact MC.out.1, by rw [hW5.cell (cell_lt MC.out.2.1)]; exact MC.out.2.1, by rw [hW5.cell (cell_lt MC.out.2.2)]; exact MC.out.2.2⟩
              clear hK K s1 s2 s3 f1 f2 f3 XB0 hke hW5 hW5e
              refine mixO_nil (by simp only [pickO, List.getElem?_cons_zero, List.getElem?_cons_succ]; exact rfl) ?_
              repeat (go_big_quiet_step (fail))
              refine wpQuiet_nil ?_
              clear F0 F1 F2 F3 F4 hne HDr
              go_wp2_with fail
              obtain ⟨b0, b1⟩ := J.out.a.cells
              obtain ⟨x0, x1, x2⟩ := XA.out.cells
              obtain ⟨y0, y1, y2⟩ := XB.out.cells
              obtain ⟨z0, z1, z2⟩ := PA.out.cells
              have M0 := MC.out.1
              have M1 := MC.out.2.1
              have M2 := MC.out.2.2
              have hne : Nonempty (Of (Below W5.heap.size W5)) := ⟨⟨W5, Below.refl _ _⟩⟩
              have F0 : ∀ u : Of (Below W5.heap.size W5), u.val.cell? _ = some _ := fun u => by rw [u.is.cell (cell_lt x0)]; exact x0
              have F1 : ∀ u : Of (Below W5.heap.size W5), u.val.cell? _ = some _ := fun u => by rw [u.is.cell (cell_lt x1)]; exact x1
              have F2 : ∀ u : Of (Below W5.heap.size W5), u.val.cell? _ = some _ := fun u => by rw [u.is.cell (cell_lt x2)]; exact x2
              have F3 : ∀ u : Of (Below W5.heap.size W5), u.val.cell? _ = some _ := fun u => by rw [u.is.cell (cell_lt y0)]; exact y0
              have F4 : ∀ u : Of (Below W5.heap.size W5), u.val.cell? _ = some _ := fun u => by rw [u.is.cell (cell_lt y1)]; exact y1
              have F5 : ∀ u : Of (Below W5.heap.size W5), u.val.cell? _ = some _ := fun u => by rw [u.is.cell (cell_lt y2)]; exact y2
              have F6 : ∀ u : Of (Below W5.heap.size W5), u.val.cell? _ = some _ := fun u => by rw [u.is.cell (cell_lt z0)]; exact z0
              have F7 : ∀ u : Of (Below W5.heap.size W5), u.val.cell? _ = some _ := fun u => by rw [u.is.cell (cell_lt z1)]; exact z1
              have F8 : ∀ u : Of (Below W5.heap.size W5), u.val.cell? _ = some _ := fun u => by rw [u.is.cell (cell_lt z2)]; exact z2
              have F9 : ∀ u : Of (Below W5.heap.size W5), u.val.cell? _ = some _ := fun u => by rw [u.is.cell (cell_lt b1)]; exact b1
              have G0 : ∀ u : Of (Below W5.heap.size W5), u.val.cell? _ = some _ := fun u => by rw [u.is.cell (cell_lt M0)]; exact M0
              have G1 : ∀ u : Of (Below W5.heap.size W5), u.val.cell? _ = some _ := fun u => by rw [u.is.cell (cell_lt M1)]; exact M1
              have G2 : ∀ u : Of (Below W5.heap.size W5), u.val.cell? _ = some _ := fun u => by rw [u.is.cell (cell_lt M2)]; exact M2
              clear b0 b1 x0 x1 x2 y0 y1 y2 z0 z1 z2 M0 M1 M2
              have HDr : Hid (Below W5.heap.size W5 W5.drew) := drew_below W5
              refine region_mixed (Below W5.heap.size W5) [([0, 1, 2, 3, 4, 5, 6, 7, 8], 9), ([10, 11, 12, 13, 14, 15, 16, 17, 18, 19, 20, 21, 22], 23)] [24, 25, 26] (by kernel_rfl) (by kernel_rfl) HDr.out ?_
              refine mixO_cons (by simp only [pickO, List.getElem?_cons_zero, List.getElem?_cons_succ]; exact rfl) (by simp only [pickO, List.getElem?_cons_zero, List.getElem?_cons_succ]; exact rfl) ?_
              repeat (go_big_quiet_step (fail))
              refine wpQuiet_nil ?_
              intro K hK
              have CS := hid (peSame true true (Z.rm i) (P.rm i) (XA.out.2.up HDr.out) (XB.out.2.up HDr.out))
              rw [HSame.out] at CS
              unfold peerV at CS
              go_wp2_with fail
              refine Calls.mono CS.out ?_
              rintro e s1 ⟨rfl, hbs⟩
              have HD1 := hid (HDr.out.trans (hbs.mono HDr.out.size))
              clear hbs CS
              go_wp2
              refine ⟨rfl, hK _ _ HD1.out ?_⟩
              clear hK K
              refine mixO_cons (by simp only [pickO, List.getElem?_cons_zero, List.getElem?_cons_succ]; exact rfl) (by simp only [pickO, List.getElem?_cons_zero, List.getElem?_cons_succ]; exact rfl) ?_
              repeat (go_big_quiet_step (fail))
              refine wpQuiet_nil ?_
              intro K hK
              have HD2 := HD1
              go_wp2
              refine ⟨rfl, hK _ _ HD2.out ?_⟩
              clear hK K
              refine mixO_nil (by simp only [pickO, List.getElem?_cons_zero, List.getElem?_cons_succ]; exact rfl) ?_
              repeat (go_big_quiet_step (fail))
              refine wpQuiet_nil ?_
              clear F0 F1 F2 F3 F4 F5 F6 F7 F8 F9 G0 G1 G2 hne
              go_wp2
              have JE := J.out.up HD2.out
              go_roundw
              case rel => exact ⟨i + 1, (fun z => S z || decide (z = q)), by omega, by go_num, ⟨JE.below, JE.a, JE.x, JE.mp.mono (by omega), JE.og⟩, HE⟩
              case measure => simp only [intOf]; omega
          · have hhas : hasK Z kk i = false := by rw [HHas.out, decide_eq_false hf]; rfl
            have HE := hid (seen_skip HS.out hhas)
            have hfi : fa < 0 := by omega
            obtain ⟨z0, z1, z2⟩ := PA.out.cells
            clear hhas hf
            obtain ⟨b0, b1⟩ := J.out.x.cells
            obtain ⟨z0, z1, z2⟩ := PA.out.cells
            have CD := hid (peDrop _ n2 PV1 b true (Z.rm i) _ (Z.m i) (UV1 i) (Z.t i) kk w2 J.out.x.2.1 PA.out.2)
            unfold bookV peerV at CD
            go_wp2_with fail
            refine Calls.mono CD.out ?_
            rintro e t1 hd
            obtain ⟨hb, aa, ca, UA, rfl, hk, _⟩ := drop_opened (HF.out.right.peer i hlt).e hd
            have hb2 := below_alloc t1 (.cells #[.bool true, .int .i64 (Z.rm i), .slice aa (butL (Z.t i) kk (Z.m i)).length ca] 47)
            have hx := PrAt.box (th := true) (room := Z.rm i) hk
            obtain ⟨ga, hga⟩ : ∃ g, t1.heap.size = g := ⟨_, rfl⟩
            obtain ⟨V3, hV3⟩ : ∃ v, World.alloc t1 (.cells #[.bool true, .int .i64 (Z.rm i), .slice aa (butL (Z.t i) kk (Z.m i)).length ca] 47) = v := ⟨_, rfl⟩
            rw [hV3] at hb2 hx
            rw [hga] at hx
            replace hb := hb.trans (hb2.mono hb.size)
            replace J := hid (J.out.up hb)
            replace PA := hid (PA.out.up hb)
            have XA := hid hx
            replace MK := hid (MK.out.up hb)
            replace MC : Hid (V3.cell? ⟨bm, om + i * 3, none⟩ = some (.bool true) ∧ V3.cell? ⟨bm, om + i * 3 + 1, none⟩ = some (.int .i64 (P.rm i)) ∧ V3.cell? ⟨bm, om + i * 3 + 2, none⟩ = some (.slice am (P.m i) cm)) := ⟨by rw [hb.cell (cell_lt MC.out.1)]; exact MC.out.1, by rw [hb.cell (cell_lt MC.out.2.1)]; exact MC.out.2.1, by rw [hb.cell (cell_lt MC.out.2.2)]; exact MC.out.2.2⟩
            clear hd hb hb2 hx hk CD b0 b1 z0 z1 z2
            go_wp2_with fail
            obtain ⟨b0, b1⟩ := J.out.a.cells
            have M0 := MC.out.1
            have M1 := MC.out.2.1
            have M2 := MC.out.2.2
            have hne : Nonempty (Of (Below V3.heap.size V3)) := ⟨⟨V3, Below.refl _ _⟩⟩
            have F0 : ∀ u : Of (Below V3.heap.size V3), u.val.cell? _ = some _ := fun u => by rw [u.is.cell (cell_lt b0)]; exact b0
            have F1 : ∀ u : Of (Below V3.heap.size V3), u.val.cell? _ = some _ := fun u => by rw [u.is.cell (cell_lt b1)]; exact b1
            have F2 : ∀ u : Of (Below V3.heap.size V3), u.val.cell? _ = some _ := fun u => by rw [u.is.cell (cell_lt M0)]; exact M0
            have F3 : ∀ u : Of (Below V3.heap.size V3), u.val.cell? _ = some _ := fun u => by rw [u.is.cell (cell_lt M1)]; exact M1
            have F4 : ∀ u : Of (Below V3.heap.size V3), u.val.cell? _ = some _ := fun u => by rw [u.is.cell (cell_lt M2)]; exact M2
            clear b0 b1 M0 M1 M2
            obtain ⟨D0, hD0⟩ : ∃ u, V3.drew = u := ⟨_, rfl⟩
            have HDr : Hid (Below V3.heap.size V3 D0) := by rw [← hD0]; exact drew_below V3
            refine region_fork (Below V3.heap.size V3) [0, 1, 2, 3, 4, 5, 6, 7] 8 12 [([9, 10, 11], 12), ([], 13)] [([], 8), ([9, 10, 11], 13)] [14] (by kernel_rfl) (by kernel_rfl) (by rw [hD0]; exact HDr.out) (by simp only [pickO, List.getElem?_cons_zero, List.getElem?_cons_succ]; exact rfl) (by simp only [pickO, List.getElem?_cons_zero, List.getElem?_cons_succ]; exact rfl) (by simp only [pickO, List.getElem?_cons_zero, List.getElem?_cons_succ]; exact rfl) ?_
            repeat (go_big_quiet_step (fail))
            refine wpQuiet_nil ?_
            rw [hD0]
            clear hD0
            refine ⟨?_, ?_⟩
            · intro K hK
              have CD := hid (peDrop _ n2 PV b true (P.rm i) _ (P.m i) (UV i) (P.t i) kk D0 (J.out.a.2.1.up HDr.out) (MK.out.up HDr.out))
              unfold bookV peerV at CD
              go_wp2_with fail
              refine Calls.mono CD.out ?_
              rintro e r1 hd
              obtain ⟨hb, ae, ce, UE, rfl, hk, hnk⟩ := drop_opened (HF.out.mesh.peer i hlt).e hd
              have HDr1 := hid (HDr.out.trans (hb.mono HDr.out.size))
              have HK := hid hk
              clear hd hb hk hnk CD
              go_wp2
              refine ⟨rfl, hK _ _ HDr1.out ?_⟩
              clear hK K
              refine mixO_cons (by simp only [pickO, List.getElem?_cons_zero, List.getElem?_cons_succ]; exact rfl) (by simp only [pickO, List.getElem?_cons_zero, List.getElem?_cons_succ]; exact rfl) ?_
              repeat (go_big_quiet_step (fail))
              refine wpQuiet_nil ?_
              intro K hK
              go_wp2
              have hb3 := below_alloc r1 (.cells #[.bool false, .int .i64 0, .slice none 0 0] 47)
              have k3 := heap_alloc_new r1 (.cells #[.bool false, .int .i64 0, .slice none 0 0] 47)
              obtain ⟨r2, hr2⟩ : ∃ v, r1.alloc (.cells #[.bool false, .int .i64 0, .slice none 0 0] 47) = v := ⟨_, rfl⟩
              obtain ⟨gb, hgb⟩ : ∃ g, r1.heap.size = g := ⟨_, rfl⟩
              rw [hr2] at hb3 k3
              rw [hgb] at k3
              have HDr2 := hid (HDr1.out.trans (hb3.mono HDr1.out.size))
              have HB3 := hid hb3
              have HGe : Hid (r1.heap.size ≤ gb) := Nat.le_of_eq hgb
              have HGb : Hid (V3.heap.size ≤ gb) := by have := HDr1.out.size; show _ ≤ _; omega
              refine ⟨rfl, hK _ _ (by rw [hr2]; exact HDr2.out) ?_⟩
              rw [hr2, hgb]
              have K3' := hid k3
              clear hK K k3
              clear hb3
              refine mixO_cons (lq := []) rfl (by simp only [pickO, List.getElem?_cons_zero, List.getElem?_cons_succ]; exact rfl) ?_

              refine wpQuiet_nil ?_
              intro K hK
              obtain ⟨s1, s2, s3⟩ := three_at K3'.out
              have f1 := frozen_at (i := 0) K3'.out
              have f2 := frozen_at (i := 1) K3'.out
              have f3 := frozen_at (i := 2) K3'.out
              go_wp2
              have hW5 : Below V3.heap.size V3 (put3 r2 gb (.bool true) (.int .i64 (P.rm i)) (.slice ae (butL (P.t i) kk (P.m i)).length ce)) := put3_below HDr2.out HGb.out
              refine ⟨rfl, hK _ _ hW5 ?_⟩
              have XB0 := put3_whole K3'.out (.bool true) (.int .i64 (P.rm i)) (.slice ae (butL (P.t i) kk (P.m i)).length ce)
              have hke : KeSl (put3 r2 gb (.bool true) (.int .i64 (P.rm i)) (.slice ae (butL (P.t i) kk (P.m i)).length ce)) _ _ _ _ _ := HK.out.up (put3_below HB3.out HGe.out)
              unfold put3 at hW5 XB0 hke
              obtain ⟨W5, hW5e⟩ : ∃ v, ((r2.setCell ⟨gb, 0, none⟩ (.bool true)).setCell ⟨gb, 1, none⟩ (.int .i64 (P.rm i))).setCell ⟨gb, 2, none⟩ (.slice ae (butL (P.t i) kk (P.m i)).length ce) = v := ⟨_, rfl⟩
              rw [hW5e] at hW5 XB0 hke
              rw [hW5e]
              have XB : Hid (PrAt W5 gb true (P.rm i) ae (butL (P.t i) kk (P.m i)).length ce UE (selT (P.t i) (butL (P.t i) kk (P.m i)))) := ⟨XB0, hke⟩
              replace J := hid (J.out.up hW5)
              replace PA := hid (PA.out.up hW5)
              replace XA := hid (XA.out.up hW5)
              replace MK := hid (MK.out.up hW5)
              replace MC : Hid (W5.cell? ⟨bm, om + i * 3, none⟩ = some (.bool true) ∧ W5.cell? ⟨bm, om + i * 3 + 1, none⟩ = some (.int .i64 (P.rm i)) ∧ W5.cell? ⟨bm, om + i * 3 + 2, none⟩ = some (.slice am (P.m i) cm)) := ⟨by rw [hW5.cell (cell_lt MC.out.1)]; exact MC.out.1, by rw [hW5.cell (cell_lt MC.out.2.1)]; exact MC.out.2.1, by rw [hW5.cell (cell_lt MC.out.2.2)]; exact MC.out.2.2⟩
              clear hK K s1 s2 s3 f1 f2 f3 XB0 hke hW5 hW5e
              refine mixO_nil (by simp only [pickO, List.getElem?_cons_zero, List.getElem?_cons_succ]; exact rfl) ?_
              repeat (go_big_quiet_step (fail))
              refine wpQuiet_nil ?_
              clear F0 F1 F2 F3 F4 hne HDr
              go_wp2_with fail
              obtain ⟨b0, b1⟩ := J.out.a.cells
              obtain ⟨x0, x1, x2⟩ := XA.out.cells
              obtain ⟨y0, y1, y2⟩ := XB.out.cells
              obtain ⟨z0, z1, z2⟩ := PA.out.cells
              have M0 := MC.out.1
              have M1 := MC.out.2.1
              have M2 := MC.out.2.2
              have hne : Nonempty (Of (Below W5.heap.size W5)) := ⟨⟨W5, Below.refl _ _⟩⟩
              have F0 : ∀ u : Of (Below W5.heap.size W5), u.val.cell? _ = some _ := fun u => by rw [u.is.cell (cell_lt x0)]; exact x0
              have F1 : ∀ u : Of (Below W5.heap.size W5), u.val.cell? _ = some _ := fun u => by rw [u.is.cell (cell_lt x1)]; exact x1
              have F2 : ∀ u : Of (Below W5.heap.size W5), u.val.cell? _ = some _ := fun u => by rw [u.is.cell (cell_lt x2)]; exact x2
              have F3 : ∀ u : Of (Below W5.heap.size W5), u.val.cell? _ = some _ := fun u => by rw [u.is.cell (cell_lt y0)]; exact y0
              have F4 : ∀ u : Of (Below W5.heap.size W5), u.val.cell? _ = some _ := fun u => by rw [u.is.cell (cell_lt y1)]; exact y1
              have F5 : ∀ u : Of (Below W5.heap.size W5), u.val.cell? _ = some _ := fun u => by rw [u.is.cell (cell_lt y2)]; exact y2
              have F6 : ∀ u : Of (Below W5.heap.size W5), u.val.cell? _ = some _ := fun u => by rw [u.is.cell (cell_lt z0)]; exact z0
              have F7 : ∀ u : Of (Below W5.heap.size W5), u.val.cell? _ = some _ := fun u => by rw [u.is.cell (cell_lt z1)]; exact z1
              have F8 : ∀ u : Of (Below W5.heap.size W5), u.val.cell? _ = some _ := fun u => by rw [u.is.cell (cell_lt z2)]; exact z2
              have F9 : ∀ u : Of (Below W5.heap.size W5), u.val.cell? _ = some _ := fun u => by rw [u.is.cell (cell_lt b1)]; exact b1
              have G0 : ∀ u : Of (Below W5.heap.size W5), u.val.cell? _ = some _ := fun u => by rw [u.is.cell (cell_lt M0)]; exact M0
              have G1 : ∀ u : Of (Below W5.heap.size W5), u.val.cell? _ = some _ := fun u => by rw [u.is.cell (cell_lt M1)]; exact M1
              have G2 : ∀ u : Of (Below W5.heap.size W5), u.val.cell? _ = some _ := fun u => by rw [u.is.cell (cell_lt M2)]; exact M2
              clear b0 b1 x0 x1 x2 y0 y1 y2 z0 z1 z2 M0 M1 M2
              have HDr : Hid (Below W5.heap.size W5 W5.drew) := drew_below W5
              refine region_mixed (Below W5.heap.size W5) [([0, 1, 2, 3, 4, 5, 6, 7, 8], 9), ([10, 11, 12, 13, 14, 15, 16, 17, 18, 19, 20, 21, 22], 23)] [24, 25, 26] (by kernel_rfl) (by kernel_rfl) HDr.out ?_
              refine mixO_cons (by simp only [pickO, List.getElem?_cons_zero, List.getElem?_cons_succ]; exact rfl) (by simp only [pickO, List.getElem?_cons_zero, List.getElem?_cons_succ]; exact rfl) ?_
              repeat (go_big_quiet_step (fail))
              refine wpQuiet_nil ?_
              intro K hK
              have CS := hid (peSame true true (Z.rm i) (P.rm i) (XA.out.2.up HDr.out) (XB.out.2.up HDr.out))
              rw [HSame.out] at CS
              unfold peerV at CS
              go_wp2_with fail
              refine Calls.mono CS.out ?_
              rintro e s1 ⟨rfl, hbs⟩
              have HD1 := hid (HDr.out.trans (hbs.mono HDr.out.size))
              clear hbs CS
              go_wp2
              refine ⟨rfl, hK _ _ HD1.out ?_⟩
              clear hK K
              refine mixO_cons (by simp only [pickO, List.getElem?_cons_zero, List.getElem?_cons_succ]; exact rfl) (by simp only [pickO, List.getElem?_cons_zero, List.getElem?_cons_succ]; exact rfl) ?_
              repeat (go_big_quiet_step (fail))
              refine wpQuiet_nil ?_
              intro K hK
              have HD2 := HD1
              go_wp2
              refine ⟨rfl, hK _ _ HD2.out ?_⟩
              clear hK K
              refine mixO_nil (by simp only [pickO, List.getElem?_cons_zero, List.getElem?_cons_succ]; exact rfl) ?_
              repeat (go_big_quiet_step (fail))
              refine wpQuiet_nil ?_
              clear F0 F1 F2 F3 F4 F5 F6 F7 F8 F9 G0 G1 G2 hne
              go_wp2
              have JE := J.out.up HD2.out
              go_roundw
              case rel => exact ⟨i + 1, S, by omega, by go_num, ⟨JE.below, JE.a, JE.x, JE.mp.mono (by omega), JE.og⟩, HE⟩
              case measure => simp only [intOf]; omega
            · intro K hK
              go_wp2
              have hb3 := below_alloc D0 (.cells #[.bool false, .int .i64 0, .slice none 0 0] 47)
              have k3 := heap_alloc_new D0 (.cells #[.bool false, .int .i64 0, .slice none 0 0] 47)
              obtain ⟨r0, hr0⟩ : ∃ v, D0.alloc (.cells #[.bool false, .int .i64 0, .slice none 0 0] 47) = v := ⟨_, rfl⟩
              obtain ⟨gb, hgb⟩ : ∃ g, D0.heap.size = g := ⟨_, rfl⟩
              rw [hr0] at hb3 k3
              rw [hgb] at k3
              have HDr0 := hid (HDr.out.trans (hb3.mono HDr.out.size))
              have HGb : Hid (V3.heap.size ≤ gb) := by have := HDr.out.size; show _ ≤ _; omega
              refine ⟨rfl, hK _ _ (by rw [hr0]; exact HDr0.out) ?_⟩
              rw [hr0, hgb]
              have K3 := hid k3
              clear hK K hb3 k3
              refine mixO_cons (lq := []) rfl (by simp only [pickO, List.getElem?_cons_zero, List.getElem?_cons_succ]; exact rfl) ?_
              refine wpQuiet_nil ?_
              intro K hK
              have CD := hid (peDrop _ n2 PV b true (P.rm i) _ (P.m i) (UV i) (P.t i) kk r0 (J.out.a.2.1.up HDr0.out) (MK.out.up HDr0.out))
              unfold bookV peerV at CD
              go_wp2_with fail
              refine Calls.mono CD.out ?_
              rintro e r2 hd
              obtain ⟨hb, ae, ce, UE, rfl, hk, hnk⟩ := drop_opened (HF.out.mesh.peer i hlt).e hd
              have HDr2 := hid (HDr0.out.trans (hb.mono HDr0.out.size))
              have HK := hid hk
              have HNk := hid hnk
              have HGe : Hid (gb < r0.heap.size) := by show gb < r0.heap.size; rw [← hr0, ← hgb]; simp
              have k3 := stayB K3.out hb
              clear hd hb hk hnk CD
              go_wp2
              refine ⟨rfl, hK _ _ HDr2.out ?_⟩
              have K3' := hid k3
              clear hK K k3
              refine mixO_cons (by simp only [pickO, List.getElem?_cons_zero, List.getElem?_cons_succ]; exact rfl) (by simp only [pickO, List.getElem?_cons_zero, List.getElem?_cons_succ]; exact rfl) ?_
              repeat (go_big_quiet_step (fail))

              refine wpQuiet_nil ?_
              intro K hK
              obtain ⟨s1, s2, s3⟩ := three_at K3'.out
              have f1 := frozen_at (i := 0) K3'.out
              have f2 := frozen_at (i := 1) K3'.out
              have f3 := frozen_at (i := 2) K3'.out
              go_wp2
              have hW5 : Below V3.heap.size V3 (put3 r2 gb (.bool true) (.int .i64 (P.rm i)) (.slice ae (butL (P.t i) kk (P.m i)).length ce)) := put3_below HDr2.out HGb.out
              refine ⟨rfl, hK _ _ hW5 ?_⟩
              have XB0 := put3_whole K3'.out (.bool true) (.int .i64 (P.rm i)) (.slice ae (butL (P.t i) kk (P.m i)).length ce)
              have hke : KeSl (put3 r2 gb (.bool true) (.int .i64 (P.rm i)) (.slice ae (butL (P.t i) kk (P.m i)).length ce)) _ _ _ _ _ := kel_newput HK.out HNk.out HGe.out _ _ _
              unfold put3 at hW5 XB0 hke
              obtain ⟨W5, hW5e⟩ : ∃ v, ((r2.setCell ⟨gb, 0, none⟩ (.bool true)).setCell ⟨gb, 1, none⟩ (.int .i64 (P.rm i))).setCell ⟨gb, 2, none⟩ (.slice ae (butL (P.t i) kk (P.m i)).length ce) = v := ⟨_, rfl⟩
              rw [hW5e] at hW5 XB0 hke
              rw [hW5e]
              have XB : Hid (PrAt W5 gb true (P.rm i) ae (butL (P.t i) kk (P.m i)).length ce UE (selT (P.t i) (butL (P.t i) kk (P.m i)))) := ⟨XB0, hke⟩
              replace J := hid (J.out.up hW5)
              replace PA := hid (PA.out.up hW5)
              replace XA := hid (XA.out.up hW5)
              replace MK := hid (MK.out.up hW5)
              replace MC : Hid (W5.cell? ⟨bm, om + i * 3, none⟩ = some (.bool true) ∧ W5.cell? ⟨bm, om + i * 3 + 1, none⟩ = some (.int .i64 (P.rm i)) ∧ W5.cell? ⟨bm, om + i * 3 + 2, none⟩ = some (.slice am (P.m i) cm)) := ⟨by rw [hW5.cell (cell_lt MC.out.1)]; exact MC.out.1, by rw [hW5.cell (cell_lt MC.out.2.1)]; exact MC.out.2.1, by rw [hW5.cell (cell_lt MC.out.2.2)]; exact MC.out.2.2⟩
              clear hK K s1 s2 s3 f1 f2 f3 XB0 hke hW5 hW5e
              refine mixO_nil (by simp only [pickO, List.getElem?_cons_zero, List.getElem?_cons_succ]; exact rfl) ?_
              repeat (go_big_quiet_step (fail))
              refine wpQuiet_nil ?_
              clear F0 F1 F2 F3 F4 hne HDr
              go_wp2_with fail
              obtain ⟨b0, b1⟩ := J.out.a.cells
              obtain ⟨x0, x1, x2⟩ := XA.out.cells
              obtain ⟨y0, y1, y2⟩ := XB.out.cells
              obtain ⟨z0, z1, z2⟩ := PA.out.cells
              have M0 := MC.out.1
              have M1 := MC.out.2.1
              have M2 := MC.out.2.2
              have hne : Nonempty (Of (Below W5.heap.size W5)) := ⟨⟨W5, Below.refl _ _⟩⟩
              have F0 : ∀ u : Of (Below W5.heap.size W5), u.val.cell? _ = some _ := fun u => by rw [u.is.cell (cell_lt x0)]; exact x0
              have F1 : ∀ u : Of (Below W5.heap.size W5), u.val.cell? _ = some _ := fun u => by rw [u.is.cell (cell_lt x1)]; exact x1
              have F2 : ∀ u : Of (Below W5.heap.size W5), u.val.cell? _ = some _ := fun u => by rw [u.is.cell (cell_lt x2)]; exact x2
              have F3 : ∀ u : Of (Below W5.heap.size W5), u.val.cell? _ = some _ := fun u => by rw [u.is.cell (cell_lt y0)]; exact y0
              have F4 : ∀ u : Of (Below W5.heap.size W5), u.val.cell? _ = some _ := fun u => by rw [u.is.cell (cell_lt y1)]; exact y1
              have F5 : ∀ u : Of (Below W5.heap.size W5), u.val.cell? _ = some _ := fun u => by rw [u.is.cell (cell_lt y2)]; exact y2
              have F6 : ∀ u : Of (Below W5.heap.size W5), u.val.cell? _ = some _ := fun u => by rw [u.is.cell (cell_lt z0)]; exact z0
              have F7 : ∀ u : Of (Below W5.heap.size W5), u.val.cell? _ = some _ := fun u => by rw [u.is.cell (cell_lt z1)]; exact z1
              have F8 : ∀ u : Of (Below W5.heap.size W5), u.val.cell? _ = some _ := fun u => by rw [u.is.cell (cell_lt z2)]; exact z2
              have F9 : ∀ u : Of (Below W5.heap.size W5), u.val.cell? _ = some _ := fun u => by rw [u.is.cell (cell_lt b1)]; exact b1
              have G0 : ∀ u : Of (Below W5.heap.size W5), u.val.cell? _ = some _ := fun u => by rw [u.is.cell (cell_lt M0)]; exact M0
              have G1 : ∀ u : Of (Below W5.heap.size W5), u.val.cell? _ = some _ := fun u => by rw [u.is.cell (cell_lt M1)]; exact M1
              have G2 : ∀ u : Of (Below W5.heap.size W5), u.val.cell? _ = some _ := fun u => by rw [u.is.cell (cell_lt M2)]; exact M2
              clear b0 b1 x0 x1 x2 y0 y1 y2 z0 z1 z2 M0 M1 M2
              have HDr : Hid (Below W5.heap.size W5 W5.drew) := drew_below W5
              refine region_mixed (Below W5.heap.size W5) [([0, 1, 2, 3, 4, 5, 6, 7, 8], 9), ([10, 11, 12, 13, 14, 15, 16, 17, 18, 19, 20, 21, 22], 23)] [24, 25, 26] (by kernel_rfl) (by kernel_rfl) HDr.out ?_
              refine mixO_cons (by simp only [pickO, List.getElem?_cons_zero, List.getElem?_cons_succ]; exact rfl) (by simp only [pickO, List.getElem?_cons_zero, List.getElem?_cons_succ]; exact rfl) ?_
              repeat (go_big_quiet_step (fail))
              refine wpQuiet_nil ?_
              intro K hK
              have CS := hid (peSame true true (Z.rm i) (P.rm i) (XA.out.2.up HDr.out) (XB.out.2.up HDr.out))
              rw [HSame.out] at CS
              unfold peerV at CS
              go_wp2_with fail
              refine Calls.mono CS.out ?_
              rintro e s1 ⟨rfl, hbs⟩
              have HD1 := hid (HDr.out.trans (hbs.mono HDr.out.size))
              clear hbs CS
              go_wp2
              refine ⟨rfl, hK _ _ HD1.out ?_⟩
              clear hK K
              refine mixO_cons (by simp only [pickO, List.getElem?_cons_zero, List.getElem?_cons_succ]; exact rfl) (by simp only [pickO, List.getElem?_cons_zero, List.getElem?_cons_succ]; exact rfl) ?_
              repeat (go_big_quiet_step (fail))
              refine wpQuiet_nil ?_
              intro K hK
              have HD2 := HD1
              go_wp2
              refine ⟨rfl, hK _ _ HD2.out ?_⟩
              clear hK K
              refine mixO_nil (by simp only [pickO, List.getElem?_cons_zero, List.getElem?_cons_succ]; exact rfl) ?_
              repeat (go_big_quiet_step (fail))
              refine wpQuiet_nil ?_
              clear F0 F1 F2 F3 F4 F5 F6 F7 F8 F9 G0 G1 G2 hne
              go_wp2
              have JE := J.out.up HD2.out
              go_roundw
              case rel => exact ⟨i + 1, S, by omega, by go_num, ⟨JE.below, JE.a, JE.x, JE.mp.mono (by omega), JE.og⟩, HE⟩
              case measure => simp only [intOf]; omega
        | false =>
          rw [htk] at g0 f0 HHas HSame HAway
          have MC : Hid (wr.cell? ⟨bm, om + i * 3, none⟩ = some (.bool false) ∧ wr.cell? ⟨bm, om + i * 3 + 1, none⟩ = some (.int .i64 (P.rm i)) ∧ wr.cell? ⟨bm, om + i * 3 + 2, none⟩ = some (.slice am (P.m i) cm)) := ⟨f0, f1, f2⟩
          clear htk f0 f1 f2
          have hbA := below_alloc wr (.cells #[.bool false, .int .i64 (Z.rm i), .slice ak (Z.m i) ck] 47)
          have PA := hid (PrAt.box (th := false) (room := Z.rm i) G3.out)
          have HFd := hid (peFind false (Z.rm i) _ (Z.m i) (UV1 i) (Z.t i) kk _ PA.out.2)
          rw [HFa.out] at HFd
          unfold peerV at HFd
          replace J := hid (J.out.up hbA)
          replace MK := hid (MK.out.up hbA)
          obtain ⟨gp, hgp⟩ : ∃ g, wr.heap.size = g := ⟨_, rfl⟩
          obtain ⟨WA, hWA⟩ : ∃ v, wr.alloc (.cells #[.bool false, .int .i64 (Z.rm i), .slice ak (Z.m i) ck] 47) = v := ⟨_, rfl⟩
          rw [hWA] at J PA HFd MK
          have hbA2 := hbA
          rw [hWA] at hbA2
          replace MC : Hid (WA.cell? ⟨bm, om + i * 3, none⟩ = some (.bool false) ∧ WA.cell? ⟨bm, om + i * 3 + 1, none⟩ = some (.int .i64 (P.rm i)) ∧ WA.cell? ⟨bm, om + i * 3 + 2, none⟩ = some (.slice am (P.m i) cm)) := ⟨by rw [hbA2.cell (cell_lt MC.out.1)]; exact MC.out.1, by rw [hbA2.cell (cell_lt MC.out.2.1)]; exact MC.out.2.1, by rw [hbA2.cell (cell_lt MC.out.2.2)]; exact MC.out.2.2⟩
          rw [hgp] at PA
          obtain ⟨z0, z1, z2⟩ := PA.out.cells
          clear hbA hbA2
          go_wp2_with fail
          refine Calls.mono HFd.out ?_
          rintro e w2 ⟨rfl, hb⟩
          clear z0 z1 z2
          replace J := hid (J.out.up hb)
          replace PA := hid (PA.out.up hb)
          replace MK := hid (MK.out.up hb)
          replace MC : Hid (w2.cell? ⟨bm, om + i * 3, none⟩ = some (.bool false) ∧ w2.cell? ⟨bm, om + i * 3 + 1, none⟩ = some (.int .i64 (P.rm i)) ∧ w2.cell? ⟨bm, om + i * 3 + 2, none⟩ = some (.slice am (P.m i) cm)) := ⟨by rw [hb.cell (cell_lt MC.out.1)]; exact MC.out.1, by rw [hb.cell (cell_lt MC.out.2.1)]; exact MC.out.2.1, by rw [hb.cell (cell_lt MC.out.2.2)]; exact MC.out.2.2⟩
          clear hb HFd g0 g1 g2 G3 hWA
          have hhas : hasK Z kk i = false := by rw [HHas.out]; rfl
          have HE := hid (seen_skip HS.out hhas)
          replace HAway := hid (HAway.out (by first | rfl | trivial))
          obtain ⟨z0, z1, z2⟩ := PA.out.cells
          clear hhas
          obtain ⟨b0, b1⟩ := J.out.x.cells
          obtain ⟨z0, z1, z2⟩ := PA.out.cells
          have CD := hid (peDrop _ n2 PV1 b false (Z.rm i) _ (Z.m i) (UV1 i) (Z.t i) kk w2 J.out.x.2.1 PA.out.2)
          unfold bookV peerV at CD
          go_wp2_with fail
          refine Calls.mono CD.out ?_
          rintro e t1 hd
          obtain ⟨hb, aa, ca, UA, rfl, hk, _⟩ := drop_opened (HF.out.right.peer i hlt).e hd
          have hb2 := below_alloc t1 (.cells #[.bool false, .int .i64 (Z.rm i), .slice aa (butL (Z.t i) kk (Z.m i)).length ca] 47)
          have hx := PrAt.box (th := false) (room := Z.rm i) hk
          obtain ⟨ga, hga⟩ : ∃ g, t1.heap.size = g := ⟨_, rfl⟩
          obtain ⟨V3, hV3⟩ : ∃ v, World.alloc t1 (.cells #[.bool false, .int .i64 (Z.rm i), .slice aa (butL (Z.t i) kk (Z.m i)).length ca] 47) = v := ⟨_, rfl⟩
          rw [hV3] at hb2 hx
          rw [hga] at hx
          replace hb := hb.trans (hb2.mono hb.size)
          replace J := hid (J.out.up hb)
          replace PA := hid (PA.out.up hb)
          have XA := hid hx
          replace MK := hid (MK.out.up hb)
          replace MC : Hid (V3.cell? ⟨bm, om + i * 3, none⟩ = some (.bool false) ∧ V3.cell? ⟨bm, om + i * 3 + 1, none⟩ = some (.int .i64 (P.rm i)) ∧ V3.cell? ⟨bm, om + i * 3 + 2, none⟩ = some (.slice am (P.m i) cm)) := ⟨by rw [hb.cell (cell_lt MC.out.1)]; exact MC.out.1, by rw [hb.cell (cell_lt MC.out.2.1)]; exact MC.out.2.1, by rw [hb.cell (cell_lt MC.out.2.2)]; exact MC.out.2.2⟩
          clear hd hb hb2 hx hk CD b0 b1 z0 z1 z2
          go_wp2_with fail
          obtain ⟨b0, b1⟩ := J.out.a.cells
          have M0 := MC.out.1
          have M1 := MC.out.2.1
          have M2 := MC.out.2.2
          have hne : Nonempty (Of (Below V3.heap.size V3)) := ⟨⟨V3, Below.refl _ _⟩⟩
          have F0 : ∀ u : Of (Below V3.heap.size V3), u.val.cell? _ = some _ := fun u => by rw [u.is.cell (cell_lt b0)]; exact b0
          have F1 : ∀ u : Of (Below V3.heap.size V3), u.val.cell? _ = some _ := fun u => by rw [u.is.cell (cell_lt b1)]; exact b1
          have F2 : ∀ u : Of (Below V3.heap.size V3), u.val.cell? _ = some _ := fun u => by rw [u.is.cell (cell_lt M0)]; exact M0
          have F3 : ∀ u : Of (Below V3.heap.size V3), u.val.cell? _ = some _ := fun u => by rw [u.is.cell (cell_lt M1)]; exact M1
          have F4 : ∀ u : Of (Below V3.heap.size V3), u.val.cell? _ = some _ := fun u => by rw [u.is.cell (cell_lt M2)]; exact M2
          clear b0 b1 M0 M1 M2
          obtain ⟨D0, hD0⟩ : ∃ u, V3.drew = u := ⟨_, rfl⟩
          have HDr : Hid (Below V3.heap.size V3 D0) := by rw [← hD0]; exact drew_below V3
          refine region_fork (Below V3.heap.size V3) [0, 1, 2, 3, 4, 5, 6, 7] 8 12 [([9, 10, 11], 12), ([], 13)] [([], 8), ([9, 10, 11], 13)] [14] (by kernel_rfl) (by kernel_rfl) (by rw [hD0]; exact HDr.out) (by simp only [pickO, List.getElem?_cons_zero, List.getElem?_cons_succ]; exact rfl) (by simp only [pickO, List.getElem?_cons_zero, List.getElem?_cons_succ]; exact rfl) (by simp only [pickO, List.getElem?_cons_zero, List.getElem?_cons_succ]; exact rfl) ?_
          repeat (go_big_quiet_step (fail))
          refine wpQuiet_nil ?_
          rw [hD0]
          clear hD0
          refine ⟨?_, ?_⟩
          · intro K hK
            have CD := hid (peDrop _ n2 PV b false (P.rm i) _ (P.m i) (UV i) (P.t i) kk D0 (J.out.a.2.1.up HDr.out) (MK.out.up HDr.out))
            unfold bookV peerV at CD
            go_wp2_with fail
            refine Calls.mono CD.out ?_
            rintro e r1 hd
            obtain ⟨hb, ae, ce, UE, rfl, hk, hnk⟩ := drop_opened (HF.out.mesh.peer i hlt).e hd
            have HDr1 := hid (HDr.out.trans (hb.mono HDr.out.size))
            have HK := hid hk
            clear hd hb hk hnk CD
            go_wp2
            refine ⟨rfl, hK _ _ HDr1.out ?_⟩
            clear hK K
            refine mixO_cons (by simp only [pickO, List.getElem?_cons_zero, List.getElem?_cons_succ]; exact rfl) (by simp only [pickO, List.getElem?_cons_zero, List.getElem?_cons_succ]; exact rfl) ?_
            repeat (go_big_quiet_step (fail))
            refine wpQuiet_nil ?_
            intro K hK
            go_wp2
            have hb3 := below_alloc r1 (.cells #[.bool false, .int .i64 0, .slice none 0 0] 47)
            have k3 := heap_alloc_new r1 (.cells #[.bool false, .int .i64 0, .slice none 0 0] 47)
            obtain ⟨r2, hr2⟩ : ∃ v, r1.alloc (.cells #[.bool false, .int .i64 0, .slice none 0 0] 47) = v := ⟨_, rfl⟩
            obtain ⟨gb, hgb⟩ : ∃ g, r1.heap.size = g := ⟨_, rfl⟩
            rw [hr2] at hb3 k3
            rw [hgb] at k3
            have HDr2 := hid (HDr1.out.trans (hb3.mono HDr1.out.size))
            have HB3 := hid hb3
            have HGe : Hid (r1.heap.size ≤ gb) := Nat.le_of_eq hgb
            have HGb : Hid (V3.heap.size ≤ gb) := by have := HDr1.out.size; show _ ≤ _; omega
            refine ⟨rfl, hK _ _ (by rw [hr2]; exact HDr2.out) ?_⟩
            rw [hr2, hgb]
            have K3' := hid k3
            clear hK K k3
            clear hb3
            refine mixO_cons (lq := []) rfl (by simp only [pickO, List.getElem?_cons_zero, List.getElem?_cons_succ]; exact rfl) ?_

            refine wpQuiet_nil ?_
            intro K hK
            obtain ⟨s1, s2, s3⟩ := three_at K3'.out
            have f1 := frozen_at (i := 0) K3'.out
            have f2 := frozen_at (i := 1) K3'.out
            have f3 := frozen_at (i := 2) K3'.out
            go_wp2
            have hW5 : Below V3.heap.size V3 (put3 r2 gb (.bool false) (.int .i64 (P.rm i)) (.slice ae (butL (P.t i) kk (P.m i)).length ce)) := put3_below HDr2.out HGb.out
            refine ⟨rfl, hK _ _ hW5 ?_⟩
            have XB0 := put3_whole K3'.out (.bool false) (.int .i64 (P.rm i)) (.slice ae (butL (P.t i) kk (P.m i)).length ce)
            have hke : KeSl (put3 r2 gb (.bool false) (.int .i64 (P.rm i)) (.slice ae (butL (P.t i) kk (P.m i)).length ce)) _ _ _ _ _ := HK.out.up (put3_below HB3.out HGe.out)
            unfold put3 at hW5 XB0 hke
            obtain ⟨W5, hW5e⟩ : ∃ v, ((r2.setCell ⟨gb, 0, none⟩ (.bool false)).setCell ⟨gb, 1, none⟩ (.int .i64 (P.rm i))).setCell ⟨gb, 2, none⟩ (.slice ae (butL (P.t i) kk (P.m i)).length ce) = v := ⟨_, rfl⟩
            rw [hW5e] at hW5 XB0 hke
            rw [hW5e]
            have XB : Hid (PrAt W5 gb false (P.rm i) ae (butL (P.t i) kk (P.m i)).length ce UE (selT (P.t i) (butL (P.t i) kk (P.m i)))) := ⟨XB0, hke⟩
            replace J := hid (J.out.up hW5)
            replace PA := hid (PA.out.up hW5)
            replace XA := hid (XA.out.up hW5)
            replace MK := hid (MK.out.up hW5)
            replace MC : Hid (W5.cell? ⟨bm, om + i * 3, none⟩ = some (.bool false) ∧ W5.cell? ⟨bm, om + i * 3 + 1, none⟩ = some (.int .i64 (P.rm i)) ∧ W5.cell? ⟨bm, om + i * 3 + 2, none⟩ = some (.slice am (P.m i) cm)) := ⟨by rw [hW5.cell (cell_lt MC.out.1)]; exact MC.out.1, by rw [hW5.cell (cell_lt MC.out.2.1)]; exact MC.out.2.1, by rw [hW5.cell (cell_lt MC.out.2.2)]; exact MC.out.2.2⟩
            clear hK K s1 s2 s3 f1 f2 f3 XB0 hke hW5 hW5e
            refine mixO_nil (by simp only [pickO, List.getElem?_cons_zero, List.getElem?_cons_succ]; exact rfl) ?_
            repeat (go_big_quiet_step (fail))
            refine wpQuiet_nil ?_
            clear F0 F1 F2 F3 F4 hne HDr
            go_wp2_with fail
            obtain ⟨b0, b1⟩ := J.out.a.cells
            obtain ⟨x0, x1, x2⟩ := XA.out.cells
            obtain ⟨y0, y1, y2⟩ := XB.out.cells
            obtain ⟨z0, z1, z2⟩ := PA.out.cells
            have M0 := MC.out.1
            have M1 := MC.out.2.1
            have M2 := MC.out.2.2
            have hne : Nonempty (Of (Below W5.heap.size W5)) := ⟨⟨W5, Below.refl _ _⟩⟩
            have F0 : ∀ u : Of (Below W5.heap.size W5), u.val.cell? _ = some _ := fun u => by rw [u.is.cell (cell_lt x0)]; exact x0
            have F1 : ∀ u : Of (Below W5.heap.size W5), u.val.cell? _ = some _ := fun u => by rw [u.is.cell (cell_lt x1)]; exact x1
            have F2 : ∀ u : Of (Below W5.heap.size W5), u.val.cell? _ = some _ := fun u => by rw [u.is.cell (cell_lt x2)]; exact x2
            have F3 : ∀ u : Of (Below W5.heap.size W5), u.val.cell? _ = some _ := fun u => by rw [u.is.cell (cell_lt y0)]; exact y0
            have F4 : ∀ u : Of (Below W5.heap.size W5), u.val.cell? _ = some _ := fun u => by rw [u.is.cell (cell_lt y1)]; exact y1
            have F5 : ∀ u : Of (Below W5.heap.size W5), u.val.cell? _ = some _ := fun u => by rw [u.is.cell (cell_lt y2)]; exact y2
            have F6 : ∀ u : Of (Below W5.heap.size W5), u.val.cell? _ = some _ := fun u => by rw [u.is.cell (cell_lt z0)]; exact z0
            have F7 : ∀ u : Of (Below W5.heap.size W5), u.val.cell? _ = some _ := fun u => by rw [u.is.cell (cell_lt z1)]; exact z1
            have F8 : ∀ u : Of (Below W5.heap.size W5), u.val.cell? _ = some _ := fun u => by rw [u.is.cell (cell_lt z2)]; exact z2
            have F9 : ∀ u : Of (Below W5.heap.size W5), u.val.cell? _ = some _ := fun u => by rw [u.is.cell (cell_lt b1)]; exact b1
            have G0 : ∀ u : Of (Below W5.heap.size W5), u.val.cell? _ = some _ := fun u => by rw [u.is.cell (cell_lt M0)]; exact M0
            have G1 : ∀ u : Of (Below W5.heap.size W5), u.val.cell? _ = some _ := fun u => by rw [u.is.cell (cell_lt M1)]; exact M1
            have G2 : ∀ u : Of (Below W5.heap.size W5), u.val.cell? _ = some _ := fun u => by rw [u.is.cell (cell_lt M2)]; exact M2
            clear b0 b1 x0 x1 x2 y0 y1 y2 z0 z1 z2 M0 M1 M2
            have HDr : Hid (Below W5.heap.size W5 W5.drew) := drew_below W5
            refine region_mixed (Below W5.heap.size W5) [([0, 1, 2, 3, 4, 5, 6, 7, 8], 9), ([10, 11, 12, 13, 14, 15, 16, 17, 18, 19, 20, 21, 22], 23)] [24, 25, 26] (by kernel_rfl) (by kernel_rfl) HDr.out ?_
            refine mixO_cons (by simp only [pickO, List.getElem?_cons_zero, List.getElem?_cons_succ]; exact rfl) (by simp only [pickO, List.getElem?_cons_zero, List.getElem?_cons_succ]; exact rfl) ?_
            repeat (go_big_quiet_step (fail))
            refine wpQuiet_nil ?_
            intro K hK
            have CS := hid (peSame false false (Z.rm i) (P.rm i) (XA.out.2.up HDr.out) (XB.out.2.up HDr.out))
            rw [HSame.out] at CS
            unfold peerV at CS
            go_wp2_with fail
            refine Calls.mono CS.out ?_
            rintro e s1 ⟨rfl, hbs⟩
            have HD1 := hid (HDr.out.trans (hbs.mono HDr.out.size))
            clear hbs CS
            go_wp2
            refine ⟨rfl, hK _ _ HD1.out ?_⟩
            clear hK K
            refine mixO_cons (by simp only [pickO, List.getElem?_cons_zero, List.getElem?_cons_succ]; exact rfl) (by simp only [pickO, List.getElem?_cons_zero, List.getElem?_cons_succ]; exact rfl) ?_
            repeat (go_big_quiet_step (fail))
            refine wpQuiet_nil ?_
            intro K hK
            have CS := hid (peSame false false (Z.rm i) (P.rm i) (PA.out.2.up HD1.out) (MK.out.up HD1.out))
            rw [HAway.out] at CS
            unfold peerV at CS
            go_wp2_with fail
            refine Calls.mono CS.out ?_
            rintro e s2 ⟨rfl, hbs⟩
            have HD2 := hid (HD1.out.trans (hbs.mono HD1.out.size))
            clear hbs CS
            go_wp2
            refine ⟨rfl, hK _ _ HD2.out ?_⟩
            clear hK K
            refine mixO_nil (by simp only [pickO, List.getElem?_cons_zero, List.getElem?_cons_succ]; exact rfl) ?_
            repeat (go_big_quiet_step (fail))
            refine wpQuiet_nil ?_
            clear F0 F1 F2 F3 F4 F5 F6 F7 F8 F9 G0 G1 G2 hne
            go_wp2
            have JE := J.out.up HD2.out
            go_roundw
            case rel => exact ⟨i + 1, S, by omega, by go_num, ⟨JE.below, JE.a, JE.x, JE.mp.mono (by omega), JE.og⟩, HE⟩
            case measure => simp only [intOf]; omega
          · intro K hK
            go_wp2
            have hb3 := below_alloc D0 (.cells #[.bool false, .int .i64 0, .slice none 0 0] 47)
            have k3 := heap_alloc_new D0 (.cells #[.bool false, .int .i64 0, .slice none 0 0] 47)
            obtain ⟨r0, hr0⟩ : ∃ v, D0.alloc (.cells #[.bool false, .int .i64 0, .slice none 0 0] 47) = v := ⟨_, rfl⟩
            obtain ⟨gb, hgb⟩ : ∃ g, D0.heap.size = g := ⟨_, rfl⟩
            rw [hr0] at hb3 k3
            rw [hgb] at k3
            have HDr0 := hid (HDr.out.trans (hb3.mono HDr.out.size))
            have HGb : Hid (V3.heap.size ≤ gb) := by have := HDr.out.size; show _ ≤ _; omega
            refine ⟨rfl, hK _ _ (by rw [hr0]; exact HDr0.out) ?_⟩
            rw [hr0, hgb]
            have K3 := hid k3
            clear hK K hb3 k3
            refine mixO_cons (lq := []) rfl (by simp only [pickO, List.getElem?_cons_zero, List.getElem?_cons_succ]; exact rfl) ?_
            refine wpQuiet_nil ?_
            intro K hK
            have CD := hid (peDrop _ n2 PV b false (P.rm i) _ (P.m i) (UV i) (P.t i) kk r0 (J.out.a.2.1.up HDr0.out) (MK.out.up HDr0.out))
            unfold bookV peerV at CD
            go_wp2_with fail
            refine Calls.mono CD.out ?_
            rintro e r2 hd
            obtain ⟨hb, ae, ce, UE, rfl, hk, hnk⟩ := drop_opened (HF.out.mesh.peer i hlt).e hd
            have HDr2 := hid (HDr0.out.trans (hb.mono HDr0.out.size))
            have HK := hid hk
            have HNk := hid hnk
            have HGe : Hid (gb < r0.heap.size) := by show gb < r0.heap.size; rw [← hr0, ← hgb]; simp
            have k3 := stayB K3.out hb
            clear hd hb hk hnk CD
            go_wp2
            refine ⟨rfl, hK _ _ HDr2.out ?_⟩
            have K3' := hid k3
            clear hK K k3
            refine mixO_cons (by simp only [pickO, List.getElem?_cons_zero, List.getElem?_cons_succ]; exact rfl) (by simp only [pickO, List.getElem?_cons_zero, List.getElem?_cons_succ]; exact rfl) ?_
            repeat (go_big_quiet_step (fail))

            refine wpQuiet_nil ?_
            intro K hK
            obtain ⟨s1, s2, s3⟩ := three_at K3'.out
            have f1 := frozen_at (i := 0) K3'.out
            have f2 := frozen_at (i := 1) K3'.out
            have f3 := frozen_at (i := 2) K3'.out
            go_wp2
            have hW5 : Below V3.heap.size V3 (put3 r2 gb (.bool false) (.int .i64 (P.rm i)) (.slice ae (butL (P.t i) kk (P.m i)).length ce)) := put3_below HDr2.out HGb.out
            refine ⟨rfl, hK _ _ hW5 ?_⟩
            have XB0 := put3_whole K3'.out (.bool false) (.int .i64 (P.rm i)) (.slice ae (butL (P.t i) kk (P.m i)).length ce)
            have hke : KeSl (put3 r2 gb (.bool false) (.int .i64 (P.rm i)) (.slice ae (butL (P.t i) kk (P.m i)).length ce)) _ _ _ _ _ := kel_newput HK.out HNk.out HGe.out _ _ _
            unfold put3 at hW5 XB0 hke
            obtain ⟨W5, hW5e⟩ : ∃ v, ((r2.setCell ⟨gb, 0, none⟩ (.bool false)).setCell ⟨gb, 1, none⟩ (.int .i64 (P.rm i))).setCell ⟨gb, 2, none⟩ (.slice ae (butL (P.t i) kk (P.m i)).length ce) = v := ⟨_, rfl⟩
            rw [hW5e] at hW5 XB0 hke
            rw [hW5e]
            have XB : Hid (PrAt W5 gb false (P.rm i) ae (butL (P.t i) kk (P.m i)).length ce UE (selT (P.t i) (butL (P.t i) kk (P.m i)))) := ⟨XB0, hke⟩
            replace J := hid (J.out.up hW5)
            replace PA := hid (PA.out.up hW5)
            replace XA := hid (XA.out.up hW5)
            replace MK := hid (MK.out.up hW5)
            replace MC : Hid (W5.cell? ⟨bm, om + i * 3, none⟩ = some (.bool false) ∧ W5.cell? ⟨bm, om + i * 3 + 1, none⟩ = some (.int .i64 (P.rm i)) ∧ W5.cell? ⟨bm, om + i * 3 + 2, none⟩ = some (.slice am (P.m i) cm)) := ⟨by rw [hW5.cell (cell_lt MC.out.1)]; exact MC.out.1, by rw [hW5.cell (cell_lt MC.out.2.1)]; exact MC.out.2.1, by rw [hW5.cell (cell_lt MC.out.2.2)]; exact MC.out.2.2⟩
            clear hK K s1 s2 s3 f1 f2 f3 XB0 hke hW5 hW5e
            refine mixO_nil (by simp only [pickO, List.getElem?_cons_zero, List.getElem?_cons_succ]; exact rfl) ?_
            repeat (go_big_quiet_step (fail))
            refine wpQuiet_nil ?_
            clear F0 F1 F2 F3 F4 hne HDr
            go_wp2_with fail
            obtain ⟨b0, b1⟩ := J.out.a.cells
            obtain ⟨x0, x1, x2⟩ := XA.out.cells
            obtain ⟨y0, y1, y2⟩ := XB.out.cells
            obtain ⟨z0, z1, z2⟩ := PA.out.cells
            have M0 := MC.out.1
            have M1 := MC.out.2.1
            have M2 := MC.out.2.2
            have hne : Nonempty (Of (Below W5.heap.size W5)) := ⟨⟨W5, Below.refl _ _⟩⟩
            have F0 : ∀ u : Of (Below W5.heap.size W5), u.val.cell? _ = some _ := fun u => by rw [u.is.cell (cell_lt x0)]; exact x0
            have F1 : ∀ u : Of (Below W5.heap.size W5), u.val.cell? _ = some _ := fun u => by rw [u.is.cell (cell_lt x1)]; exact x1
            have F2 : ∀ u : Of (Below W5.heap.size W5), u.val.cell? _ = some _ := fun u => by rw [u.is.cell (cell_lt x2)]; exact x2
            have F3 : ∀ u : Of (Below W5.heap.size W5), u.val.cell? _ = some _ := fun u => by rw [u.is.cell (cell_lt y0)]; exact y0
            have F4 : ∀ u : Of (Below W5.heap.size W5), u.val.cell? _ = some _ := fun u => by rw [u.is.cell (cell_lt y1)]; exact y1
            have F5 : ∀ u : Of (Below W5.heap.size W5), u.val.cell? _ = some _ := fun u => by rw [u.is.cell (cell_lt y2)]; exact y2
            have F6 : ∀ u : Of (Below W5.heap.size W5), u.val.cell? _ = some _ := fun u => by rw [u.is.cell (cell_lt z0)]; exact z0
            have F7 : ∀ u : Of (Below W5.heap.size W5), u.val.cell? _ = some _ := fun u => by rw [u.is.cell (cell_lt z1)]; exact z1
            have F8 : ∀ u : Of (Below W5.heap.size W5), u.val.cell? _ = some _ := fun u => by rw [u.is.cell (cell_lt z2)]; exact z2
            have F9 : ∀ u : Of (Below W5.heap.size W5), u.val.cell? _ = some _ := fun u => by rw [u.is.cell (cell_lt b1)]; exact b1
            have G0 : ∀ u : Of (Below W5.heap.size W5), u.val.cell? _ = some _ := fun u => by rw [u.is.cell (cell_lt M0)]; exact M0
            have G1 : ∀ u : Of (Below W5.heap.size W5), u.val.cell? _ = some _ := fun u => by rw [u.is.cell (cell_lt M1)]; exact M1
            have G2 : ∀ u : Of (Below W5.heap.size W5), u.val.cell? _ = some _ := fun u => by rw [u.is.cell (cell_lt M2)]; exact M2
            clear b0 b1 x0 x1 x2 y0 y1 y2 z0 z1 z2 M0 M1 M2
            have HDr : Hid (Below W5.heap.size W5 W5.drew) := drew_below W5
            refine region_mixed (Below W5.heap.size W5) [([0, 1, 2, 3, 4, 5, 6, 7, 8], 9), ([10, 11, 12, 13, 14, 15, 16, 17, 18, 19, 20, 21, 22], 23)] [24, 25, 26] (by kernel_rfl) (by kernel_rfl) HDr.out ?_
            refine mixO_cons (by simp only [pickO, List.getElem?_cons_zero, List.getElem?_cons_succ]; exact rfl) (by simp only [pickO, List.getElem?_cons_zero, List.getElem?_cons_succ]; exact rfl) ?_
            repeat (go_big_quiet_step (fail))
            refine wpQuiet_nil ?_
            intro K hK
            have CS := hid (peSame false false (Z.rm i) (P.rm i) (XA.out.2.up HDr.out) (XB.out.2.up HDr.out))
            rw [HSame.out] at CS
            unfold peerV at CS
            go_wp2_with fail
            refine Calls.mono CS.out ?_
            rintro e s1 ⟨rfl, hbs⟩
            have HD1 := hid (HDr.out.trans (hbs.mono HDr.out.size))
            clear hbs CS
            go_wp2
            refine ⟨rfl, hK _ _ HD1.out ?_⟩
            clear hK K
            refine mixO_cons (by simp only [pickO, List.getElem?_cons_zero, List.getElem?_cons_succ]; exact rfl) (by simp only [pickO, List.getElem?_cons_zero, List.getElem?_cons_succ]; exact rfl) ?_
            repeat (go_big_quiet_step (fail))
            refine wpQuiet_nil ?_
            intro K hK
            have CS := hid (peSame false false (Z.rm i) (P.rm i) (PA.out.2.up HD1.out) (MK.out.up HD1.out))
            rw [HAway.out] at CS
            unfold peerV at CS
            go_wp2_with fail
            refine Calls.mono CS.out ?_
            rintro e s2 ⟨rfl, hbs⟩
            have HD2 := hid (HD1.out.trans (hbs.mono HD1.out.size))
            clear hbs CS
            go_wp2
            refine ⟨rfl, hK _ _ HD2.out ?_⟩
            clear hK K
            refine mixO_nil (by simp only [pickO, List.getElem?_cons_zero, List.getElem?_cons_succ]; exact rfl) ?_
            repeat (go_big_quiet_step (fail))
            refine wpQuiet_nil ?_
            clear F0 F1 F2 F3 F4 F5 F6 F7 F8 F9 G0 G1 G2 hne
            go_wp2
            have JE := J.out.up HD2.out
            go_roundw
            case rel => exact ⟨i + 1, S, by omega, by go_num, ⟨JE.below, JE.a, JE.x, JE.mp.mono (by omega), JE.og⟩, HE⟩
            case measure => simp only [intOf]; omega
      · have hie : np2 = i := by omega
        subst hie
        have hcount := seen_all HF.out HS.out
        obtain ⟨b0, b1⟩ := J.out.a.cells
        have hver : kk < n2 := by have := HF.out.ver_; omega
        obtain ⟨bv, ov, hav, hbv, v2⟩ := J.out.a.2.1.at_ hver
        subst hav
        have hofk := HF.out.of_
        rw [Int.toNat_natCast] at hofk
        rw [hofk] at v2
        have HBe := hid J.out.below
        have HDr : Hid (Below wr.heap.size wr wr.drew) := drew_below wr
        have hki : (kk : Int) < (n2 : Int) := by omega
        clear hofk
        go_wp2_with fail
        have hne : Nonempty (Of (Below wr.heap.size wr)) := ⟨⟨wr, Below.refl _ _⟩⟩
        have F0 : ∀ u : Of (Below wr.heap.size wr), u.val.cell? _ = some _ := fun u => by rw [u.is.cell (cell_lt b0)]; exact b0
        have F1 : ∀ u : Of (Below wr.heap.size wr), u.val.cell? _ = some _ := fun u => by rw [u.is.cell (cell_lt v2)]; exact v2
        have FL : ∀ u : Of (Below wr.heap.size wr), (Builtin.len_ #[51] 3 #[.map (some gm)]).run Tryz.prog u.val = .ok (.int .i64 (of : Int)) u.val := fun u => by
          have h := (J.out.mp.up u.is).len_
          rw [hcount] at h
          exact h
        clear hcount
        refine region_mixed (Below wr.heap.size wr) [] [0, 1, 2, 3, 4, 5, 6, 7, 8, 9, 10, 11] (by kernel_rfl) (by kernel_rfl) HDr.out ?_
        refine mixO_nil (by simp only [pickO, List.getElem?_cons_zero, List.getElem?_cons_succ]; exact rfl) ?_
        repeat (go_big_quiet_step (fail))
        refine wpQuiet_nil ?_
        clear F0 F1 FL hne
        go_wp2
        go_ret
        exact ⟨by simp, HBe.out.trans (HDr.out.mono HBe.out.size)⟩
  · have hcb : (er != 0) = true := by simpa using hc0
    clear hc0
    go_wp2_with fail
    refine Calls.mono (HW.out u2) ?_
    rintro e u4 ⟨rfl, hb⟩
    replace HB := hid (HB.out.trans (hb.mono HB.out.size))
    clear hb
    go_wp2
    go_ret
    exact ⟨rfl, HB.out⟩

  end Go.Proofs.YtikchpffkhohlaaGreat
