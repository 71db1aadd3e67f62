/- Several texts of one proof, in their order. -/
import Derived.Test.YtikchpffkhohlaaGreatASum33
import Derived.Test.YtikchpffkhohlaaGreatAuditFindsPart0
import Derived.Test.YtikchpffkhohlaaGreatASum6
import Derived.Test.YtikchpffkhohlaaGreatASum23

namespace Go.Proofs.YtikchpffkhohlaaGreat

open Go.RowKit CurveMath
set_option linter.unusedVariables false

theorem hasB_memF (l : List Int) (x : Int) : hasB (fun j => l.getD j 0) l.length x = decide (x ∈ l) := by
  rw [Bool.eq_iff_iff, hasB_iff, decide_eq_true_iff]
  constructor
  · rintro ⟨j, hj, rfl⟩
    rw [List.getD_eq_getElem?_getD, List.getElem?_eq_getElem hj]
    exact List.getElem_mem hj
  · intro h
    obtain ⟨j, hj, rfl⟩ := List.mem_iff_getElem.1 h
    exact ⟨j, hj, by rw [List.getD_eq_getElem?_getD, List.getElem?_eq_getElem hj]; rfl⟩

theorem bentP_nil (P : Ps) (ver c : Int) : bentP P ver [] c = P := by
  cases P
  unfold bentP
  simp

theorem mem_cast {W : List Nat} {k : Nat} : ((k : Nat) : Int) ∈ W.map (fun w : Nat => (w : Int)) ↔ k ∈ W := by
  rw [List.mem_map]
  exact ⟨fun ⟨x, hx, e⟩ => by obtain rfl : x = k := by omega
                              exact hx, fun h => ⟨k, h, rfl⟩⟩

theorem find_new {n : Nat} {b : Bk} {np : Nat} {P : Ps} {need of : Int} {len : Nat} {D : Nat → Int} {lp : Nat} {X : Nat → Int} (h : SaveOk n b np P need of len D lp X) {k : Nat} (hk : k < np) :
    (0 ≤ fstAt ((saveP n np P need of len D).t k).V (n : Int) ((saveP n np P need of len D).m k) 0 ↔ 0 ≤ gvn n np P of k) ∧ (0 ≤ gvn n np P of k → fstAt ((saveP n np P need of len D).t k).V (n : Int) ((saveP n np P need of len D).m k) 0 = ((P.m k : Nat) : Int)) := by
  have hold : ∀ i, i < P.m k → ((saveP n np P need of len D).t k).V i ≠ (n : Int) := fun i hi e => by
    rw [save_old h hk hi] at e
    have := ((h.mesh.peer k hk).right i hi).1.2
    omega
  by_cases c : 0 ≤ gvn n np P of k
  · have h2 := (save_has h hk)
    obtain ⟨e1, e2, _⟩ := save_new h hk c
    have hf : 0 ≤ fstAt ((saveP n np P need of len D).t k).V (n : Int) ((saveP n np P need of len D).m k) 0 := (fstAt_neg _ _ _ 0).2 ⟨P.m k, Nat.zero_le _, by rw [e1]; omega, e2⟩
    refine ⟨⟨fun _ => c, fun _ => hf⟩, fun _ => ?_⟩
    have h3 := (h2.2 c).1
    unfold atK at h3
    omega
  · refine ⟨⟨fun hf => ?_, fun hc => absurd hc c⟩, fun hc => absurd hc c⟩
    obtain ⟨i, _, hi, e⟩ := (fstAt_neg _ _ _ 0).1 hf
    rw [save_not c] at hi
    exact absurd e (hold i (by omega))

theorem find_once {n : Nat} {b : Bk} {np : Nat} {P : Ps} {need of : Int} {len : Nat} {D : Nat → Int} {lp : Nat} {X : Nat → Int} (h : SaveOk n b np P need of len D lp X) {k : Nat} (hk : k < np) (c : 0 ≤ gvn n np P of k) :
    ∀ j, j < (saveP n np P need of len D).m k → ((saveP n np P need of len D).t k).V j = (n : Int) → j = P.m k := by
  intro j hj e
  rw [(save_new h hk c).1] at hj
  by_cases hjm : j = P.m k
  · exact hjm
  · rw [save_old h hk (by omega)] at e
    have := ((h.mesh.peer k hk).right j (by omega)).1.2
    omega

theorem SaveOk.some {n : Nat} {b : Bk} {np : Nat} {P : Ps} {need of : Int} {len : Nat} {D : Nat → Int} {lp : Nat} {X : Nat → Int} (h : SaveOk n b np P need of len D lp X) : 1 ≤ np := by
  obtain ⟨hpl, _, _⟩ := splitE_ok h.split
  obtain ⟨b1, b2, b3⟩ := planOk_spec hpl
  obtain ⟨k, hk, _⟩ := h.all_given (q := 0) (by omega)
  omega

set_option maxHeartbeats 16000000 in
set_option maxRecDepth 10000 in
theorem auditFinds_of (vb : Value) (n : Nat) (PV : Nat → Value) (b : Bk) (vl : Value) (np : Nat) (KV : Nat → Value) (UV : Nat → Nat → Value) (P : Ps) (vd : Value) (len : Nat) (D : Nat → Int) (need of sz : Int) (vg : Value) (lg : Nat) (G : Nat → Int) (by_ : Int) (w : World)
    (hv : VeSl w w.heap.size vb n PV b) (hl : PsSl w w.heap.size vl np KV UV P) (hd : IntSl w w.heap.size vd len D) (hg : IntSl w w.heap.size vg lg G) :
    Calls Tryz.prog 8 #[meshV vb vl, vd, planV need of sz, vg, .int .i64 by_] w fun e w' => e = .returned (.bool true) ∧ Below w.heap.size w w' := by
  have HJ : Hid (∀ u : World, _) := fun u => judged_any meshCore auditOwes u
  have HV := hid hv
  have HL := hid hl
  have A3 := hid hd
  have AG := hid hg
  obtain ⟨ab, cb, rfl, _, _⟩ := hv
  obtain ⟨al, cl, rfl, _, _⟩ := hl
  obtain ⟨ad, cd, rfl, _, _⟩ := hd
  obtain ⟨ag, cg, rfl, ⟨hlg0, hlg⟩, _⟩ := hg
  have hb0 : Below w.heap.size w ((w.alloc (.cells #[.slice ab n cb, .slice al np cl] 27)).alloc (.cells #[.int .i64 need, .int .i64 of, .int .i64 sz] 30)) := ((Below.refl w.heap.size w).alloc (Nat.le_refl _) _).alloc (by simp) _
  have k0 := heap_two_old w (.cells #[.slice ab n cb, .slice al np cl] 27) (.cells #[.int .i64 need, .int .i64 of, .int .i64 sz] 30)
  have k1 := heap_two_new w (.cells #[.slice ab n cb, .slice al np cl] 27) (.cells #[.int .i64 need, .int .i64 of, .int .i64 sz] 30)
  obtain ⟨U, hU⟩ : ∃ u, (w.alloc (.cells #[.slice ab n cb, .slice al np cl] 27)).alloc (.cells #[.int .i64 need, .int .i64 of, .int .i64 sz] 30) = u := ⟨_, rfl⟩
  rw [hU] at hb0 k0 k1
  have HB0 := hid hb0
  have A0 : Hid (MsAt U w.heap.size ab n cb PV b al np cl KV UV P) := ⟨k0, HV.out.up hb0, HL.out.up hb0⟩
  have A1 : Hid (U.heap[w.heap.size + 1]? = some (.cells #[.int .i64 need, .int .i64 of, .int .i64 sz] 30 (0, 0))) := k1
  replace A3 := hid (A3.out.up hb0)
  replace AG := hid (AG.out.up hb0)
  clear hb0 k0 k1 HV HL
  obtain ⟨c0, c1⟩ := A0.out.cells
  obtain ⟨p0, p1, p2⟩ := three_at A1.out
  have CK := hid (msSave _ n PV b _ np KV UV P _ len D (.slice none 0 0) 0 (fun _ => 0) need of U A0.out.2.1 A0.out.2.2 A3.out ⟨none, 0, rfl, ⟨Nat.le_refl _, by omega⟩, Or.inl rfl⟩)
  unfold meshV at CK
  unfold meshV planV
  go_enter Tryz.func8, Tryz.ntmps8
  go_wp2_with fail
  refine Calls.mono CK.out ?_
  rintro e u1 ⟨hb, vb1, vl1, n1, np1, PV1, KV1, UV1, rfl, hn1, hp1, hv9, hl9, hw9, hpt⟩
  obtain ⟨ab1, cb1, rfl, _, _⟩ := id hv9
  obtain ⟨al1, cl1, rfl, _, _⟩ := id hl9
  unfold meshV
  obtain ⟨er, her⟩ : ∃ c, saveE n b np P need of len D 0 (fun _ => 0) = c := ⟨_, rfl⟩
  rw [her] at hn1 hp1
  rw [her]
  have HEr := hid her
  have hb2 := below_alloc u1 (.cells #[.slice ab1 n1 cb1, .slice al1 np1 cl1] 27)
  have hx := MsAt.box hv9 hl9
  have hnw : NewP U.heap.size (u1.alloc (.cells #[.slice ab1 n1 cb1, .slice al1 np1 cl1] 27)) (.slice al1 np1 cl1) np1 KV1 UV1 (saveP n np P need of len D) := hw9.up hb2
  have hlo : ∀ k i, k < np1 → i < (saveP n np P need of len D).m k → 1 ≤ ((saveP n np P need of len D).t k).L i → ∀ ad m c, UV1 k i = .slice (some ad) m c → U.heap.size ≤ ad.block ∧ ad.block < u1.heap.size := fun k i hk hi hL ad m c e => by
    have h9 := ((hw9.2 k hk).2 i hi).resolve_left (by omega) ad m c e
    exact ⟨h9.1, h9.2.1⟩
  obtain ⟨V1, hV1⟩ : ∃ v, World.alloc u1 (.cells #[.slice ab1 n1 cb1, .slice al1 np1 cl1] 27) = v := ⟨_, rfl⟩
  rw [hV1] at hb2 hx hnw
  have hgx0 : U.heap.size ≤ u1.heap.size := hb.size
  replace hb := hb.trans (hb2.mono hb.size)
  have HB := hid hb
  obtain ⟨gx, hgx⟩ : ∃ g, u1.heap.size = g := ⟨_, rfl⟩
  rw [hgx] at hx hlo hgx0
  have X1 := hid hx
  have HNw := hid hnw
  have HLo : Hid (∀ k i, k < np1 → i < (saveP n np P need of len D).m k → 1 ≤ ((saveP n np P need of len D).t k).L i → ∀ ad m c, UV1 k i = .slice (some ad) m c → U.heap.size ≤ ad.block ∧ ad.block < gx) := hlo
  have HPt := hid hpt
  have HGx := hid hgx0
  have HN1 := hid hn1
  have HP1 := hid hp1
  clear hb hb2 hx hnw hlo hw9 CK hv9 hl9 her c0 c1 p0 p1 p2 hU hn1 hp1 A3 hpt hgx0
  go_wp2_with fail
  refine Calls.mono (HJ.out V1) ?_
  rintro e u2 ⟨rfl, hb⟩
  replace HB := hid (HB.out.trans (hb.mono HB.out.size))
  replace X1 := hid (X1.out.up hb)
  replace HNw := hid (HNw.out.up hb)
  clear hb hV1
  by_cases hc0 : er = 0
  · subst hc0
    have HS := hid (saveE_ok HEr.out)
    obtain rfl : n1 = n + 1 := by have := HN1.out; rw [if_pos rfl] at this; exact this
    obtain rfl : np1 = np := by have := HP1.out; rw [if_pos rfl] at this; exact this
    have h8 : np1 ≤ 8 := HS.out.mesh.few
    have h1 : 1 ≤ np1 := HS.out.some
    have hn12 : n + 1 ≤ 12 := (right_of HS.out.right.book).le
    obtain ⟨hpl, _, hD⟩ := splitE_ok HS.out.split
    obtain ⟨b1, b2, b3⟩ := planOk_spec hpl
    have hrw := rowsN_bd b1 b3
    obtain ⟨c, hc⟩ : ∃ c : Int, 1 + by_ % 30 = c := ⟨_, rfl⟩
    have hcb : 1 ≤ c ∧ c ≤ 30 := by omega
    have HNo : Hid (NoneOf P np1 (n : Int)) := fun k hk i hi e => by
      have := ((HS.out.mesh.peer k hk).right i hi).1.2
      omega
    have HMp := hid (HPt.out.1 HNo.out)
    obtain ⟨bq, hbq⟩ : ∃ q : Nat, (of.toNat - need.toNat) / 2 = q := ⟨_, rfl⟩
    have hbi : (of - need) / 2 = (bq : Int) := by omega
    have HBq := hid hbq
    have hbq8 : bq ≤ 4 := by omega
    have HC := hid hc
    have HTail : Hid (∀ W : List Nat, W.Nodup → (∀ x, x ∈ W → x < np1 ∧ 0 ≤ gvn n np1 P of x) → W.length ≤ bq →
        rsE (n + 1) (saveB n b need of len 0 (fun _ => 0)) np1 (bentP (saveP n np1 P need of len D) (n : Int) W c) (n : Int) = 0 ∧ blL (saveB n b need of len 0 (fun _ => 0)) np1 (bentP (saveP n np1 P need of len D) (n : Int) W c) (n : Int) = srt (W.map fun w : Nat => (w : Int)) ∧
        laN (saveB n b need of len 0 (fun _ => 0)) np1 (bentP (saveP n np1 P need of len D) (n : Int) W c) (n : Int) = 0 ∧ verM (n + 1) (saveB n b need of len 0 (fun _ => 0)) np1 (bentP (saveP n np1 P need of len D) (n : Int) W c) (n : Int) = 0 ∧
        mendE (n + 1) (saveB n b need of len 0 (fun _ => 0)) np1 (bentP (saveP n np1 P need of len D) (n : Int) W c) (n : Int) = 0 ∧
        rsE (n + 1) (saveB n b need of len 0 (fun _ => 0)) np1 (mendP (saveB n b need of len 0 (fun _ => 0)) np1 (bentP (saveP n np1 P need of len D) (n : Int) W c) (n : Int)) (n : Int) = 0 ∧
        blL (saveB n b need of len 0 (fun _ => 0)) np1 (mendP (saveB n b need of len 0 (fun _ => 0)) np1 (bentP (saveP n np1 P need of len D) (n : Int) W c) (n : Int)) (n : Int) = []) := fun W q1 q2 q3 => by
      have hB : BentOk n b np1 P need of len D 0 (fun _ => 0) W c := ⟨HS.out, q2, q1, by omega, hcb⟩
      obtain ⟨m1, _, m3, _⟩ := mend_blame hB.mends
      refine ⟨hB.found.1, hB.blame.1, hB.blame.2, ?_, hB.mends, m1, m3⟩
      unfold verM
      rw [if_pos (hB.save.right.bent _ _ _).e, if_pos ⟨by omega, by omega⟩]
    have HFst : Hid (∀ k, k < np1 → (0 ≤ fstAt ((saveP n np1 P need of len D).t k).V (n : Int) ((saveP n np1 P need of len D).m k) 0 ↔ 0 ≤ gvn n np1 P of k) ∧ (0 ≤ gvn n np1 P of k → fstAt ((saveP n np1 P need of len D).t k).V (n : Int) ((saveP n np1 P need of len D).m k) 0 = ((P.m k : Nat) : Int))) := fun k hk => find_new HS.out hk
    have HAt : Hid (∀ k, k < np1 → 0 ≤ gvn n np1 P of k → fstAt ((saveP n np1 P need of len D).t k).V (n : Int) ((saveP n np1 P need of len D).m k) 0 = ((P.m k : Nat) : Int)) := fun k hk hc => (find_new HS.out hk).2 hc
    have HOnce : Hid (∀ k, k < np1 → 0 ≤ gvn n np1 P of k → ∀ j, j < (saveP n np1 P need of len D).m k → ((saveP n np1 P need of len D).t k).V j = (n : Int) → j = P.m k) := fun k hk hc => find_once HS.out hk hc
    obtain ⟨R, hR⟩ : ∃ R, rowsN need (len : Int) = R := ⟨_, rfl⟩
    have HNew : Hid (∀ k, k < np1 → 0 ≤ gvn n np1 P of k → (saveP n np1 P need of len D).m k = P.m k + 1 ∧ ((saveP n np1 P need of len D).t k).V (P.m k) = (n : Int) ∧ ((saveP n np1 P need of len D).t k).L (P.m k) = R ∧ (0 ≤ ((saveP n np1 P need of len D).t k).X (P.m k) 0 ∧ ((saveP n np1 P need of len D).t k).X (P.m k) 0 ≤ 30)) := fun k hk hc => by
      obtain ⟨q1, q2, _, q4, q5⟩ := save_new HS.out hk hc
      rw [← hR]
      exact ⟨q1, q2, q4, by rw [q5]; exact shv_num _ _ _ _ _⟩
    rw [hR] at hrw
    have hr1 : 1 ≤ R ∧ R ≤ 24 := by omega
    have J0 : Hid (FdInv U gx u2.heap.size u2 ab1 (n + 1) cb1 PV1 (saveB n b need of len 0 (fun _ => 0)) al1 np1 cl1 KV1 UV1 (bentP (saveP n np1 P need of len D) (n : Int) [] c) (.slice none 0 0) (([] : List Nat).map fun k : Nat => (k : Int))) := by
      show FdInv _ _ _ _ _ _ _ _ _ _ _ _ _ _ _ _ _
      rw [bentP_nil]
      exact ⟨HB.out, HGx.out, (Array.getElem?_eq_some_iff.1 X1.out.1).1, Nat.le_refl _, X1.out.1, X1.out.2.1, X1.out.2.2, fun k i hk hi hL ad m cc e => ⟨(HLo.out k i hk hi hL ad m cc e).1, (HLo.out k i hk hi hL ad m cc e).2, ((HNw.out.2 k hk).2 i hi).resolve_left (by omega) ad m cc e |>.2.2⟩, World.ownsRow_nil _ _ _ _⟩
    have A0x := hid (stayB A0.out.1 HB.out)
    obtain ⟨c0, c1⟩ := two_at A0x.out
    obtain ⟨Q, hQ⟩ : ∃ Q, saveP n np1 P need of len D = Q := ⟨_, rfl⟩
    obtain ⟨B', hB'⟩ : ∃ B', saveB n b need of len 0 (fun _ => 0) = B' := ⟨_, rfl⟩
    simp only [hQ, hB'] at HTail HFst HAt HOnce HNew HMp J0
    clear hc hbq hpl hD HPt HN1 HP1 HNw HLo hQ hB' hR
    go_wp2
    clear c0 c1
    go_loopw [14, 46] (fun vw iv wr => ∃ (j : Nat) (W : List Nat), j ≤ lg ∧ iv = .int .i64 j ∧ Hid (FdInv U gx u2.heap.size wr ab1 (n + 1) cb1 PV1 B' al1 np1 cl1 KV1 UV1 (bentP Q (n : Int) W c) vw (W.map fun k : Nat => (k : Int))) ∧ Hid (W.Nodup ∧ (∀ x, x ∈ W → x < np1 ∧ 0 ≤ gvn n np1 P of x) ∧ W.length ≤ bq)) (fun _ iv _ => lg - (intOf iv).toNat)
    case atStart => exact ⟨0, [], Nat.zero_le _, rfl, J0, ⟨List.nodup_nil, fun x hx => by simp at hx, Nat.zero_le _⟩⟩
    case round =>
      obtain ⟨j, W, hj, rfl, J, HW⟩ := hrel
      obtain ⟨aw, cw, hvs⟩ := own_shapeA J.out.own
      rw [List.length_map] at hvs
      subst hvs
      obtain ⟨p0, p1, p2⟩ := three_at (stayB A1.out J.out.below)
      obtain ⟨c0, c1⟩ := two_at J.out.box
      have hwl := HW.out.2.2
      by_cases hlt : j < lg
      · have hji : (j : Int) < (lg : Int) := by omega
        obtain ⟨_, _, he, _, h2⟩ := AG.out
        injection he with e1 _ e3
        subst e1 e3
        rcases h2 with h0 | ⟨bg, og, rfl, hbg, hxg⟩
        · omega
        obtain ⟨gj, hgj⟩ : ∃ g, G j = g := ⟨_, rfl⟩
        have y0 : wr.cell? ⟨bg, og + j, none⟩ = some (.int .i64 gj) := by rw [J.out.below.cell hbg, ← hgj]; exact hxg j hlt
        clear hxg hgj
        by_cases hful : W.length = bq
        · have hfi : ((W.length : Int) == (bq : Int)) = true := by rw [beq_iff_eq]; omega
          clear hful
          obtain ⟨t1, t2, t3, t4, t5, t6, t7⟩ := HTail.out W HW.out.1 HW.out.2.1 HW.out.2.2
          have T1 := hid t1
          have T2 := hid t2
          have T3 := hid t3
          have T4 := hid t4
          have T5 := hid t5
          have T6 := hid t6
          have T7 := hid t7
          have hwl := HW.out.2.2
          clear t1 t2 t3 t4 t5 t6 t7
          have HSo := hid (sort_row J.out.own (by rw [List.length_map]; omega))
          go_wp2_with fail
          refine Calls.mono HSo.out ?_
          rintro e w6 ⟨rfl, ho6, hg6⟩
          have J6 := hid (J.out.grow hg6 ho6)
          clear ho6 hg6 HSo
          clear p0 p1 p2 c0 c1
          obtain ⟨c0, c1⟩ := two_at J6.out.box
          have CB := hid (auBlamed _ (n + 1) PV1 B' _ np1 KV1 UV1 (bentP Q (n : Int) W c) (n : Int) w6 J6.out.ms.2.1 J6.out.ms.2.2)
          unfold blameV at CB
          rw [T1.out, if_pos rfl, T2.out] at CB
          unfold meshV at CB
          go_wp2_with fail
          refine Calls.mono CB.out ?_
          rintro e w7 ⟨hb7, vo, rfl, hlo⟩
          have J7 := hid (J6.out.up hb7)
          have HO7 := hid hlo
          obtain ⟨ao, co, rfl, _, _⟩ := hlo
          clear hb7 CB c0 c1
          obtain ⟨c0, c1⟩ := two_at J7.out.box
          have CL := hid (auLacking _ (n + 1) PV1 B' _ np1 KV1 UV1 (bentP Q (n : Int) W c) (n : Int) w7 J7.out.ms.2.1 J7.out.ms.2.2)
          unfold lackV at CL
          rw [T4.out, if_pos rfl, T3.out] at CL
          unfold meshV at CL
          go_wp2_with fail
          refine Calls.mono CL.out ?_
          rintro e w8 ⟨rfl, hb8⟩
          have J8 := hid (J7.out.up hb8)
          have HO8 := hid (HO7.out.up hb8)
          clear hb8 CL c0 c1
          have CE := hid (equal_isl HO8.out (own_isl J8.out.own (by rw [srt_len, List.length_map]; omega)))
          rw [eqB_yes rfl (fun _ _ => rfl)] at CE
          go_wp2_with fail
          refine Calls.mono CE.out ?_
          rintro e w9 ⟨rfl, q9, hq9⟩
          have hb9 : Below w8.heap.size w8 w9 := by rw [hq9]; exact ⟨rfl, rfl, rfl, Nat.le_refl _, fun _ _ => rfl⟩
          have J9 := hid (J8.out.up hb9)
          clear hq9 hb9 CE
          obtain ⟨c0, c1⟩ := two_at J9.out.box
          have CR := hid (meshCore.repair _ (n + 1) PV1 B' _ np1 KV1 UV1 (bentP Q (n : Int) W c) (n : Int) w9 J9.out.ms.2.1 J9.out.ms.2.2)
          rw [T5.out] at CR
          unfold meshV at CR
          go_wp2_with fail
          refine Calls.mono CR.out ?_
          rintro e u5 hM
          obtain ⟨hb, ab2, n2, cb2, PV2, al2, np2, cl2, KV2, UV2, rfl, hn2, hp2, hv2, hl2⟩ := mesh_open hM.old
          rw [if_pos rfl] at hn2 hp2
          subst hn2
          obtain rfl : np1 = np2 := hp2.symm
          have hb2 := below_alloc u5 (.cells #[.slice ab2 (n + 1) cb2, .slice al2 np1 cl2] 27)
          have hx := MsAt.box hv2 hl2
          obtain ⟨V2, hV2⟩ : ∃ v, World.alloc u5 (.cells #[.slice ab2 (n + 1) cb2, .slice al2 np1 cl2] 27) = v := ⟨_, rfl⟩
          rw [hV2] at hb2 hx
          have HB9 := hid (J9.out.below.trans ((hb.trans (hb2.mono hb.size)).mono J9.out.below.size))
          have Y := hid hx
          obtain ⟨d0, d1⟩ := hx.cells
          have CB := hid (auBlamed _ (n + 1) PV2 B' _ np1 KV2 UV2 (mendP B' np1 (bentP Q (n : Int) W c) (n : Int)) (n : Int) V2 Y.out.2.1 Y.out.2.2)
          unfold blameV at CB
          rw [T6.out, if_pos rfl, T7.out] at CB
          unfold meshV at CB
          clear hM hb hb2 hx hv2 hl2 CR c0 c1
          go_wp2_with fail
          refine Calls.mono CB.out ?_
          rintro e u6 ⟨hb6, vo, rfl, hlo⟩
          obtain ⟨ao2, co2, rfl, _, _⟩ := hlo
          have HB6 := hid (HB9.out.trans (hb6.mono HB9.out.size))
          clear hb6 CB d0 d1 hV2
          go_wp2
          go_ret
          exact ⟨rfl, HB0.out.trans (HB6.out.mono HB0.out.size)⟩
        · have hfi : ((W.length : Int) == (bq : Int)) = false := by rw [beq_eq_false_iff_ne]; omega
          have hnz : ((np1 : Int) == 0) = false := by rw [beq_eq_false_iff_ne]; omega
          obtain ⟨kk, hkk⟩ : ∃ k : Nat, gj % (np1 : Int) = (k : Int) := ⟨(gj % (np1 : Int)).toNat, by have := Int.emod_nonneg gj (show (np1 : Int) ≠ 0 by omega); omega⟩
          have hkn : kk < np1 := by have := Int.emod_lt_of_pos gj (show 0 < (np1 : Int) by omega); omega
          have hki : (kk : Int) < (np1 : Int) := by omega
          have HKk := hid hkk
          clear hkk
          go_wp2_with fail
          refine Calls.mono (at_any _ _ (by omega) _) ?_
          rintro e wq ⟨rfl, hwq⟩
          subst wq
          rw [HKk.out]
          obtain ⟨bl, off, rfl, hbl, g0, g1, g2, g3⟩ := (J.out.ms.2.2).at hkn
          have G3 := hid g3
          obtain ⟨ak, ck, hke, _, hk3⟩ := g3
          rw [hke] at g2 G3
          replace g0 : wr.cell? ⟨bl, off + kk * 3, none⟩ = some (.bool (Q.th kk)) := g0
          replace g1 : wr.cell? ⟨bl, off + kk * 3 + 1, none⟩ = some (.int .i64 (Q.rm kk)) := g1
          replace g2 : wr.cell? ⟨bl, off + kk * 3 + 2, none⟩ = some (.slice ak (Q.m kk) ck) := g2
          have CS := hid (peFind (Q.th kk) (Q.rm kk) (.slice ak (Q.m kk) ck) (Q.m kk) (UV1 kk) ((bentP Q (n : Int) W c).t kk) (n : Int) wr G3.out)
          rw [(bent_VN kk).1] at CS
          obtain ⟨at9, hat⟩ : ∃ a, fstAt (Q.t kk).V (n : Int) (Q.m kk) 0 = a := ⟨_, rfl⟩
          have hF := HFst.out kk hkn
          rw [hat] at hF CS
          have HF := hid hF
          have HK3 := hid hk3
          have HKe := hid hke
          have HBl := hid hbl
          have HG2 := hid g2
          unfold peerV at CS
          clear hF hat hk3 hke
          go_wp2_with fail
          refine Calls.mono CS.out ?_
          rintro e w2 ⟨rfl, hb2⟩
          have J2 := hid (J.out.up hb2)
          have HB2 := hid hb2
          clear hb2 CS c0 c1 p0 p1 p2 y0 g0 g1 g2
          by_cases hneg : at9 < 0
          · go_wp2
            go_roundw
            case rel => exact ⟨j + 1, W, by omega, by go_num, J2, HW⟩
            case measure => simp only [intOf]; omega
          · have hcg := HF.out.1.1 (by omega)
            obtain rfl : at9 = ((P.m kk : Nat) : Int) := HF.out.2 hcg
            have HCg := hid hcg
            have CC := hid (contains_sl (own_isl J2.out.own (by rw [List.length_map]; omega)) (kk : Int))
            rw [hasB_memF] at CC
            have hnn : ¬ ((P.m kk : Nat) : Int) < 0 := hneg
            clear hcg hneg
            by_cases hin : kk ∈ W
            · rw [decide_eq_true (mem_cast.2 hin)] at CC
              clear hin
              go_wp2_with fail
              refine Calls.mono CC.out ?_
              rintro e w3 ⟨rfl, hw3⟩
              subst w3
              clear CC
              go_wp2
              go_roundw
              case rel => exact ⟨j + 1, W, by omega, by go_num, J2, HW⟩
              case measure => simp only [intOf]; omega
            · rw [decide_eq_false (fun h => hin (mem_cast.1 h))] at CC
              have HIn := hid hin
              clear hin
              go_wp2_with fail
              refine Calls.mono CC.out ?_
              rintro e w3 ⟨rfl, hw3⟩
              subst w3
              clear CC
              obtain ⟨e1, e2, e3, e4⟩ := HNew.out kk hkn HCg.out
              have hqm : P.m kk < Q.m kk := by omega
              obtain ⟨m9, hm9⟩ : ∃ m, P.m kk = m := ⟨_, rfl⟩
              rw [hm9] at e2 e3 e4 hqm hnn ⊢
              have hqi : (m9 : Int) < (Q.m kk : Int) := by omega
              rcases HK3.out with h9 | ⟨bk, ok, rfl, hbk, hx⟩
              · exact absurd (show Q.m kk = 0 from h9) (by omega)
              obtain ⟨_, _, x2, x3⟩ := hx m9 hqm
              obtain ⟨au, cu, hue, _, hu⟩ := x3
              rw [(bent_VN kk).2.2, e3] at hue hu
              rcases hu with h9 | ⟨bu, ou, rfl, hbu, hu⟩
              · omega
              have hx0 := hu 0 (by omega)
              rw [bent_X, if_neg (fun h => HIn.out h.1), Nat.add_zero] at hx0
              obtain ⟨xx, hxx⟩ : ∃ x, (Q.t kk).X m9 0 = x := ⟨_, rfl⟩
              rw [hxx] at hx0 e4
              have r2 : w2.cell? ⟨bl, off + kk * 3 + 2, none⟩ = some (.slice (some ⟨bk, ok, none⟩) (Q.m kk) ck) := by rw [HB2.out.cell HBl.out]; exact HG2.out
              have r3 : w2.cell? ⟨bk, ok + m9 * 3 + 2, none⟩ = some (.slice (some ⟨bu, ou, none⟩) R cu) := by rw [HB2.out.cell hbk, x2, hue]
              have r4 : w2.cell? ⟨bu, ou, none⟩ = some (.int .i64 xx) := by rw [HB2.out.cell hbu]; exact hx0
              have r5 : w2.frozen? ⟨bu, ou, none⟩ = false := (J2.out.fr kk m9 hkn hqm (by rw [(bent_VN kk).2.2, e3]; omega) _ _ _ hue).2.2 ou
              obtain ⟨c0, c1⟩ := two_at J2.out.box
              obtain ⟨ya, hya⟩ : ∃ y, by_ % 30 = y := ⟨_, rfl⟩
              have hyb : 0 ≤ ya ∧ ya ≤ 29 := by omega
              have hcy : c = 1 + ya := by rw [← hya]; exact HC.out.symm
              have HYa := hid hya
              have HUe := hid hue
              have HXx := hid hxx
              have HM9 := hid hm9
              have E3 := hid e3
              have HQm := hid hqm
              have HOn := hid (HOnce.out kk hkn HCg.out)
              have HNx : Hid (∀ nq, FdInv U gx u2.heap.size ((w2.drewN nq).setCell ⟨bu, ou, none⟩ (.int .i64 ((xx + 1 + ya) % 31))) ab1 (n + 1) cb1 PV1 B' (some ⟨bl, off, none⟩) np1 cl1 KV1 UV1 (bentP Q (n : Int) (W ++ [kk]) c) (.slice aw W.length cw) (W.map fun k : Nat => (k : Int))) := fun nq => by
                have hbd : Below w2.heap.size w2 (w2.drewN nq) := ⟨rfl, rfl, rfl, Nat.le_refl _, fun _ _ => rfl⟩
                have hmp := HMp.out.congr (P' := bentP Q (n : Int) W c) rfl (fun q _ => ⟨(bent_VN q).1, (bent_VN q).2.2⟩)
                refine (J2.out.up hbd).bend hmp hkn (i := m9) hqm (by rw [(bent_VN kk).1]; exact e2) (fun j hj hv => ?_) (by rw [(bent_VN kk).2.2, e3]; exact hue) (by rw [(bent_VN kk).2.2, e3]; omega) _ ⟨rfl, rfl, rfl⟩ (fun q _ => ?_) (fun q j r _ _ => ?_)
                · rw [(bent_VN kk).1] at hv
                  rw [← hm9]
                  exact HOn.out j hj hv
                · obtain ⟨a1, a2, a3⟩ := bent_VN (P := Q) (ver := (n : Int)) (W := W ++ [kk]) (c := c) q
                  obtain ⟨a4, a5, a6⟩ := bent_VN (P := Q) (ver := (n : Int)) (W := W) (c := c) q
                  rw [a1, a2, a3, a4, a5, a6]
                  exact ⟨rfl, rfl, rfl⟩
                · have hatk : atK Q (n : Int) kk = m9 := by unfold atK; rw [HAt.out kk hkn HCg.out, Int.toNat_natCast, hm9]
                  have hyy : (xx + 1 + ya) % 31 = (xx + c) % 31 := by rw [hcy]; congr 1; omega
                  rw [bent_more HIn.out, hatk, hxx, hyy]
              clear hx x2 hue hu hx0 hxx hya e1 e2 e3 hm9 hqm hcy
              go_wp2_with fail
              refine region_quiet_tail 10 (by kernel_rfl) (by kernel_rfl) ?_
              simp only [List.take_succ_cons, List.take_zero, List.drop_succ_cons, List.drop_zero]
              repeat (go_big_quiet_step ((go_at_call 24; exact Calls.quiet_of_same (at_any _ _ (by omega) _))))
              refine wpQuiet_nil ?_
              intro _ hw1
              obtain ⟨nq, hw4⟩ := hw1
              subst hw4
              rw [HYa.out]
              have J4 := hid (HNx.out nq)
              have HNc : Hid (∀ j u, ([Value.int .i64 (kk : Int)] : List Value)[j]? = some u → (((w2.drewN nq).setCell ⟨bu, ou, none⟩ (.int .i64 ((xx + 1 + ya) % 31))).alloc (.cells #[.int .i64 (kk : Int)] 3)).cell? (Addr.add ⟨w2.heap.size, 0, none⟩ j) = some u) := fun j u hj => by
                have h9 := newCell ((w2.drewN nq).setCell ⟨bu, ou, none⟩ (.int .i64 ((xx + 1 + ya) % 31))) (kk : Int) 3 j u hj
                have hz : ((w2.drewN nq).setCell ⟨bu, ou, none⟩ (.int .i64 ((xx + 1 + ya) % 31))).heap.size = w2.heap.size := by simp [World.setCell]
                rw [hz] at h9
                exact h9
              have HBz : Hid (u2.heap.size ≤ (((w2.drewN nq).setCell ⟨bu, ou, none⟩ (.int .i64 ((xx + 1 + ya) % 31))).alloc (.cells #[.int .i64 (kk : Int)] 3)).heap.size) := Nat.le_trans J4.out.bs (below_alloc _ _).size
              obtain ⟨ii, hii, hzz0, hzz1, hzz2⟩ := info_parts Tryz.infoInt
              have HWn : Hid ((W ++ [kk]).Nodup ∧ (∀ x, x ∈ W ++ [kk] → x < np1 ∧ 0 ≤ gvn n np1 P of x) ∧ (W ++ [kk]).length ≤ bq) := by
                refine ⟨List.nodup_append.2 ⟨HW.out.1, by simp, fun a ha b hb e => ?_⟩, fun x hx => ?_, by rw [List.length_append]; simp; omega⟩
                · rw [List.mem_singleton] at hb
                  subst hb
                  exact HIn.out (e ▸ ha)
                · rcases List.mem_append.1 hx with hx | hx
                  · exact HW.out.2.1 x hx
                  · rw [List.mem_singleton] at hx
                    subst hx
                    exact ⟨hkn, HCg.out⟩
              have HOw : Hid (((w2.drewN nq).setCell ⟨bu, ou, none⟩ (.int .i64 ((xx + 1 + ya) % 31))).ownsRow u2.heap.size 3 1 (.slice aw W.length cw) W.length ((W.map fun k : Nat => (k : Int)).map (Value.int .i64))) := by
                have h9 := J4.out.own
                rw [List.length_map] at h9
                exact h9
              go_wp2_with (at_builtin; refine wpList_append_own_at _ rfl (.tmp 105) (.tmp 107) 28 rfl u2.heap.size 3 ii (.int .i64 0) 1 8 Tryz.underlying28 hii hzz0 hzz1 hzz2 rfl (by decide) _ _ _ rfl (World.ownsRow.alloc HOw.out _) ⟨_, 0, none⟩ 1 1 [.int .i64 (kk : Int)] rfl rfl HNc.out (oneCell _) (by unfold maxLen; omega) (by omega) HBz.out ?_; intro v9 w9 ho9 hg9 _ _; have J9 := hid ((J4.out.up (below_alloc _ _)).grow (l1 := (W ++ [kk]).map fun k : Nat => (k : Int)) hg9 (by rw [List.length_map, List.length_append, List.map_append, List.map_append]; exact ho9)); clear ho9 hg9)
              clear r2 r3 r4 r5 c0 c1
              go_roundw
              case rel => exact ⟨j + 1, W ++ [kk], by omega, by go_num, J9, HWn⟩
              case measure => simp only [intOf]; omega
      · have hje : lg = j := by omega
        subst hje
        have hjn : ¬ (lg : Int) < (lg : Int) := by omega
        obtain ⟨t1, t2, t3, t4, t5, t6, t7⟩ := HTail.out W HW.out.1 HW.out.2.1 HW.out.2.2
        have T1 := hid t1
        have T2 := hid t2
        have T3 := hid t3
        have T4 := hid t4
        have T5 := hid t5
        have T6 := hid t6
        have T7 := hid t7
        have hwl := HW.out.2.2
        clear t1 t2 t3 t4 t5 t6 t7
        have HSo := hid (sort_row J.out.own (by rw [List.length_map]; omega))
        go_wp2_with fail
        refine Calls.mono HSo.out ?_
        rintro e w6 ⟨rfl, ho6, hg6⟩
        have J6 := hid (J.out.grow hg6 ho6)
        clear ho6 hg6 HSo
        clear p0 p1 p2 c0 c1
        obtain ⟨c0, c1⟩ := two_at J6.out.box
        have CB := hid (auBlamed _ (n + 1) PV1 B' _ np1 KV1 UV1 (bentP Q (n : Int) W c) (n : Int) w6 J6.out.ms.2.1 J6.out.ms.2.2)
        unfold blameV at CB
        rw [T1.out, if_pos rfl, T2.out] at CB
        unfold meshV at CB
        go_wp2_with fail
        refine Calls.mono CB.out ?_
        rintro e w7 ⟨hb7, vo, rfl, hlo⟩
        have J7 := hid (J6.out.up hb7)
        have HO7 := hid hlo
        obtain ⟨ao, co, rfl, _, _⟩ := hlo
        clear hb7 CB c0 c1
        obtain ⟨c0, c1⟩ := two_at J7.out.box
        have CL := hid (auLacking _ (n + 1) PV1 B' _ np1 KV1 UV1 (bentP Q (n : Int) W c) (n : Int) w7 J7.out.ms.2.1 J7.out.ms.2.2)
        unfold lackV at CL
        rw [T4.out, if_pos rfl, T3.out] at CL
        unfold meshV at CL
        go_wp2_with fail
        refine Calls.mono CL.out ?_
        rintro e w8 ⟨rfl, hb8⟩
        have J8 := hid (J7.out.up hb8)
        have HO8 := hid (HO7.out.up hb8)
        clear hb8 CL c0 c1
        have CE := hid (equal_isl HO8.out (own_isl J8.out.own (by rw [srt_len, List.length_map]; omega)))
        rw [eqB_yes rfl (fun _ _ => rfl)] at CE
        go_wp2_with fail
        refine Calls.mono CE.out ?_
        rintro e w9 ⟨rfl, q9, hq9⟩
        have hb9 : Below w8.heap.size w8 w9 := by rw [hq9]; exact ⟨rfl, rfl, rfl, Nat.le_refl _, fun _ _ => rfl⟩
        have J9 := hid (J8.out.up hb9)
        clear hq9 hb9 CE
        obtain ⟨c0, c1⟩ := two_at J9.out.box
        have CR := hid (meshCore.repair _ (n + 1) PV1 B' _ np1 KV1 UV1 (bentP Q (n : Int) W c) (n : Int) w9 J9.out.ms.2.1 J9.out.ms.2.2)
        rw [T5.out] at CR
        unfold meshV at CR
        go_wp2_with fail
        refine Calls.mono CR.out ?_
        rintro e u5 hM
        obtain ⟨hb, ab2, n2, cb2, PV2, al2, np2, cl2, KV2, UV2, rfl, hn2, hp2, hv2, hl2⟩ := mesh_open hM.old
        rw [if_pos rfl] at hn2 hp2
        subst hn2
        obtain rfl : np1 = np2 := hp2.symm
        have hb2 := below_alloc u5 (.cells #[.slice ab2 (n + 1) cb2, .slice al2 np1 cl2] 27)
        have hx := MsAt.box hv2 hl2
        obtain ⟨V2, hV2⟩ : ∃ v, World.alloc u5 (.cells #[.slice ab2 (n + 1) cb2, .slice al2 np1 cl2] 27) = v := ⟨_, rfl⟩
        rw [hV2] at hb2 hx
        have HB9 := hid (J9.out.below.trans ((hb.trans (hb2.mono hb.size)).mono J9.out.below.size))
        have Y := hid hx
        obtain ⟨d0, d1⟩ := hx.cells
        have CB := hid (auBlamed _ (n + 1) PV2 B' _ np1 KV2 UV2 (mendP B' np1 (bentP Q (n : Int) W c) (n : Int)) (n : Int) V2 Y.out.2.1 Y.out.2.2)
        unfold blameV at CB
        rw [T6.out, if_pos rfl, T7.out] at CB
        unfold meshV at CB
        clear hM hb hb2 hx hv2 hl2 CR c0 c1
        go_wp2_with fail
        refine Calls.mono CB.out ?_
        rintro e u6 ⟨hb6, vo, rfl, hlo⟩
        obtain ⟨ao2, co2, rfl, _, _⟩ := hlo
        have HB6 := hid (HB9.out.trans (hb6.mono HB9.out.size))
        clear hb6 CB d0 d1 hV2
        go_wp2
        go_ret
        exact ⟨rfl, HB0.out.trans (HB6.out.mono HB0.out.size)⟩
  · have hcb : (er != 0) = true := by simpa using hc0
    clear hc0
    go_wp2_with fail
    refine Calls.mono (HJ.out u2) ?_
    rintro e u4 ⟨rfl, hb⟩
    replace HB := hid (HB.out.trans (hb.mono HB.out.size))
    clear hb
    go_wp2
    go_ret
    exact ⟨rfl, HB0.out.trans (HB.out.mono HB0.out.size)⟩

end Go.Proofs.YtikchpffkhohlaaGreat
