/- Several texts of one proof, in their order. -/
import Derived.Test.YtjfnpjmhippdoafGreatFinds29
import Derived.Test.YtjfnpjmhippdoafGreatFinds19
import Derived.Test.YtjfnpjmhippdoafGreatFinds18

/- What package mesh owes, it pays: a content saved, a version repaired, and what went before. -/
namespace Go.Proofs.YtjfnpjmhippdoafGreat

open Go.RowKit Go.Maps CurveMath
set_option linter.unusedVariables false

/-- a mesh that another call answered is answered -/
theorem meshN_out {w w1 w' : World} {er : Int} {n : Nat} {b : Bk} {np : Nat} {P : Ps} {vb vl : Value} (hb : Below w.heap.size w w1) (h : MeshPostN w1 er n b np P (.returned (.tuple #[.agg #[vb, vl], .int .i64 er])) w') {g : Nat} {T : TypeId} {a0 a1 : Option Addr} {n0 c0 n1 c1 : Nat} (hg : w'.heap[g]? = some (.cells #[.slice a0 n0 c0, .slice a1 n1 c1] T (0, 0))) (hwg : w.heap.size ≤ g) :
    MeshPostN w er n b np P (.returned (.tuple #[.agg #[vb, vl], .int .i64 er])) (put2 w' g vb vl) := by
  obtain ⟨h1, vb', vl', n', np', PV, KV, UV, e, h2, h3, h4, h5, h6⟩ := h
  injection e with e
  injection e with e
  have e1 : #[Value.agg #[vb, vl], .int .i64 er] = #[meshV vb' vl', .int .i64 er] := e
  unfold meshV at e1
  simp at e1
  obtain ⟨rfl, rfl⟩ := e1
  refine ⟨put2_below (hb.trans (h1.mono hb.size)) hwg, vb, vl, n', np', PV, KV, UV, rfl, h2, h3, ?_, ps_put2 hg h5 _ _, ?_⟩
  · have h4' := h4
    obtain ⟨a, c, rfl, _⟩ := h4'
    exact ve_put2 hg h4 _
  · have h7 : NewP w.heap.size w' vl np' KV UV P := ⟨h6.1.mono hb.size, fun k hk => ⟨(h6.2 k hk).1.mono hb.size, fun i hi => ((h6.2 k hk).2 i hi).imp id fun h => h.mono hb.size⟩⟩
    unfold put2
    exact (h7.setS _ _).setS _ _

theorem meshW_out {w w1 w' : World} {er : Int} {n : Nat} {b : Bk} {np : Nat} {P : Ps} {C : Prop} {ver : Int} {vb vl : Value} (hb : Below w.heap.size w w1) (h : MeshPostW w1 er n b np P C ver (.returned (.tuple #[.agg #[vb, vl], .int .i64 er])) w') {g : Nat} {T : TypeId} {a0 a1 : Option Addr} {n0 c0 n1 c1 : Nat} (hg : w'.heap[g]? = some (.cells #[.slice a0 n0 c0, .slice a1 n1 c1] T (0, 0))) (hwg : w.heap.size ≤ g) :
    MeshPostW w er n b np P C ver (.returned (.tuple #[.agg #[vb, vl], .int .i64 er])) (put2 w' g vb vl) := by
  obtain ⟨h1, vb', vl', n', np', PV, KV, UV, e, h2, h3, h4, h5, h6, h9⟩ := h
  injection e with e
  injection e with e
  have e1 : #[Value.agg #[vb, vl], .int .i64 er] = #[meshV vb' vl', .int .i64 er] := e
  unfold meshV at e1
  simp at e1
  obtain ⟨rfl, rfl⟩ := e1
  refine ⟨put2_below (hb.trans (h1.mono hb.size)) hwg, vb, vl, n', np', PV, KV, UV, rfl, h2, h3, ?_, ps_put2 hg h5 _ _, ?_, h9⟩
  · have h4' := h4
    obtain ⟨a, c, rfl, _⟩ := h4'
    exact ve_put2 hg h4 _
  · have h7 : NewP w.heap.size w' vl np' KV UV P := ⟨h6.1.mono hb.size, fun k hk => ⟨(h6.2 k hk).1.mono hb.size, fun i hi => ((h6.2 k hk).2 i hi).imp id fun h => h.mono hb.size⟩⟩
    unfold put2
    exact (h7.setS _ _).setS _ _

set_option maxHeartbeats 4000000 in
set_option maxRecDepth 10000 in
theorem msSave (vb : Value) (n : Nat) (PV : Nat → Value) (b : Bk) (vl : Value) (np : Nat) (KV : Nat → Value) (UV : Nat → Nat → Value) (P : Ps) (vd : Value) (len : Nat) (D : Nat → Int) (vp : Value) (lp : Nat) (X : Nat → Int) (need of : Int) (w : World)
    (hv : VeSl w w.heap.size vb n PV b) (hl : PsSl w w.heap.size vl np KV UV P) (hd : IntSl w w.heap.size vd len D) (hp : IntSl w w.heap.size vp lp X) :
    Calls Tryz.prog 12 #[meshV vb vl, vd, vp, .int .i64 need, .int .i64 of] w (MeshPostW w (saveE n b np P need of len D lp X) (n + 1) (saveB n b need of len lp X) np (saveP n np P need of len D) (NoneOf P np (n : Int)) (n : Int)) := by
  have hb0 := ((Below.refl w.heap.size w).alloc (Nat.le_refl _) (.cells #[vb, vl] 27)).alloc (by simp) (.cells #[.slice none 0 0, .slice none 0 0] 27)
  have k1 := heap_two_old w (.cells #[vb, vl] 27) (.cells #[.slice none 0 0, .slice none 0 0] 27)
  have k2 := heap_two_new w (.cells #[vb, vl] 27) (.cells #[.slice none 0 0, .slice none 0 0] 27)
  obtain ⟨W0, hW0⟩ : ∃ W, (w.alloc (.cells #[vb, vl] 27)).alloc (.cells #[.slice none 0 0, .slice none 0 0] 27) = W := ⟨_, rfl⟩
  rw [hW0] at hb0 k1 k2
  have HV := hid hv
  have HL := hid hl
  have HDt := hid hd
  have HPa := hid hp
  obtain ⟨ad, cap0, rfl, ⟨_, hbv⟩, _⟩ := hv
  obtain ⟨al, cl, rfl, _, _⟩ := hl
  obtain ⟨adt, cdt, rfl, ⟨_, hbd⟩, _⟩ := hd
  obtain ⟨apa, cpa, rfl, _, _⟩ := hp
  have CK := hid (msCheck _ n PV b _ np KV UV P W0 (HV.out.up hb0) (HL.out.up hb0))
  obtain ⟨er, her⟩ : ∃ c, saveE n b np P need of len D lp X = c := ⟨_, rfl⟩
  rw [her]
  unfold saveE at her
  obtain ⟨c, hc⟩ : ∃ c, peersE n b np P = c := ⟨_, rfl⟩
  rw [hc] at CK her
  have HC := hid hc
  have HEr := hid her
  obtain ⟨m0, m1⟩ := two_at k1
  have B0 := hid hb0
  have K1 := hid k1
  have K2 := hid k2
  clear hb0 k1 k2 hc her
  unfold meshV at CK
  unfold meshV
  go_enter Tryz.func12, Tryz.ntmps12
  go_wp2_with fail
  refine Calls.mono CK.out ?_
  rintro e W ⟨rfl, hbW⟩
  have B1 := hid (B0.out.trans (hbW.mono B0.out.size))
  have d1 := stayB K1.out hbW
  have d2 := stayB K2.out hbW
  have D1 := hid d1
  have D2 := hid d2
  clear hbW m0 m1 CK hW0
  by_cases h0 : c = 0
  · subst h0
    have hE1 := HEr.out
    rw [if_pos rfl] at hE1
    have HE1 := hid hE1
    have hbP := below_alloc W (.cells #[.int .i64 need, .int .i64 of, .int .i64 (len : Int)] 38)
    have kp := heap_alloc_new W (.cells #[.int .i64 need, .int .i64 of, .int .i64 (len : Int)] 38)
    obtain ⟨W1, hW1⟩ : ∃ W', W.alloc (.cells #[.int .i64 need, .int .i64 of, .int .i64 (len : Int)] 38) = W' := ⟨_, rfl⟩
    rw [hW1] at hbP kp
    have B2 := hid (B1.out.trans (hbP.mono B1.out.size))
    have D1 := hid (stayB d1 hbP)
    have D2 := hid (stayB d2 hbP)
    have KP := hid kp
    have CSp := hid (owes.split need of (len : Int) _ len D W1 (HDt.out.up B2.out))
    unfold planV at CSp
    obtain ⟨p0, p1, p2⟩ := three_at kp
    clear d1 d2 hE1 hbP kp
    go_wp2_with fail
    refine Calls.mono CSp.out ?_
    rintro e W2 ⟨hb2, vs, cnt, SV, rfl, hcnt, hsh, _, _⟩
    have B3 := hid (B2.out.trans (hb2.mono B2.out.size))
    have d1 := stayB D1.out hb2
    have d2 := stayB D2.out hb2
    have kp := stayB KP.out hb2
    have D1 := hid d1
    have D2 := hid d2
    have HSh := hid hsh
    obtain ⟨ash, csh, rfl, _, _⟩ := hsh
    obtain ⟨c2, hc2⟩ : ∃ c, splitE need of (len : Int) len D = c := ⟨_, rfl⟩
    have hE1 := HE1.out
    rw [hc2] at hE1 hcnt
    rw [hc2]
    have HC2 := hid hc2
    clear hb2 p0 p1 p2 CSp hc2 hW1
    by_cases h2 : c2 = 0
    · subst h2
      rw [if_pos rfl] at hE1 hcnt
      have HE2 := hid hE1
      have HCnt := hid hcnt
      obtain ⟨m0, m1⟩ := two_at d1
      obtain ⟨p0, p1, p2⟩ := three_at kp
      have CA := hid (bkAdd _ n PV b _ lp X need of (len : Int) W2 (HV.out.up B3.out) (HPa.out.up B3.out))
      unfold bookV verV at CA
      clear d1 d2 hE1 hcnt kp
      go_wp2_with fail
      refine Calls.mono CA.out ?_
      rintro e W3 ⟨hb3, rb, nb, QV, rfl, hnb, hvb⟩
      unfold bookV
      have HVb3 := hid hvb
      obtain ⟨ab, cb, rfl, _, _⟩ := hvb
      have hb34 := below_alloc W3 (.cells #[.slice ab nb cb] 24)
      have kb := heap_alloc_new W3 (.cells #[.slice ab nb cb] 24)
      obtain ⟨W4, hW4⟩ : ∃ u, World.alloc W3 (.cells #[.slice ab nb cb] 24) = u := ⟨_, rfl⟩
      rw [hW4] at hb34 kb
      have hb4 := hb3.trans (hb34.mono hb3.size)
      have B4 := hid (B3.out.trans (hb4.mono B3.out.size))
      have D14 := hid (stayB D1.out hb4)
      have D24 := hid (stayB D2.out hb4)
      have HSh4 := hid (HSh.out.up hb4)
      have HVb := hid (HVb3.out.up hb34)
      have hR := meshR_of HC.out
      have hae : addE n b (snocB n b lp X need of (len : Int)) = bookE (n + 1) (saveB n b need of len lp X) := by unfold addE saveB; rw [if_pos hR.book]
      rw [hae] at hnb
      have HR := hid hR
      obtain ⟨c3, hc3⟩ : ∃ c, bookE (n + 1) (saveB n b need of len lp X) = c := ⟨_, rfl⟩
      have hE2 := HE2.out
      rw [hc3] at hE2 hnb
      rw [hae, hc3]
      have HC3 := hid hc3
      clear m0 m1 p0 p1 p2
      obtain ⟨m0, m1⟩ := two_at D14.out
      have b0 : W4.cell? ⟨W3.heap.size, 0, none⟩ = some (.slice ab nb cb) := cell_at kb rfl
      obtain ⟨r1, r2⟩ := two_at D24.out
      have f1 := frozen_at (i := 0) D24.out
      have f2 := frozen_at (i := 1) D24.out
      clear hb3 hb34 hb4 hR CA hae hc3 kb
      by_cases h3 : c3 = 0
      · subst h3
        rw [if_pos rfl] at hE2 hnb
        subst hnb
        have HE3 := hid hE2
        obtain ⟨hpl, _, _⟩ := splitE_ok HC2.out
        have hofp := (planOk_spec hpl).2.1
        have hndp := (planOk_spec hpl).1
        have hof : (cnt : Int) = of := HCnt.out
        have hofn : of.toNat = cnt := by omega
        have CG := hid (msSpread _ (n + 1) _ (saveB n b need of len lp X) _ np KV UV P (n : Int) _ cnt (fun k => (k : Int)) SV (fun _ => rowsN need (len : Int)) (fun k i => shv need.toNat len D k i) W4 HVb.out (HL.out.up B4.out) HSh4.out (HR.out.snoc HC3.out) ⟨by omega, by omega⟩ (fun j hj => by
          have e1 : (saveB n b need of len lp X).nd (n : Int).toNat = need := by simp [saveB, snocB]
          have e2 : (saveB n b need of len lp X).of (n : Int).toNat = of := by simp [saveB, snocB]
          have e3 : (saveB n b need of len lp X).sz (n : Int).toNat = (len : Int) := by simp [saveB, snocB]
          rw [e1, e2, e3]
          exact split_right HC2.out (by omega)))
        have hsv : giveP P (n : Int) (forA P (n : Int) np cnt) (fun k => (k : Int)) (fun _ => rowsN need (len : Int)) (fun k i => shv need.toNat len D k i) cnt = saveP n np P need of len D := by unfold saveP; rw [hofn]
        rw [hsv, hof, HE3.out] at CG
        unfold meshV at CG
        clear hE2 hpl hofp hndp hof hofn hsv
        go_wp2_with fail
        refine Calls.mono CG.out ?_
        rintro e W5 hM
        have HM := hid hM
        obtain ⟨hb5, gb, gl, n5, np5, PV5, KV5, UV5, rfl, hn5, hnp5, hv5, hl5, _⟩ := hM
        clear hn5 hnp5
        obtain ⟨a5, c5, rfl, _, _⟩ := hv5
        obtain ⟨a6, c6, rfl, _, _⟩ := hl5
        unfold meshV at HM
        have o5 := stayB D24.out hb5
        have HO5 := hid o5
        clear r1 r2 f1 f2
        obtain ⟨r1, r2⟩ := two_at o5
        have f1 := frozen_at (i := 0) o5
        have f2 := frozen_at (i := 1) o5
        unfold meshV
        clear hb5 o5
        go_wp2
        refine bodyPost_ret (results_cell2 rfl _ _ (w.heap.size + 1) 27 #[.slice a5 n5 c5, .slice a6 np5 c6] (0, 0) _ rfl (put2_whole HO5.out _ _) Tryz.underlying27 rfl (by kernel_rfl)) rfl ?_
        exact meshW_out B4.out HM.out HO5.out (by omega)
      · have hcb : (c3 != 0) = true := by simpa using h3
        rw [if_neg h3] at hE2
        have H3 := hid h3
        have HE3 := hid hE2
        clear h3 hE2 hnb
        go_wp2
        refine bodyPost_ret (results_cell2 rfl _ _ (w.heap.size + 1) 27 #[.slice none 0 0, .slice none 0 0] (0, 0) _ rfl (put2_whole D24.out _ _) Tryz.underlying27 rfl (by kernel_rfl)) rfl ?_
        rw [← HE3.out]
        exact meshW_none (put2_below B4.out (by omega)) H3.out
    · have hcb : (c2 != 0) = true := by simpa using h2
      rw [if_neg h2] at hE1
      have H2 := hid h2
      have HE2 := hid hE1
      obtain ⟨r1, r2⟩ := two_at d2
      have f1 := frozen_at (i := 0) d2
      have f2 := frozen_at (i := 1) d2
      clear h2 d1 d2 kp hE1 hcnt
      go_wp2
      refine bodyPost_ret (results_cell2 rfl _ _ (w.heap.size + 1) 27 #[.slice none 0 0, .slice none 0 0] (0, 0) _ rfl (put2_whole D2.out _ _) Tryz.underlying27 rfl (by kernel_rfl)) rfl ?_
      rw [← HE2.out]
      exact meshW_none (put2_below B3.out (by omega)) H2.out
  · have hcb : (c != 0) = true := by simpa using h0
    have H0 := hid h0
    have hE1 := HEr.out
    rw [if_neg h0] at hE1
    have HE1 := hid hE1
    obtain ⟨r1, r2⟩ := two_at d2
    have f1 := frozen_at (i := 0) d2
    have f2 := frozen_at (i := 1) d2
    clear h0 d1 d2 hE1
    go_wp2
    refine bodyPost_ret (results_cell2 rfl _ _ (w.heap.size + 1) 27 #[.slice none 0 0, .slice none 0 0] (0, 0) _ rfl (put2_whole D2.out _ _) Tryz.underlying27 rfl (by kernel_rfl)) rfl ?_
    rw [← HE1.out]
    exact meshW_none (put2_below B1.out (by omega)) H0.out

set_option maxHeartbeats 4000000 in
set_option maxRecDepth 10000 in
theorem msRepair (vb : Value) (n : Nat) (PV : Nat → Value) (b : Bk) (vl : Value) (np : Nat) (KV : Nat → Value) (UV : Nat → Nat → Value) (P : Ps) (k : Int) (w : World) (hv : VeSl w w.heap.size vb n PV b) (hl : PsSl w w.heap.size vl np KV UV P) :
    Calls Tryz.prog 17 #[meshV vb vl, .int .i64 k] w (MeshPostN w (mendE n b np P k) n b np (mendP b np P k)) := by
  have hb0 := ((Below.refl w.heap.size w).alloc (Nat.le_refl _) (.cells #[vb, vl] 27)).alloc (by simp) (.cells #[.slice none 0 0, .slice none 0 0] 27)
  have k1 := heap_two_old w (.cells #[vb, vl] 27) (.cells #[.slice none 0 0, .slice none 0 0] 27)
  have k2 := heap_two_new w (.cells #[vb, vl] 27) (.cells #[.slice none 0 0, .slice none 0 0] 27)
  obtain ⟨W0, hW0⟩ : ∃ W, (w.alloc (.cells #[vb, vl] 27)).alloc (.cells #[.slice none 0 0, .slice none 0 0] 27) = W := ⟨_, rfl⟩
  rw [hW0] at hb0 k1 k2
  have HV := hid hv
  have HL := hid hl
  obtain ⟨ad, cap0, rfl, _, hxv⟩ := hv
  obtain ⟨al, cl, rfl, _, _⟩ := hl
  have CR := hid (msRestore _ n PV b _ np KV UV P k W0 (HV.out.up hb0) (HL.out.up hb0))
  obtain ⟨er, her⟩ : ∃ c, mendE n b np P k = c := ⟨_, rfl⟩
  rw [her]
  unfold mendE at her
  have HEr := hid her
  obtain ⟨m0, m1⟩ := two_at k1
  have B0 := hid hb0
  have K1 := hid k1
  have K2 := hid k2
  have HXv := hid hxv
  clear hb0 k1 k2 her hxv
  unfold meshV at CR
  unfold meshV
  go_enter Tryz.func17, Tryz.ntmps17
  go_wp2_with fail
  refine Calls.mono CR.out ?_
  rintro e W ⟨hbW, vd, vbad, ld, rfl, hld, hvd, hbad⟩
  have B1 := hid (B0.out.trans (hbW.mono B0.out.size))
  have d1 := stayB K1.out hbW
  have d2 := stayB K2.out hbW
  have D1 := hid d1
  have D2 := hid d2
  have HVd := hid hvd
  obtain ⟨adt, cdt, rfl, _, _⟩ := hvd
  obtain ⟨abd, cbd, rfl, _, _⟩ := hbad
  obtain ⟨c, hc⟩ : ∃ c, rsE n b np P k = c := ⟨_, rfl⟩
  have hE1 := HEr.out
  rw [hc] at hE1 hld
  rw [hc]
  have HC := hid hc
  clear hbW m0 m1 CR hc hW0
  by_cases h0 : c = 0
  · subst h0
    rw [if_pos rfl] at hE1 hld
    have HE1 := hid hE1
    obtain ⟨hver, d, mo, sN, e1, e2, e3, hpl⟩ := rsE_ok HC.out
    obtain ⟨hR, hk0, hkn⟩ := verM_ok hver
    obtain ⟨q, rfl⟩ : ∃ q : Nat, k = q := ⟨k.toNat, by omega⟩
    rw [Int.toNat_natCast] at e1 e2 e3 hld
    have hqn : q < n := by omega
    have hki : (q : Int) < (n : Int) := by omega
    have hls : ld = sN := by rw [e3] at hld; omega
    subst hls
    have HR := hid hR
    have HPl := hid hpl
    have hps := planOk_spec hpl
    have HNd := hid e1
    have HOf := hid e2
    have HSz := hid e3
    rcases HXv.out with h0 | ⟨bv, ov, rfl, hbv, hxv⟩
    · omega
    obtain ⟨_, v1, v2, v3, _⟩ := hxv q hqn
    rw [e1] at v1
    rw [e2] at v2
    rw [e3] at v3
    have q1 : W.cell? ⟨bv, ov + q * 4 + 1, none⟩ = some (.int .i64 (d : Int)) := by rw [B1.out.cell hbv]; exact v1
    have q2 : W.cell? ⟨bv, ov + q * 4 + 2, none⟩ = some (.int .i64 (mo : Int)) := by rw [B1.out.cell hbv]; exact v2
    have q3 : W.cell? ⟨bv, ov + q * 4 + 3, none⟩ = some (.int .i64 (ld : Int)) := by rw [B1.out.cell hbv]; exact v3
    obtain ⟨m0, m1⟩ := two_at d1
    have CSp := hid (owes.split (d : Int) (mo : Int) (ld : Int) _ ld (rsD b np P (q : Int)) W HVd.out)
    rw [split_ok hpl (fun j => rsD_num b np P (q : Int) j)] at CSp
    unfold planV at CSp
    clear d1 d2 hE1 hxv v1 v2 v3 hld hver hR hpl e1 e2 e3
    go_wp2_with fail
    refine Calls.mono CSp.out ?_
    rintro e W2 ⟨hb2, vs, cnt, SV, rfl, hcnt, hsh, _, _⟩
    rw [if_pos trivial] at hcnt
    obtain rfl : cnt = mo := by omega
    obtain ⟨R, hRr⟩ : ∃ R : Nat, rowsN (d : Int) (ld : Int) = R := ⟨_, rfl⟩
    obtain ⟨S, hSs⟩ : ∃ S, rsS b np P (q : Int) = S := ⟨_, rfl⟩
    have hsx : (fun (j : Nat) (r : Nat) => shv (d : Int).toNat ld (rsD b np P (q : Int)) j r) = S := by
      rw [← hSs]
      funext j r
      unfold rsS
      simp only [Int.toNat_natCast]
      rw [HNd.out, HSz.out]
      simp only [Int.toNat_natCast]
    rw [hsx, hRr] at hsh
    have B2 := hid (B1.out.trans (hb2.mono B1.out.size))
    have d1 := stayB D1.out hb2
    have D21 := hid d1
    have D22 := hid (stayB D2.out hb2)
    have HSh := hid hsh
    obtain ⟨ash, csh, rfl, _, _⟩ := hsh
    have hNl : ∀ i, i < np → hasK P (q : Int) i = true → numK P (q : Int) i < (cnt : Int) := fun i hi hh => by
      obtain ⟨_, h1, h2⟩ := hasK_at hh
      have h3 := ((HR.out.peer i hi).right _ h1).2
      unfold oneK at h3
      rw [h2, Int.toNat_natCast, HNd.out, HOf.out, HSz.out] at h3
      exact (oneE_ok h3).2.1.2
    have CSf := hid (msSift _ n PV b _ np KV UV P (q : Int) _ cnt R SV S W2 (HV.out.up B2.out) (HL.out.up B2.out) HSh.out HR.out (by omega) hNl)
    have HRr := hid hRr
    have HSs := hid hSs
    clear m0 m1
    obtain ⟨m0, m1⟩ := two_at d1
    unfold meshV at CSf
    clear hb2 CSp q1 q2 q3 hsx d1 hNl hRr hSs hcnt
    go_wp2_with fail
    refine Calls.mono CSf.out ?_
    rintro e W3 ⟨hb3, vl2, vo, LV, VV, SV2, rfl, hl2, hs2⟩
    have B3 := hid (B2.out.trans (hb3.mono B2.out.size))
    have d1 := stayB D21.out hb3
    have D32 := hid (stayB D22.out hb3)
    have HL2 := hid hl2
    have HS2 := hid hs2
    obtain ⟨al2, cl2, rfl, _, _⟩ := hl2
    obtain ⟨as2, cs2, rfl, _, _⟩ := hs2
    clear m0 m1
    obtain ⟨m0, m1⟩ := two_at d1
    have hof : lackK (repS P (q : Int) R S np) cnt = lackL P (q : Int) R S np cnt := rfl
    obtain ⟨L, hL⟩ : ∃ L, lackK (repS P (q : Int) R S np) cnt = L := ⟨_, rfl⟩
    have hLlt : ∀ i, i < L.length → L.getD i 0 < cnt := fun i hi => by rw [← hL] at hi ⊢; exact lackK_lt (getD_in (d := 0) hi)
    rw [hL] at HS2 hof
    rw [hL]
    have CG := hid (msSpread _ n PV b _ np LV VV (repP P (q : Int) R S np) (q : Int) _ L.length (fun i => ((L.getD i 0 : Nat) : Int)) SV2 (fun _ => R) (fun i => S (L.getD i 0)) W3 (HV.out.up B3.out) HL2.out HS2.out (HR.out.rep (q : Int) R S np) ⟨by omega, by omega⟩ (fun i hi => by
      rw [Int.toNat_natCast, HNd.out, HOf.out, HSz.out]
      have hlt9 := hLlt i hi
      unfold oneE
      rw [if_pos HPl.out, if_pos ⟨by omega, by omega⟩, if_pos (by rw [HRr.out]), if_pos]
      unfold numsB
      refine decide_eq_true fun r _ => ?_
      rw [← HSs.out]
      unfold rsS isNum
      exact decide_eq_true (shv_num _ _ _ _ _)))
    have hE9 : manyE (repP P (q : Int) R S np) (q : Int) np (L.length : Int) = er := by
      have h9 := HE1.out
      rw [Int.toNat_natCast, HNd.out, HOf.out, HSz.out, HRr.out, HSs.out, Int.toNat_natCast] at h9
      unfold fillE at h9
      rw [hof]
      exact h9
    have hP9 : giveP (repP P (q : Int) R S np) (q : Int) (forA (repP P (q : Int) R S np) (q : Int) np L.length) (fun i => ((L.getD i 0 : Nat) : Int)) (fun _ => R) (fun i => S (L.getD i 0)) L.length = mendP b np P (q : Int) := by
      unfold mendP fillP
      rw [Int.toNat_natCast, HNd.out, HOf.out, HSz.out, HRr.out, HSs.out, Int.toNat_natCast, hof]
    rw [hE9, hP9] at CG
    unfold meshV at CG
    clear hof hE9 hP9 hLlt hL hb3 d1 CSf
    go_wp2_with fail
    refine Calls.mono CG.out ?_
    rintro e W5 hM
    replace hM := hM.n
    have HM := hid hM
    obtain ⟨hb5, gb, gl, n5, np5, PV5, KV5, UV5, rfl, hn5, hnp5, hv5, hl5, _⟩ := hM
    clear hn5 hnp5
    obtain ⟨a5, c5, rfl, _, _⟩ := hv5
    obtain ⟨a6, c6, rfl, _, _⟩ := hl5
    unfold meshV at HM
    have o5 := stayB D32.out hb5
    have HO5 := hid o5
    obtain ⟨r1, r2⟩ := two_at o5
    have f1 := frozen_at (i := 0) o5
    have f2 := frozen_at (i := 1) o5
    unfold meshV
    clear hb5 o5 m0 m1
    go_wp2
    refine bodyPost_ret (results_cell2 rfl _ _ (w.heap.size + 1) 27 #[.slice a5 n5 c5, .slice a6 np5 c6] (0, 0) _ rfl (put2_whole HO5.out _ _) Tryz.underlying27 rfl (by kernel_rfl)) rfl ?_
    exact meshN_out B3.out HM.out HO5.out (by omega)
  · have hcb : (c != 0) = true := by simpa using h0
    rw [if_neg h0] at hE1
    have H0 := hid h0
    have HE1 := hid hE1
    obtain ⟨r1, r2⟩ := two_at d2
    have f1 := frozen_at (i := 0) d2
    have f2 := frozen_at (i := 1) d2
    clear h0 d1 d2 hE1 hld
    go_wp2
    refine bodyPost_ret (results_cell2 rfl _ _ (w.heap.size + 1) 27 #[.slice none 0 0, .slice none 0 0] (0, 0) _ rfl (put2_whole D2.out _ _) Tryz.underlying27 rfl (by kernel_rfl)) rfl ?_
    rw [← HE1.out]
    exact meshN_none (put2_below B1.out (by omega)) H0.out

/-- what package mesh owes, it pays -/
theorem meshCore : MeshCore where
  check := msCheck
  new := fun vr len X w h hl => msNew vr len X w h hl
  restore := msRestore
  save := fun vb n PV b vl np KV UV P vd len D vp lp X need of w hv hl hd hp => (msSave vb n PV b vl np KV UV P vd len D vp lp X need of w hv hl hd hp).mono fun e w' h => h.n
  repair := msRepair

end Go.Proofs.YtjfnpjmhippdoafGreat

/- What package audit's function values note: who is to blame; which shares are there. -/
namespace Go.Proofs.YtjfnpjmhippdoafGreat

open Go.RowKit CurveMath
set_option linter.unusedVariables false

theorem set_oneA {w : World} {g : Nat} {v0 : Value} {T : TypeId} (h : w.heap[g]? = some (.cells #[v0] T (0, 0))) (u : Value) : (w.setCell ⟨g, 0, none⟩ u).heap[g]? = some (.cells #[u] T (0, 0)) := by
  simp [World.setCell, Array.getElem?_modify, h]

theorem own_shapeA {w : World} {base : Nat} {e : TypeId} {v : Value} {n : Nat} {xs : List Value} (h : w.ownsRow base e 1 v n xs) : ∃ a c, v = .slice a n c := by
  obtain ⟨_, h2⟩ := h
  rcases h2 with ⟨h1, h0⟩ | ⟨g, cap, cur, h1, _⟩
  · exact ⟨none, 0, by rw [h0]; exact h1⟩
  · exact ⟨_, _, h1⟩

/-- what Blamed keeps while it asks: the shares as they should be, and who is to blame so far -/
structure BlI (B : Nat) (w0 : World) (ga gw base : Nat) (vs : Value) (P : Ps) (ver : Int) (R : Nat) (S : Nat → Nat → Int) (k : Nat) (wr : World) : Prop where
  below : Below B w0 wr
  ord : B ≤ ga ∧ ga < gw ∧ gw < base ∧ base ≤ wr.heap.size
  all : wr.heap[ga]? = some (.cells #[vs] 56 (0, 0))
  who : ∃ vw, wr.heap[gw]? = some (.cells #[vw] 28 (0, 0)) ∧ wr.ownsRow base 3 1 vw (pickL (blB P ver R S) k).length ((pickL (blB P ver R S) k).map (Value.int .i64))

section

variable {B : Nat} {w0 : World} {ga gw base : Nat} {vs : Value} {P : Ps} {ver : Int} {R : Nat} {S : Nat → Nat → Int} {k : Nat} {wr w' : World}

theorem BlI.up (h : BlI B w0 ga gw base vs P ver R S k wr) (hb : Below wr.heap.size wr w') : BlI B w0 ga gw base vs P ver R S k w' := by
  obtain ⟨o1, o2, o3, o4⟩ := h.ord
  obtain ⟨vw, h1, h2⟩ := h.who
  exact ⟨h.below.trans (hb.mono (by omega)), ⟨o1, o2, o3, Nat.le_trans o4 hb.size⟩, stayB h.all hb, vw, stayB h1 hb, owns_below h2 hb⟩

theorem BlI.skip (h : BlI B w0 ga gw base vs P ver R S k wr) (hn : blB P ver R S k = false) : BlI B w0 ga gw base vs P ver R S (k + 1) wr := by
  refine ⟨h.below, h.ord, h.all, ?_⟩
  rw [pickL_succ, hn, if_neg (by decide), List.append_nil]
  exact h.who

/-- one more is to blame -/
theorem BlI.push (h : BlI B w0 ga gw base vs P ver R S k wr) (hy : blB P ver R S k = true) {vw v9 : Value} {o : Obj} {w9 : World} (hw : wr.heap[gw]? = some (.cells #[vw] 28 (0, 0)))
    (ho : wr.ownsRow base 3 1 vw (pickL (blB P ver R S) k).length ((pickL (blB P ver R S) k).map (Value.int .i64))) (hg : (wr.alloc o).grownBy w9 vw.ownBlock)
    (ho9 : w9.ownsRow base 3 1 v9 ((pickL (blB P ver R S) k).length + 1) ((pickL (blB P ver R S) k).map (Value.int .i64) ++ [.int .i64 (k : Int)])) :
    BlI B w0 ga gw base vs P ver R S (k + 1) (w9.setCell ⟨gw, 0, none⟩ v9) ∧ w9.heap[gw]? = some (.cells #[vw] 28 (0, 0)) := by
  obtain ⟨o1, o2, o3, o4⟩ := h.ord
  have hba := below_alloc wr o
  have hB9 : Below base wr w9 := (hba.mono o4).grown hg (Nat.le_trans o4 hba.size) (fun k hk => (ho.lt k hk).1)
  have hw9 : w9.heap[gw]? = some (.cells #[vw] 28 (0, 0)) := by rw [hB9.block _ o3]; exact hw
  refine ⟨⟨(h.below.trans (hB9.mono (by omega))).setCell (p := ⟨gw, 0, none⟩) (by show B ≤ gw; omega) v9, ⟨o1, o2, o3, ?_⟩, ?_, v9, set_oneA hw9 v9, ?_⟩, hw9⟩
  · have hz : (w9.setCell ⟨gw, 0, none⟩ v9).heap.size = w9.heap.size := by simp [World.setCell]
    rw [hz]
    exact Nat.le_trans o4 hB9.size
  · rw [Below.heap_setCell _ _ _ _ (by show ga ≠ gw; omega), hB9.block _ (by omega)]
    exact h.all
  · rw [pickL_succ, hy, if_pos rfl, List.length_append, List.map_append]
    exact ownsRow_setCell_below ho9 (a := ⟨gw, 0, none⟩) o3 _

end

set_option maxHeartbeats 4000000 in
set_option maxRecDepth 10000 in
theorem auBlames (B : Nat) (w0 : World) (ga gw base cnt R : Nat) (ash : Option Addr) (csh : Nat) (SV : Nat → Value) (S : Nat → Nat → Int) (P : Ps) (ver : Int) (k : Nat) (uk : Value) (hS : ShSl w0 B (.slice ash cnt csh) cnt (fun j => (j : Int)) SV (fun _ => R) S) (hh : hasK P ver k = true)
    (hN : 0 ≤ numK P ver k ∧ numK P ver k < (cnt : Int)) (h8 : k < 1000) (hu : IntSl w0 B uk ((P.t k).L (atK P ver k)) ((P.t k).X (atK P ver k))) (wr : World) (hJ : BlI B w0 ga gw base (.slice ash cnt csh) P ver R S k wr) :
    Calls Tryz.prog 21 #[.int .i64 (k : Int), .agg #[.int .i64 (numK P ver k), uk], .pointer (some ⟨ga, 0, none⟩), .pointer (some ⟨gw, 0, none⟩)] wr fun e w' => e = .returned (.tuple #[]) ∧ BlI B w0 ga gw base (.slice ash cnt csh) P ver R S (k + 1) w' := by
  have hbl : ∀ sb, goodK P ver R S k = sb → blB P ver R S k = !sb := fun sb e => by unfold blB; rw [hh, e, Bool.true_and]
  obtain ⟨q, hq⟩ : ∃ q : Nat, numK P ver k = (q : Int) := ⟨(numK P ver k).toNat, by omega⟩
  have hgd : goodK P ver R S k = sameB (q : Int) (q : Int) ((P.t k).L (atK P ver k)) R ((P.t k).X (atK P ver k)) (S q) := by unfold goodK; rw [hq, Int.toNat_natCast]
  rw [hq] at hN ⊢
  have hqc : q < cnt := by omega
  have hqi : (q : Int) < (cnt : Int) := by omega
  have HGd := hid hgd
  have HBl : Hid (∀ sb, goodK P ver R S k = sb → blB P ver R S k = !sb) := hbl
  have HU := hid hu
  obtain ⟨au, cu, rfl, _, _⟩ := hu
  have hbA := below_alloc wr (.cells #[.int .i64 (q : Int), .slice au ((P.t k).L (atK P ver k)) cu] 48)
  have k9 := heap_alloc_new wr (.cells #[.int .i64 (q : Int), .slice au ((P.t k).L (atK P ver k)) cu] 48)
  obtain ⟨W, hW⟩ : ∃ u, wr.alloc (.cells #[.int .i64 (q : Int), .slice au ((P.t k).L (atK P ver k)) cu] 48) = u := ⟨_, rfl⟩
  rw [hW] at hbA k9
  have JA := hid (hJ.up hbA)
  obtain ⟨s0, s1⟩ := two_at k9
  have a0 : W.cell? ⟨ga, 0, none⟩ = some (.slice ash cnt csh) := cell_at JA.out.all rfl
  obtain ⟨_, _, he, _, hxs⟩ := hS
  injection he with e1 _ e3
  subst e1 e3
  rcases hxs with h9 | ⟨bs, os, rfl, hbs, hxs⟩
  · omega
  obtain ⟨x1, x2, x3⟩ := hxs q hqc
  have HIs := hid x3
  obtain ⟨av9, cv9, hve, _, _⟩ := x3
  rw [hve] at x2 HIs
  have t1 : W.cell? ⟨bs, os + q * 2, none⟩ = some (.int .i64 (q : Int)) := by rw [JA.out.below.cell hbs]; exact x1
  have t2 : W.cell? ⟨bs, os + q * 2 + 1, none⟩ = some (.slice av9 R cv9) := by rw [JA.out.below.cell hbs]; exact x2
  have hBW : B ≤ W.heap.size := by obtain ⟨_, _, _, _⟩ := JA.out.ord; omega
  have HBW := hid hBW
  have hne : Nonempty (Of (Below W.heap.size W)) := ⟨⟨W, Below.refl _ _⟩⟩
  have F0 : ∀ u : Of (Below W.heap.size W), u.val.cell? ⟨wr.heap.size, 0, none⟩ = some (.int .i64 (q : Int)) := fun u => by rw [u.is.cell (cell_lt s0)]; exact s0
  have F1 : ∀ u : Of (Below W.heap.size W), u.val.cell? ⟨wr.heap.size, 1, none⟩ = some (.slice au ((P.t k).L (atK P ver k)) cu) := fun u => by rw [u.is.cell (cell_lt s1)]; exact s1
  have F2 : ∀ u : Of (Below W.heap.size W), u.val.cell? ⟨bs, os + q * 2, none⟩ = some (.int .i64 (q : Int)) := fun u => by rw [u.is.cell (cell_lt t1)]; exact t1
  have F3 : ∀ u : Of (Below W.heap.size W), u.val.cell? ⟨bs, os + q * 2 + 1, none⟩ = some (.slice av9 R cv9) := fun u => by rw [u.is.cell (cell_lt t2)]; exact t2
  have F4 : ∀ u : Of (Below W.heap.size W), u.val.cell? ⟨ga, 0, none⟩ = some (.slice (some ⟨bs, os, none⟩) cnt csh) := fun u => by rw [u.is.cell (cell_lt a0)]; exact a0
  have HD1 : Hid (Below W.heap.size W W.drew) := drew_below W
  obtain ⟨ii, hii, hzz0, hzz1, hzz2⟩ := info_parts Tryz.infoInt
  clear hbl hgd hbA k9 hxs x1 x2 hve t1 t2 a0 hJ hq hBW
  go_enter Tryz.func21, Tryz.ntmps21
  go_wp2_with fail
  refine region_mixed (Below W.heap.size W) [([0, 1, 2, 3, 4, 5], 6)] [7] (by kernel_rfl) (by kernel_rfl) HD1.out ?_
  refine mixO_cons (by simp only [pickO, List.getElem?_cons_zero, List.getElem?_cons_succ]; exact rfl) (by simp only [pickO, List.getElem?_cons_zero, List.getElem?_cons_succ]; exact rfl) ?_
  repeat (go_big_quiet_step (fail))
  refine wpQuiet_nil ?_
  intro K hK
  go_wp2_with fail
  have CE := hid (owes.same (q : Int) (q : Int) _ _ ((P.t k).L (atK P ver k)) R ((P.t k).X (atK P ver k)) (S q) W.drew ((HU.out.below (JA.out.below.trans (HD1.out.mono HBW.out))).mono (Nat.le_trans HBW.out HD1.out.size)) ((HIs.out.below (JA.out.below.trans (HD1.out.mono HBW.out))).mono (Nat.le_trans HBW.out HD1.out.size)))
  obtain ⟨sb, hsb⟩ : ∃ t, sameB (q : Int) (q : Int) ((P.t k).L (atK P ver k)) R ((P.t k).X (atK P ver k)) (S q) = t := ⟨_, rfl⟩
  rw [hsb] at CE
  have HSb := hid (HBl.out sb (HGd.out.trans hsb))
  unfold shareV at CE
  clear hsb
  refine Calls.mono CE.out ?_
  rintro e U3 ⟨rfl, hb3⟩
  have H3 : Hid (Below W.heap.size W U3) := HD1.out.trans (hb3.mono HD1.out.size)
  have J3 := hid (JA.out.up H3.out)
  clear hb3 CE
  go_wp2
  refine ⟨rfl, hK _ _ H3.out ?_⟩
  clear hK K
  cases sb with
  | true =>
    refine mixO_nil (by simp only [pickO, List.getElem?_cons_zero, List.getElem?_cons_succ]; exact rfl) ?_
    repeat (go_big_quiet_step (fail))
    refine wpQuiet_nil ?_
    clear F0 F1 F2 F3 F4 hne s0 s1
    have JF := hid (J3.out.skip HSb.out)
    go_wp2
    refine bodyPost_end (results_none rfl _ _ _) rfl ?_
    exact ⟨rfl, JF.out⟩
  | false =>
    refine mixO_nil (by simp only [pickO, List.getElem?_cons_zero, List.getElem?_cons_succ]; exact rfl) ?_
    repeat (go_big_quiet_step (fail))
    refine wpQuiet_nil ?_
    clear F0 F1 F2 F3 F4 hne s0 s1
    obtain ⟨vw, hvw, hown⟩ := J3.out.who
    obtain ⟨aw, cw, hvs⟩ := own_shapeA hown
    subst hvs
    have HVw := hid hvw
    have HOwn := hid hown
    have d0 : U3.cell? ⟨gw, 0, none⟩ = some (.slice aw (pickL (blB P ver R S) k).length cw) := cell_at hvw rfl
    have hln : (pickL (blB P ver R S) k).length ≤ k := by unfold pickL; rw [List.length_map]; exact Nat.le_trans (List.length_filter_le _ _) (by simp)
    have hbu : base ≤ U3.heap.size := J3.out.ord.2.2.2
    clear hvw hown
    go_wp2_with (at_builtin; refine wpList_append_own_at _ rfl (.tmp 14) (.tmp 16) 28 rfl base 3 ii (.int .i64 0) 1 8 Tryz.underlying28 hii hzz0 hzz1 hzz2 rfl (by decide) _ _ _ rfl (World.ownsRow.alloc HOwn.out _) ⟨_, 0, none⟩ 1 1 [.int .i64 (k : Int)] rfl rfl (newCell _ _ _) (oneCell _) (by unfold maxLen; omega) (by omega) (by simp; omega) ?_; intro v9 w9 ho9 hg9 _ hat9; obtain ⟨a9, c9, hs9⟩ := own_shapeA ho9; subst hs9; have HP9 := hid (J3.out.push HSb.out HVw.out HOwn.out hg9 ho9); have f9 := frozen_at (i := 0) HP9.out.2; have q9 : w9.cell? ⟨gw, 0, none⟩ = some (.slice aw (pickL (blB P ver R S) k).length cw) := cell_at HP9.out.2 rfl; clear ho9 hg9 hat9)
    refine bodyPost_end (results_none rfl _ _ _) rfl ?_
    exact ⟨rfl, HP9.out.1⟩

end Go.Proofs.YtjfnpjmhippdoafGreat

/- How many shares nobody has: counted over an array of what is there. Plain but for what the array holds. -/
namespace Go.Proofs.YtjfnpjmhippdoafGreat

open Go.RowKit CurveMath
set_option linter.unusedVariables false

/-- does one of the first k peers have share i? -/
def thB (P : Ps) (ver : Int) : Nat → Nat → Bool
  | 0, _ => false
  | k + 1, i => thB P ver k i || (hasK P ver k && decide (numK P ver k = (i : Int)))

theorem count_more {p : Nat → Bool} {q : Nat} (hq : p q = false) : ∀ m, (List.range m).countP (fun j => p j || decide (j = q)) = (List.range m).countP p + (if q < m then 1 else 0) := by
  intro m
  induction m with
  | zero => simp
  | succ m ih =>
    rw [List.range_succ, List.countP_append, List.countP_append, ih]
    by_cases h : m = q
    · subst h
      simp [hq]
    · by_cases h2 : q < m
      · simp [h, h2, Nat.lt_succ_of_lt h2]
        omega
      · have h3 : ¬ q < m + 1 := by omega
        simp [h, h2, h3]

theorem count_same {p p' : Nat → Bool} {m : Nat} (h : ∀ j, j < m → p j = p' j) : (List.range m).countP p = (List.range m).countP p' := by
  refine List.countP_congr fun j hj => ?_
  rw [h j (List.mem_range.1 hj)]

theorem count_not (p : Nat → Bool) : ∀ m, (List.range m).countP (fun j => !p j) + (List.range m).countP p = m := by
  intro m
  induction m with
  | zero => simp
  | succ m ih =>
    rw [List.range_succ, List.countP_append, List.countP_append]
    cases h : p m with
    | true => simp [h]; omega
    | false => simp [h]; omega

/-- the list of what is there has each number once -/
theorem there_count {n : Nat} {b : Bk} {np : Nat} {P : Ps} (hR : MeshR n b np P) {ver : Int} {m : Nat} (hN : ∀ k, k < np → hasK P ver k = true → 0 ≤ numK P ver k ∧ numK P ver k < (m : Int)) : ∀ k, k ≤ np →
    (∀ i : Nat, seenN P (thAll P ver k) (i : Int) = thB P ver k i) ∧ (thAll P ver k).length = (List.range m).countP (thB P ver k) := by
  intro k
  induction k with
  | zero =>
    intro _
    have e : thAll P ver 0 = [] := rfl
    rw [e]
    refine ⟨fun i => rfl, ?_⟩
    have h0 : (fun i => thB P ver 0 i) = fun _ => false := rfl
    show 0 = (List.range m).countP (fun i => thB P ver 0 i)
    rw [h0]
    simp
  | succ k ih =>
    intro hk
    obtain ⟨h1, h2⟩ := ih (by omega)
    rw [thAll_has hR ver (by omega)]
    by_cases hh : hasK P ver k = true
    · obtain ⟨n0, n1⟩ := hN k (by omega) hh
      obtain ⟨q, hq⟩ : ∃ q : Nat, numK P ver k = (q : Int) := ⟨(numK P ver k).toNat, by omega⟩
      have hstep : ∀ i : Nat, thB P ver (k + 1) i = (thB P ver k i || decide (i = q)) := fun i => by
        show (thB P ver k i || (hasK P ver k && decide (numK P ver k = (i : Int)))) = _
        rw [hh, hq, Bool.true_and]
        congr 1
        exact decide_eq_decide.2 ⟨fun h => by omega, fun h => by omega⟩
      rw [hh, hq, h1 q, Bool.true_and]
      cases hs : thB P ver k q with
      | true =>
        rw [Bool.not_true, if_neg (by decide)]
        have hsame : ∀ i : Nat, thB P ver (k + 1) i = thB P ver k i := fun i => by
          rw [hstep i]
          by_cases hi : i = q
          · subst hi; rw [hs]; rfl
          · rw [decide_eq_false hi, Bool.or_false]
        exact ⟨fun i => by rw [h1 i, hsame i], by rw [h2]; exact count_same fun j _ => (hsame j).symm⟩
      | false =>
        rw [Bool.not_false, if_pos rfl]
        refine ⟨fun i => ?_, ?_⟩
        · rw [seenN_snoc, h1 i, hstep i]
          have hnum : (P.t k).N (atK P ver k) = (q : Int) := hq
          rw [hnum]
          congr 1
          exact decide_eq_decide.2 ⟨fun h => by omega, fun h => by omega⟩
        · rw [List.length_append, h2, count_same (p := thB P ver (k + 1)) (p' := fun j => thB P ver k j || decide (j = q)) (fun j _ => hstep j), count_more hs, if_pos (by omega)]
          rfl
    · have hf : hasK P ver k = false := by simpa using hh
      have hsame : ∀ i : Nat, thB P ver (k + 1) i = thB P ver k i := fun i => by
        show (thB P ver k i || (hasK P ver k && decide (numK P ver k = (i : Int)))) = _
        rw [hf, Bool.false_and, Bool.or_false]
      rw [hf, Bool.false_and, if_neg (by decide)]
      exact ⟨fun i => by rw [h1 i, hsame i], by rw [h2]; exact count_same fun j _ => (hsame j).symm⟩

/-- how many of the first i numbers nobody has -/
def laC (P : Ps) (ver : Int) (np i : Nat) : Nat := (List.range i).countP fun j => !thB P ver np j

theorem laC_succ (P : Ps) (ver : Int) (np i : Nat) : laC P ver np (i + 1) = laC P ver np i + (if thB P ver np i = true then 0 else 1) := by
  unfold laC
  rw [List.range_succ, List.countP_append]
  cases h : thB P ver np i <;> simp [h]

theorem laC_le (P : Ps) (ver : Int) (np i : Nat) : laC P ver np i ≤ i := by
  unfold laC
  exact Nat.le_trans List.countP_le_length (by simp)

theorem laC_all {n : Nat} {b : Bk} {np : Nat} {P : Ps} (hR : MeshR n b np P) {ver : Int} {m : Nat} (hN : ∀ k, k < np → hasK P ver k = true → 0 ≤ numK P ver k ∧ numK P ver k < (m : Int)) : ((laC P ver np m : Nat) : Int) = (m : Int) - ((thereL P ver np).length : Int) := by
  have h := (there_count hR hN np (Nat.le_refl _)).2
  have h2 := count_not (thB P ver np) m
  unfold laC thereL
  rw [h]
  omega

/-- what Lacking keeps while it asks: which numbers are there so far -/
structure LaI (B : Nat) (w0 : World) (gt : Nat) (P : Ps) (ver : Int) (k : Nat) (wr : World) : Prop where
  below : Below B w0 wr
  ord : B ≤ gt ∧ gt < wr.heap.size
  cell : ∀ i, i < 8 → wr.cell? ⟨gt, i, none⟩ = some (.bool (thB P ver k i))
  free : ∀ i, wr.frozen? ⟨gt, i, none⟩ = false

section

variable {B : Nat} {w0 : World} {gt : Nat} {P : Ps} {ver : Int} {k : Nat} {wr w' : World}

theorem LaI.up (h : LaI B w0 gt P ver k wr) (hb : Below wr.heap.size wr w') : LaI B w0 gt P ver k w' := by
  obtain ⟨o1, o2⟩ := h.ord
  exact ⟨h.below.trans (hb.mono (by omega)), ⟨o1, Nat.lt_of_lt_of_le o2 hb.size⟩, fun i hi => by rw [hb.cell o2]; exact h.cell i hi, fun i => by rw [← h.free i]; exact World.frozen?_of_block (hb.block _ o2)⟩

theorem LaI.skip (h : LaI B w0 gt P ver k wr) (hn : hasK P ver k = false) : LaI B w0 gt P ver (k + 1) wr :=
  ⟨h.below, h.ord, fun i hi => by rw [h.cell i hi]; show _ = some (Value.bool (thB P ver k i || (hasK P ver k && decide (numK P ver k = (i : Int))))); rw [hn, Bool.false_and, Bool.or_false], h.free⟩

theorem LaI.put (h : LaI B w0 gt P ver k wr) (hh : hasK P ver k = true) {q : Nat} (hq : numK P ver k = (q : Int)) (hq8 : q < 8) : LaI B w0 gt P ver (k + 1) (wr.setCell ⟨gt, q, none⟩ (.bool true)) := by
  obtain ⟨o1, o2⟩ := h.ord
  refine ⟨h.below.setCell (p := ⟨gt, q, none⟩) o1 _, ⟨o1, by simpa [World.setCell] using o2⟩, fun i hi => ?_, fun i => by rw [frozen_setN]; exact h.free i⟩
  show _ = some (Value.bool (thB P ver k i || (hasK P ver k && decide (numK P ver k = (i : Int)))))
  rw [hh, hq, Bool.true_and]
  by_cases e : i = q
  · subst e
    rw [decide_eq_true rfl, Bool.or_true]
    exact cell_set_same (h.cell i hi) _
  · rw [cell_set_lit (Or.inr e), decide_eq_false (by omega), Bool.or_false]
    exact h.cell i hi

end

set_option maxHeartbeats 4000000 in
set_option maxRecDepth 10000 in
theorem auLacks (B : Nat) (w0 : World) (gt : Nat) (P : Ps) (ver : Int) (k : Nat) (uk : Value) (hh : hasK P ver k = true) (hN : 0 ≤ numK P ver k ∧ numK P ver k < 8) (huk : ∃ a n c, uk = .slice a n c) (wr : World) (hJ : LaI B w0 gt P ver k wr) :
    Calls Tryz.prog 24 #[.int .i64 (k : Int), .agg #[.int .i64 (numK P ver k), uk], .pointer (some ⟨gt, 0, none⟩)] wr fun e w' => e = .returned (.tuple #[]) ∧ LaI B w0 gt P ver (k + 1) w' := by
  obtain ⟨au, nu, cu, rfl⟩ := huk
  obtain ⟨q, hq⟩ : ∃ q : Nat, numK P ver k = (q : Int) := ⟨(numK P ver k).toNat, by omega⟩
  have hbA := below_alloc wr (.cells #[.int .i64 (numK P ver k), .slice au nu cu] 48)
  have k9 := heap_alloc_new wr (.cells #[.int .i64 (numK P ver k), .slice au nu cu] 48)
  obtain ⟨W, hW⟩ : ∃ u, wr.alloc (.cells #[.int .i64 (numK P ver k), .slice au nu cu] 48) = u := ⟨_, rfl⟩
  rw [hW] at hbA k9
  have JA := hid (hJ.up hbA)
  have hq8 : q < 8 := by omega
  have JP := hid (JA.out.put hh hq hq8)
  rw [hq] at k9 ⊢
  obtain ⟨s0, s1⟩ := two_at k9
  have c0 := JA.out.cell q hq8
  have f0 := JA.out.free q
  have hqi : (q : Int) < 8 := by omega
  rw [hq] at hW
  clear hbA k9 hJ hh hN hq
  go_enter Tryz.func24, Tryz.ntmps24
  go_wp2
  refine bodyPost_end (results_none rfl _ _ _) rfl ?_
  exact ⟨rfl, JP.out⟩

end Go.Proofs.YtjfnpjmhippdoafGreat
