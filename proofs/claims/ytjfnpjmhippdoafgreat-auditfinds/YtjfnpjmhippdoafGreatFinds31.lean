/- Several texts of one proof, in their order. -/
import Derived.Test.YtjfnpjmhippdoafGreatFinds30
import Derived.Test.YtjfnpjmhippdoafGreatFinds27
import Derived.Test.YtjfnpjmhippdoafGreatFinds11
import Derived.Test.YtjfnpjmhippdoafGreatFinds12

/- What package audit owes, of the landed code: Blamed and Lacking. -/
namespace Go.Proofs.YtjfnpjmhippdoafGreat

open Go.RowKit CurveMath
set_option linter.unusedVariables false

set_option maxHeartbeats 4000000 in
set_option maxRecDepth 10000 in
theorem auBlamed (vb : Value) (n : Nat) (PV : Nat → Value) (b : Bk) (vl : Value) (np : Nat) (KV : Nat → Value) (UV : Nat → Nat → Value) (P : Ps) (k : Int) (w : World) (hv : VeSl w w.heap.size vb n PV b) (hl : PsSl w w.heap.size vl np KV UV P) :
    Calls Tryz.prog 6 #[meshV vb vl, .int .i64 k] w (LiPost w (blameV n b np P k) (rsE n b np P k)) := by
  have hb0 := below_alloc w (.cells #[vb, vl] 27)
  have k1 := heap_alloc_new w (.cells #[vb, vl] 27)
  obtain ⟨W0, hW0⟩ : ∃ W, w.alloc (.cells #[vb, vl] 27) = W := ⟨_, rfl⟩
  rw [hW0] at hb0 k1
  have HV := hid hv
  have HL := hid hl
  obtain ⟨ad, cap0, rfl, _, hxv⟩ := hv
  obtain ⟨al, cl, rfl, _, _⟩ := hl
  have CR := hid (msRestore _ n PV b _ np KV UV P k W0 (HV.out.up hb0) (HL.out.up hb0))
  obtain ⟨bv0, hbv0⟩ : ∃ c, blameV n b np P k = c := ⟨_, rfl⟩
  obtain ⟨er0, her0⟩ : ∃ c, rsE n b np P k = c := ⟨_, rfl⟩
  rw [hbv0, her0]
  have HEr0 := hid her0
  unfold blameV at hbv0
  have HBv := hid hbv0
  obtain ⟨m0, m1⟩ := two_at k1
  have B0 := hid hb0
  have K1 := hid k1
  have HXv := hid hxv
  clear hb0 k1 hbv0 hxv her0
  unfold meshV at CR
  unfold meshV
  go_enter Tryz.func6, Tryz.ntmps6
  go_wp2_with fail
  refine Calls.mono CR.out ?_
  rintro e W ⟨hbW, vd, vbad, ld, rfl, hld, hvd, hbad⟩
  have B1 := hid (B0.out.trans (hbW.mono B0.out.size))
  have d1 := stayB K1.out hbW
  have D1 := hid d1
  have HVd := hid hvd
  obtain ⟨adt, cdt, rfl, _, _⟩ := hvd
  obtain ⟨abd, cbd, rfl, _, _⟩ := hbad
  obtain ⟨c, hc⟩ : ∃ c, rsE n b np P k = c := ⟨_, rfl⟩
  have hE1 := HBv.out
  rw [hc] at hE1 hld
  rw [hc]
  have HC := hid hc
  clear hbW m0 m1 CR hc hW0
  by_cases h0 : c = 0
  · subst h0
    obtain rfl : er0 = 0 := HEr0.out.symm.trans HC.out
    rw [if_pos rfl] at hE1 hld
    have HE1 := hid hE1
    obtain ⟨hver, d, mo, sN, e1, e2, e3, hpl⟩ := rsE_ok HC.out
    obtain ⟨hR, hk0, hkn⟩ := verM_ok hver
    obtain ⟨q, rfl⟩ : ∃ q : Nat, k = q := ⟨k.toNat, by omega⟩
    rw [Int.toNat_natCast] at e1 e2 e3 hld
    have hqn : q < n := by omega
    have hki : (q : Int) < (n : Int) := by omega
    have hls : ld = sN := by rw [e3] at hld; omega
    subst hls
    have HR := hid hR
    have HPl := hid hpl
    have hps := planOk_spec hpl
    have HNd := hid e1
    have HOf := hid e2
    have HSz := hid e3
    rcases HXv.out with h0 | ⟨bv, ov, rfl, hbv, hxv⟩
    · omega
    obtain ⟨_, v1, v2, v3, _⟩ := hxv q hqn
    rw [e1] at v1
    rw [e2] at v2
    rw [e3] at v3
    have q1 : W.cell? ⟨bv, ov + q * 4 + 1, none⟩ = some (.int .i64 (d : Int)) := by rw [B1.out.cell hbv]; exact v1
    have q2 : W.cell? ⟨bv, ov + q * 4 + 2, none⟩ = some (.int .i64 (mo : Int)) := by rw [B1.out.cell hbv]; exact v2
    have q3 : W.cell? ⟨bv, ov + q * 4 + 3, none⟩ = some (.int .i64 (ld : Int)) := by rw [B1.out.cell hbv]; exact v3
    obtain ⟨m0, m1⟩ := two_at d1
    have CSp := hid (owes.split (d : Int) (mo : Int) (ld : Int) _ ld (rsD b np P (q : Int)) W HVd.out)
    rw [split_ok hpl (fun j => rsD_num b np P (q : Int) j)] at CSp
    unfold planV at CSp
    clear d1 hE1 hxv v1 v2 v3 hld hver hR hpl e1 e2 e3
    go_wp2_with fail
    refine Calls.mono CSp.out ?_
    rintro e W2 ⟨hb2, vs, cnt, SV, rfl, hcnt, hsh, _, _⟩
    rw [if_pos trivial] at hcnt
    obtain rfl : cnt = mo := by omega
    obtain ⟨R, hRr⟩ : ∃ R : Nat, rowsN (d : Int) (ld : Int) = R := ⟨_, rfl⟩
    obtain ⟨S, hSs⟩ : ∃ S, rsS b np P (q : Int) = S := ⟨_, rfl⟩
    have hsx : (fun (j : Nat) (r : Nat) => shv (d : Int).toNat ld (rsD b np P (q : Int)) j r) = S := by
      rw [← hSs]
      funext j r
      unfold rsS
      simp only [Int.toNat_natCast]
      rw [HNd.out, HSz.out]
      simp only [Int.toNat_natCast]
    rw [hsx, hRr] at hsh
    have B2 := hid (B1.out.trans (hb2.mono B1.out.size))
    have d1 := stayB D1.out hb2
    have D21 := hid d1
    have HSh := hid hsh
    obtain ⟨ash, csh, rfl, _, _⟩ := hsh
    have hNl : ∀ i, i < np → hasK P (q : Int) i = true → numK P (q : Int) i < (cnt : Int) := fun i hi hh => by
      obtain ⟨_, h1, h2⟩ := hasK_at hh
      have h3 := ((HR.out.peer i hi).right _ h1).2
      unfold oneK at h3
      rw [h2, Int.toNat_natCast, HNd.out, HOf.out, HSz.out] at h3
      exact (oneE_ok h3).2.1.2
    have HNl := hid hNl
    have hbl : pickL (blB P (q : Int) R S) np = bv0 := by
      have h9 := HE1.out
      unfold blL at h9
      rw [Int.toNat_natCast, HNd.out, HSz.out, hRr, hSs] at h9
      exact h9
    have HBl := hid hbl
    have h8 := HR.out.few
    -- the two boxes
    have hbx := below_alloc W2 (.cells #[.slice ash cnt csh] 56)
    have kx := heap_alloc_new W2 (.cells #[.slice ash cnt csh] 56)
    have hby := below_alloc (W2.alloc (.cells #[.slice ash cnt csh] 56)) (.cells #[.slice none 0 0] 28)
    have ky := heap_alloc_new (W2.alloc (.cells #[.slice ash cnt csh] 56)) (.cells #[.slice none 0 0] 28)
    have kx2 := stayB kx hby
    have hsz4 : ((W2.alloc (.cells #[.slice ash cnt csh] 56)).alloc (.cells #[.slice none 0 0] 28)).heap.size = W2.heap.size + 2 := by simp
    have hsz3 : (W2.alloc (.cells #[.slice ash cnt csh] 56)).heap.size = W2.heap.size + 1 := by simp
    rw [hsz3] at ky
    have hb24 := hbx.trans (hby.mono hbx.size)
    obtain ⟨W4, hW4⟩ : ∃ u, (W2.alloc (.cells #[.slice ash cnt csh] 56)).alloc (.cells #[.slice none 0 0] 28) = u := ⟨_, rfl⟩
    rw [hW4] at ky kx2 hsz4 hb24
    have J0 : BlI W2.heap.size W2 W2.heap.size (W2.heap.size + 1) (W2.heap.size + 2) (.slice ash cnt csh) P (q : Int) R S 0 W4 :=
      ⟨hb24, ⟨Nat.le_refl _, by omega, by omega, by omega⟩, kx2, .slice none 0 0, ky, World.ownsRow_nil _ _ _ _⟩
    have D4 := hid (stayB D21.out hb24)
    have HL2 := hid (HL.out.up B2.out)
    have CE := hid (auEachA W2.heap.size W2 (.slice (some ⟨bv, ov, none⟩) n cap0) (.slice al np cl) np KV UV P (q : Int) W2.heap.size (W2.heap.size + 1) (BlI W2.heap.size W2 W2.heap.size (W2.heap.size + 1) (W2.heap.size + 2) (.slice ash cnt csh) P (q : Int) R S) W4 ⟨_, _, _, rfl⟩ HL2.out (by omega)
      (fun i wr h => ⟨h.below, by obtain ⟨_, _, _, _⟩ := h.ord; omega⟩) (fun i wr w' h hb => h.up hb) (fun i wr hi hn h => h.skip (by unfold blB; rw [hn, Bool.false_and]))
      (fun i wr hi hh h => by
        obtain ⟨_, h1, _⟩ := hasK_at hh
        have hnum : 0 ≤ numK P (q : Int) i ∧ numK P (q : Int) i < 8 := HR.out.num i _ hi h1
        exact auBlames W2.heap.size W2 _ _ _ cnt R ash csh SV S P (q : Int) i (UV i (atK P (q : Int) i)) HSh.out hh ⟨hnum.1, HNl.out i hi hh⟩ (by omega) (HL2.out.ints hi h1) wr h) J0)
    unfold meshV at CE
    obtain ⟨c0, c1⟩ := two_at D4.out
    have hmf : ∀ (fn : Fn) (first cap : Array Value) (w : World), (Instr.makeFunc fn first cap).run Tryz.prog w = .ok (.func fn first cap) w := fun _ _ _ _ => rfl
    have HB24 := hid hb24
    have hfold : ((W2.alloc (.cells #[.slice ash cnt csh] 56)).alloc (.cells #[.slice none 0 0] 28)) = W4 := hW4
    clear hb2 CSp q1 q2 q3 hsx d1 hNl hRr hSs hcnt m0 m1 hbx kx hby ky kx2 hsz4 J0 hb24 hbl hW4
    go_wp2_with fail
    try rw [hsz3]
    try rw [hfold]
    clear hfold hsz3
    refine Calls.mono CE.out ?_
    rintro e W5 ⟨rfl, J5⟩
    obtain ⟨vw, hvw, hown⟩ := J5.who
    rw [HBl.out] at hown
    have HIs := hid (own_isl hown (by rw [← HBl.out]; unfold pickL; rw [List.length_map]; have := List.length_filter_le (blB P (q : Int) R S) (List.range np); simp at this; omega))
    have HIs2 := HIs
    obtain ⟨aw, cw, rfl, _, _⟩ := HIs2.out
    have y0 : W5.cell? ⟨W2.heap.size + 1, 0, none⟩ = some (.slice aw bv0.length cw) := cell_at hvw rfl
    have HB5 := hid (B2.out.trans (J5.below.mono B2.out.size))
    clear hvw hown J5 CE hmf c0 c1
    go_wp2
    go_ret2
    exact ⟨HB5.out, .slice aw bv0.length cw, rfl, HIs.out⟩
  · have hcb : (c != 0) = true := by simpa using h0
    rw [if_neg h0] at hE1
    subst hE1
    obtain rfl : er0 = c := HEr0.out.symm.trans HC.out
    clear h0 hld
    go_wp2
    go_ret2
    exact liPost_nil B1.out

set_option maxHeartbeats 4000000 in
set_option maxRecDepth 10000 in
theorem auLacking (vb : Value) (n : Nat) (PV : Nat → Value) (b : Bk) (vl : Value) (np : Nat) (KV : Nat → Value) (UV : Nat → Nat → Value) (P : Ps) (k : Int) (w : World) (hv : VeSl w w.heap.size vb n PV b) (hl : PsSl w w.heap.size vl np KV UV P) :
    Calls Tryz.prog 7 #[meshV vb vl, .int .i64 k] w fun e w' => e = .returned (.tuple #[.int .i64 (lackV n b np P k), .int .i64 (verM n b np P k)]) ∧ Below w.heap.size w w' := by
  have hb0 := below_alloc w (.cells #[vb, vl] 27)
  have k1 := heap_alloc_new w (.cells #[vb, vl] 27)
  obtain ⟨W0, hW0⟩ : ∃ W, w.alloc (.cells #[vb, vl] 27) = W := ⟨_, rfl⟩
  rw [hW0] at hb0 k1
  have HV := hid hv
  have HL := hid hl
  obtain ⟨ad, cap0, rfl, _, hxv⟩ := hv
  obtain ⟨al, cl, rfl, _, _⟩ := hl
  have CK := hid (msCheck _ n PV b _ np KV UV P W0 (HV.out.up hb0) (HL.out.up hb0))
  obtain ⟨lv, hlv⟩ : ∃ c, lackV n b np P k = c := ⟨_, rfl⟩
  obtain ⟨ve, hve⟩ : ∃ c, verM n b np P k = c := ⟨_, rfl⟩
  rw [hlv, hve]
  unfold lackV at hlv
  rw [hve] at hlv
  have HVe := hid hve
  have HLv := hid hlv
  obtain ⟨c, hc⟩ : ∃ c, peersE n b np P = c := ⟨_, rfl⟩
  rw [hc] at CK
  unfold verM at hve
  rw [hc] at hve
  have HVc := hid hve
  have HC := hid hc
  obtain ⟨m0, m1⟩ := two_at k1
  have B0 := hid hb0
  have K1 := hid k1
  have HXv := hid hxv
  clear hb0 k1 hlv hve hxv hc
  unfold meshV at CK
  unfold meshV
  go_enter Tryz.func7, Tryz.ntmps7
  go_wp2_with fail
  refine Calls.mono CK.out ?_
  rintro e W ⟨rfl, hbW⟩
  have B1 := hid (B0.out.trans (hbW.mono B0.out.size))
  have d1 := stayB K1.out hbW
  have D1 := hid d1
  clear hbW m0 m1 CK hW0
  obtain ⟨m0, m1⟩ := two_at d1
  clear d1
  by_cases h0 : c = 0
  · subst h0
    have hve := HVc.out
    rw [if_pos rfl] at hve
    by_cases hlo : k < 0
    · have hne : ¬ (0 ≤ k ∧ k < (n : Int)) := by omega
      rw [if_neg hne] at hve
      subst hve
      have hl0 := HLv.out
      rw [if_neg (by decide)] at hl0
      subst hl0
      clear hne
      go_wp2
      go_ret2
      exact ⟨rfl, B1.out⟩
    · by_cases hhi : k < (n : Int)
      · rw [if_pos ⟨by omega, hhi⟩] at hve
        subst hve
        obtain ⟨q, rfl⟩ : ∃ q : Nat, k = q := ⟨k.toNat, by omega⟩
        obtain ⟨hR, _, _⟩ := verM_ok HVe.out
        have hqn : q < n := by omega
        have HR := hid hR
        have h8 := hR.few
        have hpb := plan_bd hR hqn
        have hl0 := HLv.out
        rw [if_pos rfl] at hl0
        unfold laN at hl0
        rw [Int.toNat_natCast] at hl0
        obtain ⟨o, ho⟩ : ∃ o : Nat, b.of q = (o : Int) := ⟨(b.of q).toNat, by omega⟩
        rw [ho] at hl0 hpb
        have ho8 : o ≤ 8 := by omega
        have hNl : ∀ i, i < np → hasK P (q : Int) i = true → 0 ≤ numK P (q : Int) i ∧ numK P (q : Int) i < (o : Int) := fun i hi hh => by
          obtain ⟨_, h1, h2⟩ := hasK_at hh
          have h3 := ((HR.out.peer i hi).right _ h1).2
          unfold oneK at h3
          rw [h2, Int.toNat_natCast, ho] at h3
          have h4 := (oneE_ok h3).2.1
          exact ⟨h4.1, h4.2⟩
        have hla := laC_all hR hNl
        rw [hl0] at hla
        have HLa := hid hla
        rcases HXv.out with h0 | ⟨bv, ov, rfl, hbv, hxv⟩
        · omega
        obtain ⟨_, _, v2, _, _⟩ := hxv q hqn
        rw [ho] at v2
        have HO := hid ho
        have V2 : Hid (∀ u, Below w.heap.size w u → u.cell? ⟨bv, ov + q * 4 + 2, none⟩ = some (.int .i64 (o : Int))) := fun u hu => by rw [hu.cell hbv]; exact v2
        have hnl : ¬ (q : Int) < 0 := hlo
        have hki : (q : Int) < (n : Int) := hhi
        have hge : ¬ (q : Int) ≥ (n : Int) := by omega
        clear hxv v2 hl0 hla hNl hR hpb hlo hhi ho
        have hbx := below_alloc W (.cells #[.bool false, .bool false, .bool false, .bool false, .bool false, .bool false, .bool false, .bool false] 65)
        have kx := heap_alloc_new W (.cells #[.bool false, .bool false, .bool false, .bool false, .bool false, .bool false, .bool false, .bool false] 65)
        have hfz : ∀ i, (W.alloc (.cells #[.bool false, .bool false, .bool false, .bool false, .bool false, .bool false, .bool false, .bool false] 65)).frozen? ⟨W.heap.size, i, none⟩ = false := fun i => frozen_at kx
        obtain ⟨W4, hW4⟩ : ∃ u, W.alloc (.cells #[.bool false, .bool false, .bool false, .bool false, .bool false, .bool false, .bool false, .bool false] 65) = u := ⟨_, rfl⟩
        rw [hW4] at hbx kx hfz
        have J0 : LaI W.heap.size W W.heap.size P (q : Int) 0 W4 := ⟨hbx, ⟨Nat.le_refl _, (Array.getElem?_eq_some_iff.1 kx).1⟩, fun i hi => by
          match i, hi with
          | 0, _ => exact cell_at kx rfl
          | 1, _ => exact cell_at kx rfl
          | 2, _ => exact cell_at kx rfl
          | 3, _ => exact cell_at kx rfl
          | 4, _ => exact cell_at kx rfl
          | 5, _ => exact cell_at kx rfl
          | 6, _ => exact cell_at kx rfl
          | 7, _ => exact cell_at kx rfl, hfz⟩
        have HL2 := hid (HL.out.up B1.out)
        have CE := hid (auEachB W.heap.size W (.slice (some ⟨bv, ov, none⟩) n cap0) (.slice al np cl) np KV UV P (q : Int) W.heap.size (LaI W.heap.size W W.heap.size P (q : Int)) W4 ⟨_, _, _, rfl⟩ HL2.out (by omega)
          (fun i wr h => ⟨h.below, by obtain ⟨_, _⟩ := h.ord; omega⟩) (fun i wr w' h hb => h.up hb) (fun i wr hi hn h => h.skip hn)
          (fun i wr hi hh h => by
            obtain ⟨_, h1, _⟩ := hasK_at hh
            have hnum : 0 ≤ numK P (q : Int) i ∧ numK P (q : Int) i < 8 := HR.out.num i _ hi h1
            obtain ⟨a9, c9, e9, _⟩ := HL2.out.ints hi h1
            exact auLacks W.heap.size W _ P (q : Int) i (UV i (atK P (q : Int) i)) hh hnum ⟨_, _, _, e9⟩ wr h) J0)
        unfold meshV at CE
        have D4 := hid (stayB D1.out hbx)
        have hmf : ∀ (fn : Fn) (first cap : Array Value) (w : World), (Instr.makeFunc fn first cap).run Tryz.prog w = .ok (.func fn first cap) w := fun _ _ _ _ => rfl
        obtain ⟨c0, c1⟩ := two_at D4.out
        clear hbx kx hfz J0
        go_wp2_with fail
        try rw [hW4]
        refine Calls.mono CE.out ?_
        rintro e W5 ⟨rfl, J5⟩
        have J := hid J5
        have d5 := stayB D1.out J5.below
        obtain ⟨y0, y1⟩ := two_at d5
        have y2 := V2.out W5 (B1.out.trans (J5.below.mono B1.out.size))
        have HB5 := hid (B1.out.trans (J5.below.mono B1.out.size))
        clear CE hmf c0 c1 J5 d5 hW4 m0 m1
        have harr : Tryz.prog.arrayLen 65 = 8 := by kernel_rfl
        have hal : (o : Int) ≤ 8 := by omega
        have hal2 : 0 ≤ (o : Int) := by omega
        go_wp2
        clear y0 y1 y2 harr
        go_loopw [8, 40] (fun cv iv wr => ∃ i : Nat, i ≤ o ∧ iv = .int .i64 i ∧ cv = .int .i64 (laC P (q : Int) np i : Nat) ∧ wr = W5) (fun _ iv _ => o - (intOf iv).toNat)
        case atStart => exact ⟨0, Nat.zero_le _, rfl, rfl, rfl⟩
        case round =>
          obtain ⟨i, hi, rfl, rfl, rfl⟩ := hrel
          by_cases hlt : i < o
          · have hii : (i : Int) < (o : Int) := by omega
            have z0 := J.out.cell i (by omega)
            have hle := laC_le P (q : Int) np i
            have hsc := laC_succ P (q : Int) np i
            have HSc := hid hsc
            obtain ⟨lc, hlc⟩ : ∃ t, laC P (q : Int) np i = t := ⟨_, rfl⟩
            obtain ⟨tb, htb⟩ : ∃ t, thB P (q : Int) np i = t := ⟨_, rfl⟩
            rw [hlc, htb] at hsc
            rw [hlc] at hle ⊢
            rw [htb] at z0
            have HSc2 := hid hsc
            clear hsc hlc htb HSc
            cases tb with
            | true =>
              go_wp2
              go_roundw
              case rel => exact ⟨i + 1, by omega, by go_num, by rw [HSc2.out]; rfl, by first | rfl | trivial⟩
              case measure => simp only [intOf]; omega
            | false =>
              go_wp2
              go_roundw
              case rel => exact ⟨i + 1, by omega, by go_num, by rw [HSc2.out]; rfl, by first | rfl | trivial⟩
              case measure => simp only [intOf]; omega
          · have hie : o = i := by omega
            subst hie
            have hjn : ¬ (o : Int) < (o : Int) := by omega
            go_wp2
            go_ret2
            exact ⟨by rw [← HLa.out]; rfl, HB5.out⟩
      · rw [if_neg (fun h => hhi h.2)] at hve
        subst hve
        have hl0 := HLv.out
        rw [if_neg (by decide)] at hl0
        subst hl0
        have hge : k ≥ (n : Int) := by omega
        clear hhi
        go_wp2
        go_ret2
        exact ⟨rfl, B1.out⟩
  · have hcb : (c != 0) = true := by simpa using h0
    have hve := HVc.out
    rw [if_neg h0] at hve
    subst hve
    have hl0 := HLv.out
    rw [if_neg h0] at hl0
    subst hl0
    clear h0
    go_wp2
    go_ret2
    exact ⟨rfl, B1.out⟩

/-- what package audit owes, it pays -/
theorem auditOwes : AuditOwes where
  blamed := auBlamed
  lacking := auLacking

end Go.Proofs.YtjfnpjmhippdoafGreat

/- What AuditFinds writes to: the first number of a share that was given, in a block that nothing else of the mesh lies in; and the list of who is bent. -/
namespace Go.Proofs.YtjfnpjmhippdoafGreat

open Go.RowKit CurveMath
set_option linter.unusedVariables false

theorem offV_N {r u : Value} {L bu ou n c : Nat} (h : OffV r u L) (hL : 1 ≤ L) (hu : u = .slice (some ⟨bu, ou, none⟩) n c) : ∀ a m c', r = .slice (some a) m c' → a.block ≠ bu :=
  fun a m c' e => h.resolve_left (by omega) a m c' ⟨bu, ou, none⟩ n c e hu

theorem offV_n {r u : Value} {L m bu ou n c : Nat} (h : m = 0 ∨ OffV r u L) (hL : 1 ≤ L) (hu : u = .slice (some ⟨bu, ou, none⟩) n c) : OffN bu r m :=
  h.imp id fun h => offV_N h hL hu

/-- a number of the list itself is written -/
theorem isl_self {w : World} {B bu ou c L : Nat} {X : Nat → Int} (h : IntSl w B (.slice (some ⟨bu, ou, none⟩) L c) L X) (hL : 1 ≤ L) (y : Int) : IntSl (w.setCell ⟨bu, ou, none⟩ (.int .i64 y)) B (.slice (some ⟨bu, ou, none⟩) L c) L (fun r => if r = 0 then y else X r) := by
  obtain ⟨ad, cap, e, h0, h2⟩ := h
  injection e with e1 _ e3
  subst e1 e3
  refine ⟨_, _, rfl, h0, ?_⟩
  rcases h2 with h2 | ⟨b, off, e, h4, h5⟩
  · omega
  · injection e with e
    injection e with e1 e2
    subst e1 e2
    refine Or.inr ⟨bu, ou, rfl, h4, fun j hj => ?_⟩
    by_cases hj0 : j = 0
    · subst hj0
      show _ = some (Value.int .i64 y)
      exact cell_set_same (h5 0 (by omega)) _
    · show _ = some (Value.int .i64 (if j = 0 then y else X j))
      rw [if_neg hj0, cell_set_lit (Or.inr (by omega))]
      exact h5 j hj

theorem ke_map {w w' : World} {B : Nat} {v : Value} {m : Nat} {U : Nat → Value} {t t' : Kt} (h : KeSl w B v m U t) (hV : ∀ j, j < m → t'.V j = t.V j ∧ t'.N j = t.N j) (hc : 1 ≤ m → ∀ a n c, v = .slice (some a) n c → ∀ o, w'.cell? ⟨a.block, o, none⟩ = w.cell? ⟨a.block, o, none⟩)
    (hi : ∀ j, j < m → IntSl w B (U j) (t.L j) (t.X j) → IntSl w' B (U j) (t'.L j) (t'.X j)) : KeSl w' B v m U t' := by
  obtain ⟨ad, cap, rfl, h0, h2⟩ := h
  refine ⟨ad, cap, rfl, h0, ?_⟩
  rcases h2 with h2 | ⟨bl, off, rfl, h4, h5⟩
  · exact Or.inl h2
  · refine Or.inr ⟨bl, off, rfl, h4, fun j hj => ?_⟩
    obtain ⟨g1, g2, g3, g4⟩ := h5 j hj
    have hk := hc (by omega) _ _ _ rfl
    rw [(hV j hj).1, (hV j hj).2]
    exact ⟨by rw [hk]; exact g1, by rw [hk]; exact g2, by rw [hk]; exact g3, hi j hj g4⟩

/-- the law's mesh, whose given shares are written to, and the list of who is bent -/
structure FdInv (w : World) (gx base : Nat) (wr : World) (ab : Option Addr) (n cb : Nat) (PV : Nat → Value) (b : Bk) (al : Option Addr) (np cl : Nat) (KV : Nat → Value) (UV : Nat → Nat → Value) (P : Ps) (vw : Value) (l : List Int) : Prop where
  below : Below w.heap.size w wr
  wg : w.heap.size ≤ gx
  gb : gx < base
  bs : base ≤ wr.heap.size
  box : wr.heap[gx]? = some (.cells #[.slice ab n cb, .slice al np cl] 27 (0, 0))
  ve : VeSl wr base (.slice ab n cb) n PV b
  ps : PsSl wr base (.slice al np cl) np KV UV P
  fr : ∀ k i, k < np → i < P.m k → 1 ≤ (P.t k).L i → ∀ ad m c, UV k i = .slice (some ad) m c → w.heap.size ≤ ad.block ∧ ad.block < gx ∧ ∀ o, wr.frozen? ⟨ad.block, o, none⟩ = false
  own : wr.ownsRow base 3 1 vw l.length (l.map (Value.int .i64))

section

variable {w : World} {gx base : Nat} {wr w' : World} {ab : Option Addr} {n cb : Nat} {PV : Nat → Value} {b : Bk} {al : Option Addr} {np cl : Nat} {KV : Nat → Value} {UV : Nat → Nat → Value} {P P' : Ps} {vw v1 : Value} {l l1 : List Int}

theorem FdInv.upB (h : FdInv w gx base wr ab n cb PV b al np cl KV UV P vw l) (hb : Below base wr w') (ho : w'.ownsRow base 3 1 v1 l1.length (l1.map (Value.int .i64))) : FdInv w gx base w' ab n cb PV b al np cl KV UV P v1 l1 := by
  have hwg := h.wg
  have hgb := h.gb
  exact ⟨h.below.trans (hb.mono (by omega)), h.wg, h.gb, Nat.le_trans h.bs hb.size, by rw [hb.block _ h.gb]; exact h.box, h.ve.below hb, h.ps.below hb,
    fun k i hk hi hL ad m c e => by
      obtain ⟨h1, h2, h3⟩ := h.fr k i hk hi hL ad m c e
      exact ⟨h1, h2, fun o => by rw [← h3 o]; exact World.frozen?_of_block (hb.block _ (by show ad.block < base; omega))⟩, ho⟩

theorem FdInv.up (h : FdInv w gx base wr ab n cb PV b al np cl KV UV P vw l) (hb : Below wr.heap.size wr w') : FdInv w gx base w' ab n cb PV b al np cl KV UV P vw l :=
  h.upB (hb.mono h.bs) (owns_below h.own hb)

/-- the list grows -/
theorem FdInv.grow (h : FdInv w gx base wr ab n cb PV b al np cl KV UV P vw l) (hg : wr.grownBy w' vw.ownBlock) (ho : w'.ownsRow base 3 1 v1 l1.length (l1.map (Value.int .i64))) : FdInv w gx base w' ab n cb PV b al np cl KV UV P v1 l1 :=
  h.upB (Below.grown (Below.refl base wr) hg h.bs (fun k hk => (h.own.lt k hk).1)) ho

theorem FdInv.ms (h : FdInv w gx base wr ab n cb PV b al np cl KV UV P vw l) : MsAt wr gx ab n cb PV b al np cl KV UV P := ⟨h.box, h.ve.mono h.bs, h.ps.mono h.bs⟩

/-- a given share is bent -/
theorem FdInv.bend (h : FdInv w gx base wr ab n cb PV b al np cl KV UV P vw l) {ver : Int} (hp : MPart (.slice ab n cb) n PV b (.slice al np cl) np KV UV P ver (fun _ => True)) {k i : Nat} (hk : k < np) (hi : i < P.m k) (hV : (P.t k).V i = ver) (h1 : ∀ j, j < P.m k → (P.t k).V j = ver → j = i)
    {bu ou cu : Nat} (hu : UV k i = .slice (some ⟨bu, ou, none⟩) ((P.t k).L i) cu) (hL : 1 ≤ (P.t k).L i) (y : Int)
    (e : P'.th = P.th ∧ P'.rm = P.rm ∧ P'.m = P.m) (et : ∀ q, q < np → (P'.t q).V = (P.t q).V ∧ (P'.t q).N = (P.t q).N ∧ (P'.t q).L = (P.t q).L) (eX : ∀ q j r, q < np → j < P.m q → (P'.t q).X j r = if q = k ∧ j = i ∧ r = 0 then y else (P.t q).X j r) :
    FdInv w gx base (wr.setCell ⟨bu, ou, none⟩ (.int .i64 y)) ab n cb PV b al np cl KV UV P' vw l := by
  obtain ⟨o1, o2, o3, o4, o5⟩ := hp k hk trivial i hi hV
  obtain ⟨f1, f2, f3⟩ := h.fr k i hk hi hL _ _ _ hu
  replace f1 : w.heap.size ≤ bu := f1
  replace f2 : bu < gx := f2
  have hgb := h.gb
  have hbs := h.bs
  have hz : (wr.setCell ⟨bu, ou, none⟩ (.int .i64 y)).heap.size = wr.heap.size := by simp [World.setCell]
  refine ⟨h.below.setCell (p := ⟨bu, ou, none⟩) f1 _, h.wg, h.gb, by rw [hz]; exact hbs, ?_, ?_, ?_, fun q j hq hj hL9 ad m c e9 => ?_, ownsRow_setCell_below h.own (a := ⟨bu, ou, none⟩) (by show bu < base; omega) _⟩
  · rw [Below.heap_setCell _ _ _ _ (by show gx ≠ bu; omega)]; exact h.box
  · obtain ⟨ad, cap, e9, h0, h2⟩ := h.ve
    refine ⟨ad, cap, e9, h0, ?_⟩
    rcases h2 with h2 | ⟨bl, off, rfl, h4, h5⟩
    · exact Or.inl h2
    · have hbl : bl ≠ bu := offV_N o1 hL hu _ _ _ e9
      refine Or.inr ⟨bl, off, rfl, h4, fun j hj => ?_⟩
      obtain ⟨x0, x1, x2, x3, x4⟩ := h5 j hj
      exact ⟨by rw [cell_set_lit (Or.inl hbl)]; exact x0, by rw [cell_set_lit (Or.inl hbl)]; exact x1, by rw [cell_set_lit (Or.inl hbl)]; exact x2, by rw [cell_set_lit (Or.inl hbl)]; exact x3, isl_setN x4 (offV_n (o2 j hj) hL hu) _ _⟩
  · obtain ⟨ad, cap, e9, h0, h2⟩ := h.ps
    refine ⟨ad, cap, e9, h0, ?_⟩
    rcases h2 with h2 | ⟨bl, off, rfl, h4, h5⟩
    · exact Or.inl h2
    · have hbl : bl ≠ bu := offV_N o3 hL hu _ _ _ e9
      refine Or.inr ⟨bl, off, rfl, h4, fun q hq => ?_⟩
      obtain ⟨x0, x1, x2, x3⟩ := h5 q hq
      obtain ⟨t1, t2, t3⟩ := et q hq
      rw [e.1, e.2.1, e.2.2]
      refine ⟨by rw [cell_set_lit (Or.inl hbl)]; exact x0, by rw [cell_set_lit (Or.inl hbl)]; exact x1, by rw [cell_set_lit (Or.inl hbl)]; exact x2, ke_map x3 (fun j _ => by rw [t1, t2]; exact ⟨rfl, rfl⟩) (fun hm a m c e8 o => ?_) (fun j hj hl => ?_)⟩
      · exact cell_set_lit (Or.inl ((offV_n (o4 q hq) hL hu).resolve_left (by omega) a m c e8)) _
      · rw [t3]
        by_cases hs : q = k ∧ j = i
        · obtain ⟨rfl, rfl⟩ := hs
          rw [hu] at hl ⊢
          refine (isl_self hl hL y).congr fun r hr => ?_
          rw [eX q j r hq hj]
          by_cases hr0 : r = 0
          · rw [if_pos hr0, if_pos ⟨rfl, rfl, hr0⟩]
          · rw [if_neg hr0, if_neg (fun h => hr0 h.2.2)]
        · have hne : q ≠ k ∨ (P.t q).V j ≠ ver := by
            by_cases hqk : q = k
            · subst hqk
              exact Or.inr fun hv => hs ⟨rfl, h1 j hj hv⟩
            · exact Or.inl hqk
          refine (isl_setN hl (offV_n (o5 q j hq hj hne) hL hu) _ _).congr fun r hr => ?_
          rw [eX q j r hq hj, if_neg (fun h => hs ⟨h.1, h.2.1⟩)]
  · rw [e.2.2] at hj
    rw [(et q hq).2.2] at hL9
    obtain ⟨g1, g2, g3⟩ := h.fr q j hq hj hL9 ad m c e9
    exact ⟨g1, g2, fun o => by rw [frozen_setN]; exact g3 o⟩

/-- apart stays apart: it speaks of where lists lie, and of whose they are -/
theorem MPart.congr {ver : Int} {vb vl : Value} {G : Nat → Prop} (h : MPart vb n PV b vl np KV UV P ver G) (em : P'.m = P.m) (et : ∀ q, q < np → (P'.t q).V = (P.t q).V ∧ (P'.t q).L = (P.t q).L) : MPart vb n PV b vl np KV UV P' ver G := by
  intro q hq hG i hi hV
  rw [em] at hi
  rw [(et q hq).1] at hV
  obtain ⟨o1, o2, o3, o4, o5⟩ := h q hq hG i hi hV
  rw [(et q hq).2]
  refine ⟨o1, o2, o3, fun k hk => by rw [em]; exact o4 k hk, fun k i' hk hi' hne => ?_⟩
  rw [em] at hi'
  rw [(et k hk).1] at hne
  rw [(et k hk).2]
  exact o5 k i' hk hi' hne

end

/-- one more is bent -/
theorem bent_more {P : Ps} {ver : Int} {W : List Nat} {c : Int} {k : Nat} (hk : k ∉ W) : ∀ q j r, ((bentP P ver (W ++ [k]) c).t q).X j r = if q = k ∧ j = atK P ver k ∧ r = 0 then ((P.t k).X (atK P ver k) 0 + c) % 31 else ((bentP P ver W c).t q).X j r := by
  intro q j r
  rw [bent_X, bent_X]
  by_cases hq : q = k
  · subst hq
    by_cases h : j = atK P ver q ∧ r = 0
    · rw [if_pos ⟨by simp, h.1, h.2⟩, if_pos ⟨rfl, h.1, h.2⟩, h.1]
    · rw [if_neg (fun h9 => h h9.2), if_neg (fun h9 => h h9.2), if_neg (fun h9 => h h9.2)]
  · have e : (q ∈ W ++ [k]) = (q ∈ W) := propext (by simp [hq])
    simp only [e]
    exact (if_neg (fun h9 => hq h9.1)).symm

end Go.Proofs.YtjfnpjmhippdoafGreat
