/- Several texts of one proof, in their order. -/
import Derived.Test.YtdhefajaekackaaPlaceFairPart2

/- Chapter 8's second law, of packages that do what they owe: the law's walk. -/
namespace Go.Proofs.Ytdhefajaekackaa

open Go.RowKit Go.Maps
set_option linter.unusedVariables false

set_option maxHeartbeats 8000000 in
set_option maxRecDepth 10000 in
theorem placeFair_of (hO : PlaceOwes) (vb : Value) (n : Nat) (PV : Nat → Value) (b : Bk) (vl : Value) (np : Nat) (KV : Nat → Value) (UV : Nat → Nat → Value) (P : Ps) (ver many : Int) (w : World) (hv : VeSl w w.heap.size vb n PV b) (hl : PsSl w w.heap.size vl np KV UV P) :
    Calls Try.prog 11 #[bookV vb, vl, .int .i64 ver, .int .i64 many] w fun e w' => e = .returned (.bool true) ∧ Below w.heap.size w w' := by
  have HO := hid hO
  have HL0 := hid hl
  have HV0 := hid hv
  obtain ⟨ad, cap, rfl, _, _⟩ := hv
  obtain ⟨al, cl, rfl, _, _⟩ := hl
  have hbx := ((Below.refl w.heap.size w).alloc (Nat.le_refl _) (.cells #[.slice ad n cap] 24)).alloc (by simp) (.cells #[.slice al np cl] 73)
  have k0 := heap_two_old w (.cells #[.slice ad n cap] 24) (.cells #[.slice al np cl] 73)
  have k1 := heap_two_new w (.cells #[.slice ad n cap] 24) (.cells #[.slice al np cl] 73)
  obtain ⟨U, hU⟩ : ∃ u, (w.alloc (.cells #[.slice ad n cap] 24)).alloc (.cells #[.slice al np cl] 73) = u := ⟨_, rfl⟩
  rw [hU] at hbx k0 k1
  have HB := hid hbx
  have K1 := hid k1
  have HL := hid (HL0.out.up hbx)
  have CK := hid (HO.out.who _ n PV b _ np KV UV P ver many U (HV0.out.up hbx) HL.out)
  obtain ⟨er, her⟩ : ∃ c, forE n b P ver np many = c := ⟨_, rfl⟩
  obtain ⟨la, hla⟩ : ∃ c, (if peersE n b np P = 0 then forL P ver np many else []) = c := ⟨_, rfl⟩
  rw [her, hla] at CK
  have HEr := hid her
  have HLa := hid hla
  unfold bookV at CK
  have c0 := cell_at (i := 0) k0 rfl
  have c1 := cell_at (i := 0) k1 rfl
  clear hbx k0 k1 her hla HV0 HL0 hO
  unfold bookV
  go_enter Try.func11, Try.ntmps11
  go_wp2_with fail
  refine Calls.mono CK.out ?_
  rintro e u1 ⟨hb, va, rfl, ha⟩
  replace HB := hid (HB.out.trans (hb.mono HB.out.size))
  replace K1 := hid (stayB K1.out hb)
  replace HL := hid (HL.out.up hb)
  have LA := hid ha
  obtain ⟨aa, ca, rfl, _, _⟩ := ha
  clear hb CK c0 c1 hU
  go_wp2_with fail
  refine Calls.mono (chosen_any HO.out u1) ?_
  rintro e u2 ⟨rfl, hb⟩
  replace HB := hid (HB.out.trans (hb.mono HB.out.size))
  replace K1 := hid (stayB K1.out hb)
  replace HL := hid (HL.out.up hb)
  replace LA := hid (LA.out.up hb)
  clear hb
  by_cases hc0 : er = 0
  · subst hc0
    have hpe : peersE n b np P = 0 := by
      have h := HEr.out
      unfold forE at h
      by_cases h1 : peersE n b np P = 0
      · exact h1
      · rw [if_neg h1] at h; exact h
    have hme : manyE P ver np many = 0 := by
      have h := HEr.out
      unfold forE at h
      rw [if_pos hpe] at h
      exact h
    have HR := hid (rightP_of hpe)
    have hn8 : np ≤ 8 := (rightP_of hpe).le
    obtain ⟨hfl, hm0, hlen⟩ := forL_len hme
    obtain rfl : (orderL P ver np).take many.toNat = la := by rw [← HLa.out, if_pos hpe]; exact hfl.symm
    obtain ⟨q, rfl⟩ : ∃ q : Nat, many = q := ⟨many.toNat, by omega⟩
    rw [Int.toNat_natCast] at *
    obtain ⟨lq, hlq⟩ : ∃ c, ((orderL P ver np).take q).length = c := ⟨_, rfl⟩
    obtain ⟨XA, hXA⟩ : ∃ X : Nat → Int, (fun j => ((orderL P ver np).take q).getD j 0) = X := ⟨_, rfl⟩
    have HEach : Hid (∀ i, i < lq → ∃ k : Nat, XA i = (k : Int) ∧ k < np ∧ mayK P ver k ∧ 1 ≤ leftK P k ∧ leftK P k ≤ 20) := fun i hi => by rw [← hXA]; exact take_each (by rw [hlq]; exact hi)
    have HAh : Hid (∀ i j, i < j → j < lq → AheadK P (XA i) (XA j)) := fun i j hij hj => by rw [← hXA]; exact take_ahead hij (by rw [hlq]; exact hj)
    have HRest : Hid (∀ k i, k < np → mayK P ver k → leftK P k ≤ 20 → (∀ j, j < lq → XA j ≠ (k : Int)) → i < lq → leftK P k ≤ leftK P (XA i).toNat) := fun k i hk hm h20 hnot hi => by
      rw [← hXA]
      exact take_rest hk hm h20 (fun j hj => by have h := hnot j (by rw [← hlq]; exact hj); rw [← hXA] at h; exact h) (by rw [hlq]; exact hi)
    rw [hlq, hXA] at LA
    rw [hlq] at hlen ⊢
    have hlq8 : lq ≤ np * 20 := by
      have h1 := lefts_len P ver np 20
      have h2 : lq ≤ (orderL P ver np).length := by rw [← hlq]; rw [List.length_take]; omega
      unfold orderL at h2
      omega
    have hql : q = lq := by omega
    subst hql
    clear hpe hme hfl hm0 hlq hXA hlen HLa HEr
    have hmm := @run_makeMap Try.prog
    have hmf : ∀ (fn : Fn) (first cap : Array Value) (w : World), (Instr.makeFunc fn first cap).run Try.prog w = .ok (.func fn first cap) w := fun _ _ _ _ => rfl
    have hbm := below_alloc u2 (.map #[] 0)
    have J0 : Hid (PfInv w (u2.alloc (.map #[] 0)) (w.heap.size + 1) al np cl KV UV P (.slice aa q ca) q XA u2.heap.size 0 (fun _ => false)) :=
      ⟨HB.out.trans (hbm.mono HB.out.size), cell_at (stayB K1.out hbm) rfl, HL.out.up hbm, LA.out.up hbm, setM_made u2 8, HB.out.size⟩
    have hns : w.heap.size ≤ u2.heap.size := HB.out.size
    clear hbm HB K1 HL LA
    go_wp2
    generalize u2.heap.size = gm at *
    generalize u2.alloc (.map #[] 0) = V0 at *
    clear hmm
    go_loopw [12, 37] (fun lastv iv wr => ∃ (i : Nat) (S : Nat → Bool) (last : Int), i ≤ q ∧ iv = .int .i64 i ∧ lastv = .int .i64 last ∧ Hid (PfInv w wr (w.heap.size + 1) al np cl KV UV P (.slice aa q ca) q XA gm i S) ∧ Hid (InT (fun _ => false) XA i S) ∧ Hid (last = if i = 0 then 20 else leftK P (XA (i - 1)).toNat)) (fun _ iv _ => q - (intOf iv).toNat)
    case atStart => exact ⟨0, fun _ => false, 20, Nat.zero_le _, rfl, rfl, J0, inT_start _ _, rfl⟩
    case round =>
      obtain ⟨i, S, last, hiq, rfl, rfl, J, HT, HLast⟩ := hrel
      by_cases hlt : i < q
      · have hii : (i : Int) < (q : Int) := by omega
        obtain ⟨k, hXk, hkn, hmay, hl1, hl20⟩ := HEach.out i hlt
        have hSk : S k = false := by
          cases h : S k with
          | false => rfl
          | true =>
            rcases (HT.out k).1 h with h1 | ⟨j, hj, e⟩
            · cases h1
            · exact absurd (e.trans hXk.symm) (HAh.out j i hj hlt).1
        have hle : leftK P k ≤ last := by
          rw [HLast.out]
          by_cases h0 : i = 0
          · rw [if_pos h0]; exact hl20
          · rw [if_neg h0]
            have h := (HAh.out (i - 1) i (by omega) hlt).2
            rw [hXk, Int.toNat_natCast] at h
            exact h
        have hrk := HR.out.room hkn
        have HRm : Hid (∀ u, Below wr.heap.size wr u → Calls Try.prog 51 #[.int .i64 (k : Int), .pointer (some ⟨w.heap.size + 1, 0, none⟩)] u fun e u' => e = .returned (.int .i64 (leftK P k)) ∧ Below u.heap.size u u') := fun u hb => placeRoom _ _ np cl KV UV P k u hkn hrk (J.out.up hb).box (J.out.up hb).ps
        obtain ⟨bl, off, rfl, hbl, g0, g1, g2, g3⟩ := J.out.ps.at hkn
        have G3 := hid g3
        obtain ⟨ak, ck, hke, _, _⟩ := g3
        rw [hke] at g2 G3
        rw [hmay.1] at g0
        have HFd : Hid (∀ u, Below wr.heap.size wr u → Calls Try.prog 40 #[.agg #[.bool true, .int .i64 (P.rm k), .slice ak (P.m k) ck], .int .i64 ver] u fun e u' => e = .returned (.int .i64 (fstAt (P.t k).V ver (P.m k) 0)) ∧ Below u.heap.size u u') := fun u hb => HO.out.find true (P.rm k) _ (P.m k) (UV k) (P.t k) ver u (G3.out.up hb)
        have hfa := hmay.2
        obtain ⟨fa, hfe⟩ : ∃ x, fstAt (P.t k).V ver (P.m k) 0 = x := ⟨_, rfl⟩
        rw [hfe] at HFd hfa
        obtain ⟨lk, hlk⟩ : ∃ x, leftK P k = x := ⟨_, rfl⟩
        have HLk := hid hlk
        rw [hlk] at HRm hl1 hl20 hle
        obtain ⟨rm, hrm⟩ : ∃ x, P.rm k = x := ⟨_, rfl⟩
        obtain ⟨mk, hmk⟩ : ∃ x, P.m k = x := ⟨_, rfl⟩
        rw [hrm] at g1 HFd
        rw [hmk] at g2 HFd
        have look := J.out.mp.look (k := k) (by omega)
        rw [hSk] at look
        have b0 := J.out.box
        obtain ⟨a9, c9, he, _, hcells⟩ := J.out.ia
        injection he with e1 _ e3
        subst e1 e3
        rcases hcells with h0 | ⟨b1, o1, rfl, hb1, hx⟩
        · omega
        have x0 : wr.cell? ⟨b1, o1 + i, none⟩ = some (.int .i64 (k : Int)) := by rw [hx i hlt, hXk]
        have hki : (k : Int) < (np : Int) := by omega
        have d1 : decide ((k : Int) < 0) = false := decide_eq_false (by omega)
        have d2 : decide ((np : Int) ≤ (k : Int)) = false := decide_eq_false (by omega)
        have d3 : decide (np ≤ k) = false := decide_eq_false (by omega)
        have d4 : decide (lk < 1) = false := decide_eq_false (by omega)
        have d5 : decide (last < lk) = false := decide_eq_false (by omega)
        have d6 : decide (0 ≤ fa) = false := decide_eq_false (by omega)
        have HXk := hid hXk
        have Gb := hid b0
        have G0 := hid g0
        have G1 := hid g1
        have G2 := hid g2
        clear hx hke hfe hlk hrm hmk hrk hmay hSk hXk
        go_wp2_with fail
        refine Calls.mono (HRm.out wr (Below.refl _ _)) ?_
        rintro e w2 ⟨rfl, hb2⟩
        have B2 := hid hb2
        clear hb2 look x0 b0 g0 g1 g2
        go_wp2_with fail
        refine Calls.mono (HRm.out w2 B2.out) ?_
        rintro e w3 ⟨rfl, hb3⟩
        have B3 := hid (B2.out.trans (hb3.mono B2.out.size))
        clear hb3
        have b0 := (B3.out.cell (cell_lt Gb.out)).trans Gb.out
        have g0 := (B3.out.cell (cell_lt G0.out)).trans G0.out
        have g1 := (B3.out.cell (cell_lt G1.out)).trans G1.out
        have g2 := (B3.out.cell (cell_lt G2.out)).trans G2.out
        go_wp2_with fail
        refine Calls.mono (HFd.out w3 B3.out) ?_
        rintro e w4 ⟨rfl, hb4⟩
        have B4 := hid (B3.out.trans (hb4.mono B3.out.size))
        clear hb4 b0 g0 g1 g2
        go_wp2_with fail
        refine Calls.mono (HRm.out w4 B4.out) ?_
        rintro e w5 ⟨rfl, hb5⟩
        have J5 := hid (J.out.up (B4.out.trans (hb5.mono B4.out.size)))
        clear hb5
        obtain ⟨Dm, hD, hat, hhas, hsz⟩ := J5.out.mp
        have HD := hid hD
        have HK := hid (keyInt (x := (k : Int)) (by omega))
        clear hD
        go_wp2_with (at_mapUpdate; refine wpList_mapUpdate_own _ rfl _ _ _ 44 rfl 3 4 keyedInt Try.underlying44 _ gm i _ rfl HD.out (by unfold maxLen; omega) _ _ _ rfl rfl HK.out _ [] (plainElem_bool Try.underlying4 true) ?_; intro w6 hown6 hgrow6; have HO6 := hid hown6; have HG6 := hid hgrow6; clear hown6 hgrow6)
        have J6 := hid (J5.out.grown HG6.out (setM_put HD.out hat hhas hsz (by omega) HO6.out))
        clear hat hhas hsz HD HO6 HG6 J5 J
        go_roundw
        case rel => exact ⟨i + 1, fun z => S z || decide (z = k), lk, by omega, by go_num, rfl, J6, inT_step HT.out HXk.out, by show _ = _; rw [if_neg (by omega), Nat.add_sub_cancel, HXk.out, Int.toNat_natCast]; exact HLk.out.symm⟩
        case measure => simp only [intOf]; omega
      · have hie : q = i := by omega
        subst hie
        have b0 := J.out.box
        go_wp2
        clear b0
        obtain ⟨w0, hw0⟩ : ∃ w0, wr = w0 := ⟨_, rfl⟩
        subst hw0
        go_loopw [92] (fun kv wz => ∃ k : Nat, k ≤ np ∧ kv = .int .i64 k ∧ Hid (PfInv w wz (w.heap.size + 1) al np cl KV UV P (.slice aa q ca) q XA gm q S)) (fun kv _ => np - (intOf kv).toNat)
        case atStart => exact ⟨0, Nat.zero_le _, rfl, J⟩
        case round =>
          obtain ⟨k, hk, rfl, JZ⟩ := hrel
          by_cases hkn : k < np
          · have hki : (k : Int) < (np : Int) := by omega
            have hrk := HR.out.room hkn
            obtain ⟨bl, off, rfl, hbl, g0, g1, g2, g3⟩ := JZ.out.ps.at hkn
            have G3 := hid g3
            obtain ⟨ak, ck, hke, _, _⟩ := g3
            rw [hke] at g2 G3
            have hbA := below_alloc wr (.cells #[.bool (P.th k), .int .i64 (P.rm k), .slice ak (P.m k) ck] 58)
            have JA := hid (JZ.out.up hbA)
            have lookA := JA.out.mp.look (k := k) (by omega)
            have HFd := hid (HO.out.find (P.th k) (P.rm k) _ (P.m k) (UV k) (P.t k) ver _ (G3.out.up hbA))
            have HRm : Hid (∀ u, Below wr.heap.size wr u → Calls Try.prog 51 #[.int .i64 (k : Int), .pointer (some ⟨w.heap.size + 1, 0, none⟩)] u fun e u' => e = .returned (.int .i64 (leftK P k)) ∧ Below u.heap.size u u') := fun u hb => placeRoom _ _ np cl KV UV P k u hkn hrk (JZ.out.up hb).box (JZ.out.up hb).ps
            have HBA := hid hbA
            have h20 : leftK P k ≤ 20 := by unfold leftK; omega
            have hNo : Hid (P.th k = true → fstAt (P.t k).V ver (P.m k) 0 < 0 → S k = false → leftK P k ≤ last) := fun h1 h2 h3 => by
              rw [HLast.out]
              by_cases h0 : q = 0
              · rw [if_pos h0]; exact h20
              · rw [if_neg h0]
                refine HRest.out k (q - 1) hkn ⟨h1, h2⟩ h20 (fun j hj e => ?_) (by omega)
                rw [(HT.out k).2 (Or.inr ⟨j, hj, e⟩)] at h3
                cases h3
            obtain ⟨fa, hfe⟩ : ∃ x, fstAt (P.t k).V ver (P.m k) 0 = x := ⟨_, rfl⟩
            rw [hfe] at HFd hNo
            obtain ⟨lk, hlk⟩ : ∃ x, leftK P k = x := ⟨_, rfl⟩
            rw [hlk] at HRm hNo
            obtain ⟨rm, hrm⟩ : ∃ x, P.rm k = x := ⟨_, rfl⟩
            obtain ⟨mk, hmk⟩ : ∃ x, P.m k = x := ⟨_, rfl⟩
            obtain ⟨tk, htk⟩ : ∃ x, P.th k = x := ⟨_, rfl⟩
            obtain ⟨sk, hsk⟩ : ∃ x, S k = x := ⟨_, rfl⟩
            rw [hrm] at g1 HFd lookA JA HBA
            rw [hmk] at g2 HFd lookA JA HBA
            rw [htk] at g0 HFd lookA JA HBA hNo
            rw [hsk] at lookA hNo
            unfold peerV at HFd
            clear hbA hke hfe hlk hrm hmk htk hsk hrk h20 hbl
            cases sk with
            | true =>
              go_wp2
              go_roundw
              case rel => exact ⟨k + 1, by omega, by go_num, JA⟩
              case measure => simp only [intOf]; omega
            | false =>
              cases tk with
              | false =>
                go_wp2
                go_roundw
                case rel => exact ⟨k + 1, by omega, by go_num, JA⟩
                case measure => simp only [intOf]; omega
              | true =>
                go_wp2_with fail
                refine Calls.mono HFd.out ?_
                rintro e w2 ⟨rfl, hb2⟩
                have J2 := hid (JA.out.up hb2)
                have B2 := hid (HBA.out.trans (hb2.mono HBA.out.size))
                clear hb2 lookA g0 g1 g2
                by_cases hf0 : fa < 0
                · have hle := hNo.out (by simp) hf0 (by simp)
                  have d5 : decide (last < lk) = false := decide_eq_false (by omega)
                  go_wp2_with fail
                  refine Calls.mono (HRm.out w2 B2.out) ?_
                  rintro e w3 ⟨rfl, hb3⟩
                  have J3 := hid (J2.out.up hb3)
                  clear hb3
                  go_wp2
                  go_roundw
                  case rel => exact ⟨k + 1, by omega, by go_num, J3⟩
                  case measure => simp only [intOf]; omega
                · have d5 : decide (fa < 0) = false := decide_eq_false hf0
                  go_wp2
                  go_roundw
                  case rel => exact ⟨k + 1, by omega, by go_num, J2⟩
                  case measure => simp only [intOf]; omega
          · have hke : np = k := by omega
            subst hke
            go_wp2
            go_ret
            exact ⟨rfl, JZ.out.below⟩
  · have hcb : (er != 0) = true := by simpa using hc0
    clear hc0
    go_wp2_with fail
    refine Calls.mono (chosen_any HO.out u2) ?_
    rintro e u3 ⟨rfl, hb⟩
    replace HB := hid (HB.out.trans (hb.mono HB.out.size))
    clear hb
    go_wp2
    go_ret
    exact ⟨rfl, HB.out⟩

end Go.Proofs.Ytdhefajaekackaa
