/- Several texts of one proof, in their order. -/
import Derived.Test.YtdhefajaekackaaKnSum16

/- What chapter 6's reference answers: where two versions come together. -/
namespace Go.Proofs.Ytdhefajaekackaa

open Go.RowKit
set_option linter.unusedVariables false

set_option maxHeartbeats 4000000 in
theorem commonOf_any (n : Nat) (v : Value) (PV : Nat → Value) (b : Bk) (hE : Elder n b) (hn : n ≤ 12) (i j : Nat) (hi : i < n) (hj : j < n) (w : World) (h : VeSl w w.heap.size v n PV b) :
    Calls Try.prog 32 #[bookV v, .int .i64 (i : Int), .int .i64 (j : Int)] w fun e w' => Below w.heap.size w w' ∧ ∃ vo, e = .returned vo ∧ OwnL w w' vo (comL b n i j) := by
  have hbx := below_alloc w (.cells #[v] 24)
  have HF : Hid (∀ (k old : Nat) (w' : World), k < n → old < 1000 → Below w.heap.size w w' → Calls Try.prog 33 #[bookV v, .int .i64 (k : Int), .int .i64 (old : Int)] w' fun e w'' => e = .returned (.bool (fR b k old)) ∧ Below w'.heap.size w' w'') := fun k old w' hk ho hb' => from_any n v PV b hE hn (k + 1) k old w' (Nat.lt_succ_self _) hk ho (h.up hb')
  have HBx := hid hbx
  obtain ⟨ad, cap, rfl, _, _⟩ := h
  obtain ⟨ii, hii, hzz0, hzz1, hzz2⟩ := info_parts Try.infoInt
  obtain ⟨W, hW⟩ : ∃ W, w.alloc (.cells #[.slice ad n cap] 24) = W := ⟨_, rfl⟩
  rw [hW] at HBx
  have b0 : W.cell? ⟨w.heap.size, 0, none⟩ = some (.slice ad n cap) := by rw [← hW]; exact cell_at (heap_alloc_new _ _) rfl
  have HB0 := hid b0
  clear hE hbx
  unfold bookV at *
  unfold comL
  go_enter Try.func32, Try.ntmps32
  go_wp2
  clear b0
  go_loopw [7, 14] (fun vo kv wr => ∃ k : Nat, k ≤ n ∧ kv = .int .i64 k ∧ Hid (OwnL W wr vo (pickL (topB b n i j) k))) (fun _ kv _ => n - (intOf kv).toNat)
  case atStart => exact ⟨0, Nat.zero_le _, rfl, OwnL.nil _⟩
  case round =>
    obtain ⟨k, hk, rfl, OW⟩ := hrel
    by_cases hlt : k < n
    · have hki : (k : Int) < (n : Int) := by omega
      have HBr := hid (HBx.out.trans (OW.out.2.mono HBx.out.size))
      have c0 : wr.cell? ⟨w.heap.size, 0, none⟩ = some (.slice ad n cap) := by rw [OW.out.2.cell (cell_lt HB0.out)]; exact HB0.out
      have hsc := pickL_succ (topB b n i j) k
      have hll := pickL_len (topB b n i j) k
      have HC := hid (HF.out i k wr hi (by omega) HBr.out)
      cases hf : fR b i k with
      | false =>
        have ht : topB b n i j k = false := by unfold topB inB; rw [hf]; rfl
        rw [ht, if_neg (by decide), List.append_nil] at hsc
        rw [hf] at HC
        have HSc := hid hsc
        clear hsc hf ht
        go_wp2_with fail
        refine Calls.mono HC.out ?_
        rintro e w2 ⟨rfl, hb2⟩
        have O2 := hid (OW.out.up hb2)
        clear hb2
        go_wp2
        go_roundw
        case rel => exact ⟨k + 1, by omega, by go_num, by rw [HSc.out]; exact O2.out⟩
        case measure => simp only [intOf]; omega
      | true =>
        rw [hf] at HC
        go_wp2_with fail
        refine Calls.mono HC.out ?_
        rintro e w2 ⟨rfl, hb2⟩
        have O2 := hid (OW.out.up hb2)
        have B2 := hid (HBr.out.trans (hb2.mono HBr.out.size))
        have c2 : w2.cell? ⟨w.heap.size, 0, none⟩ = some (.slice ad n cap) := by rw [hb2.cell (cell_lt c0)]; exact c0
        have HC2 := hid (HF.out j k w2 hj (by omega) B2.out)
        clear hb2 HC c0
        cases hg : fR b j k with
        | false =>
          have ht : topB b n i j k = false := by unfold topB inB; rw [hf, hg]; rfl
          rw [ht, if_neg (by decide), List.append_nil] at hsc
          rw [hg] at HC2
          have HSc := hid hsc
          clear hsc hf hg ht
          go_wp2_with fail
          refine Calls.mono HC2.out ?_
          rintro e w3 ⟨rfl, hb3⟩
          have O3 := hid (O2.out.up hb3)
          clear hb3
          go_wp2
          go_roundw
          case rel => exact ⟨k + 1, by omega, by go_num, by rw [HSc.out]; exact O3.out⟩
          case measure => simp only [intOf]; omega
        | true =>
          have ht : topB b n i j k = !anyB (fun o => inB b i j o && fR b o k) (n - (k + 1)) (k + 1) := by unfold topB; rw [show inB b i j k = true by unfold inB; rw [hf, hg]; rfl, Bool.true_and]
          rw [hg] at HC2
          have HTp := hid ht
          have HSc := hid hsc
          clear hf hg ht hsc
          go_wp2_with fail
          refine Calls.mono HC2.out ?_
          rintro e w3 ⟨rfl, hb3⟩
          have O3 := hid (O2.out.up hb3)
          have B3 := hid (B2.out.trans (hb3.mono B2.out.size))
          have c3 : w3.cell? ⟨w.heap.size, 0, none⟩ = some (.slice ad n cap) := by rw [hb3.cell (cell_lt c2)]; exact c2
          have HC3 := hid c3
          clear hb3 HC2 c2
          go_wp2
          clear c3
          obtain ⟨vo, hvo⟩ : ∃ vo, u7 = vo := ⟨_, rfl⟩
          subst hvo
          obtain ⟨w0, hw0⟩ : ∃ w0, wr = w0 := ⟨_, rfl⟩
          subst hw0
          go_loopw [9, 10] (fun tv ov wz => ∃ (f : Nat) (tb : Bool), k + 1 + f ≤ n ∧ ov = .int .i64 ((k + 1 + f : Nat) : Int) ∧ tv = .bool tb ∧ Hid (tb = !anyB (fun o => inB b i j o && fR b o k) f (k + 1)) ∧ Hid (Below w3.heap.size w3 wz)) (fun _ ov _ => n - (intOf ov).toNat)
          case atStart => exact ⟨0, true, by omega, by simp, rfl, rfl, Below.refl _ _⟩
          case round =>
            obtain ⟨f, tb, hf, rfl, rfl, HT, HZ⟩ := hrel
            obtain ⟨o, ho⟩ : ∃ o, k + 1 + f = o := ⟨_, rfl⟩
            have hsn := anyB_snoc (fun o => inB b i j o && fR b o k) f (k + 1)
            rw [ho] at hsn hf ⊢
            have HO := hid ho
            have B4 := hid (B3.out.trans (HZ.out.mono B3.out.size))
            have c4 : wr.cell? ⟨w.heap.size, 0, none⟩ = some (.slice ad n cap) := by rw [HZ.out.cell (cell_lt HC3.out)]; exact HC3.out
            have HC4 := hid c4
            clear ho
            by_cases hon : o < n
            · have hoi : (o : Int) < (n : Int) := by omega
              have HCa := hid (HF.out i o wr hi (by omega) B4.out)
              have hnx : ∀ tb2, (inB b i j o && fR b o k) = tb2 → (tb && !tb2) = !anyB (fun o => inB b i j o && fR b o k) (f + 1) (k + 1) := fun tb2 h2 => by
                rw [hsn, HT.out, h2, Bool.not_or]
              have HNx := hid hnx
              clear hsn hnx
              cases ha : fR b i o with
              | false =>
                have hx := HNx.out false (by unfold inB; rw [ha]; rfl)
                rw [Bool.not_false, Bool.and_true] at hx
                have HX := hid hx
                rw [ha] at HCa
                clear ha hx HNx
                go_wp2_with fail
                refine Calls.mono HCa.out ?_
                rintro e w5 ⟨rfl, hb5⟩
                have H5 := hid (HZ.out.trans (hb5.mono HZ.out.size))
                have c5 : w5.cell? ⟨w.heap.size, 0, none⟩ = some (.slice ad n cap) := by rw [hb5.cell (cell_lt HC4.out)]; exact HC4.out
                clear hb5 HCa c4
                go_wp2
                go_roundw
                case rel => exact ⟨f + 1, tb, by have := HO.out; omega, by have := HO.out; go_num, rfl, HX, H5⟩
                case measure => simp only [intOf]; omega
              | true =>
                rw [ha] at HCa
                go_wp2_with fail
                refine Calls.mono HCa.out ?_
                rintro e w5 ⟨rfl, hb5⟩
                have H5 := hid (HZ.out.trans (hb5.mono HZ.out.size))
                have c5 : w5.cell? ⟨w.heap.size, 0, none⟩ = some (.slice ad n cap) := by rw [hb5.cell (cell_lt HC4.out)]; exact HC4.out
                have HC5 := hid c5
                have HCb := hid (HF.out j o w5 hj (by omega) (B4.out.trans (hb5.mono B4.out.size)))
                have B5 := hid (B4.out.trans (hb5.mono B4.out.size))
                clear hb5 HCa c4
                cases hb : fR b j o with
                | false =>
                  have hx := HNx.out false (by unfold inB; rw [ha, hb]; rfl)
                  rw [Bool.not_false, Bool.and_true] at hx
                  have HX := hid hx
                  rw [hb] at HCb
                  clear ha hb hx HNx
                  go_wp2_with fail
                  refine Calls.mono HCb.out ?_
                  rintro e w6 ⟨rfl, hb6⟩
                  have H6 := hid (H5.out.trans (hb6.mono H5.out.size))
                  clear hb6 HCb c5
                  go_wp2
                  go_roundw
                  case rel => exact ⟨f + 1, tb, by have := HO.out; omega, by have := HO.out; go_num, rfl, HX, H6⟩
                  case measure => simp only [intOf]; omega
                | true =>
                  rw [hb] at HCb
                  go_wp2_with fail
                  refine Calls.mono HCb.out ?_
                  rintro e w6 ⟨rfl, hb6⟩
                  have H6 := hid (H5.out.trans (hb6.mono H5.out.size))
                  have c6 : w6.cell? ⟨w.heap.size, 0, none⟩ = some (.slice ad n cap) := by rw [hb6.cell (cell_lt HC5.out)]; exact HC5.out
                  have HCc := hid (HF.out o k w6 hon (by omega) (B5.out.trans (hb6.mono B5.out.size)))
                  clear hb6 HCb c5
                  cases hc : fR b o k with
                  | false =>
                    have hx := HNx.out false (by unfold inB; rw [ha, hb, hc]; rfl)
                    rw [Bool.not_false, Bool.and_true] at hx
                    have HX := hid hx
                    rw [hc] at HCc
                    clear ha hb hc hx HNx
                    go_wp2_with fail
                    refine Calls.mono HCc.out ?_
                    rintro e w7 ⟨rfl, hb7⟩
                    have H7 := hid (H6.out.trans (hb7.mono H6.out.size))
                    clear hb7 HCc c6
                    go_wp2
                    go_roundw
                    case rel => exact ⟨f + 1, tb, by have := HO.out; omega, by have := HO.out; go_num, rfl, HX, H7⟩
                    case measure => simp only [intOf]; omega
                  | true =>
                    have hx := HNx.out true (by unfold inB; rw [ha, hb, hc]; rfl)
                    rw [Bool.not_true, Bool.and_false] at hx
                    have HX := hid hx
                    rw [hc] at HCc
                    clear ha hb hc hx HNx
                    go_wp2_with fail
                    refine Calls.mono HCc.out ?_
                    rintro e w7 ⟨rfl, hb7⟩
                    have H7 := hid (H6.out.trans (hb7.mono H6.out.size))
                    clear hb7 HCc c6
                    go_wp2
                    go_roundw
                    case rel => exact ⟨f + 1, false, by have := HO.out; omega, by have := HO.out; go_num, rfl, HX, H7⟩
                    case measure => simp only [intOf]; omega
            · have hoe : n = o := by omega
              subst hoe
              have htb : tb = topB b n i j k := by
                rw [HTp.out, HT.out, show n - (k + 1) = f by have := HO.out; omega]
              have OZ := hid (O3.out.up HZ.out)
              have hsc := HSc.out
              rw [← htb] at hsc
              clear htb hsn
              cases tb with
              | true =>
                rw [if_pos rfl] at hsc
                have HS2 := hid hsc
                have hge : W.heap.size ≤ wr.heap.size := OZ.out.2.size
                clear hsc
                go_wp2_with (at_builtin; go_must (refine wpList_append_own _ rfl (.tmp 55) (.tmp 57) 25 rfl W.heap.size 3 ii (.int .i64 0) 1 8 Try.underlying25 hii hzz0 hzz1 hzz2 rfl (by decide) _ _ _ rfl (World.ownsRow.alloc OZ.out.1 _) ⟨_, 0, none⟩ 1 1 [.int .i64 (k : Int)] rfl rfl (newCell _ _ _) (oneCell _) (by unfold maxLen; omega) (by omega) (by simp; omega) ?_; intro v1 w6 ho6 hg6 _; have O6 := hid (OZ.out.push ho6 hg6); clear ho6 hg6))
                go_roundw
                case rel => exact ⟨k + 1, by omega, by go_num, by rw [HS2.out]; exact O6.out⟩
                case measure => simp only [intOf]; omega
              | false =>
                rw [if_neg (by decide), List.append_nil] at hsc
                have HS2 := hid hsc
                clear hsc
                go_wp2
                go_roundw
                case rel => exact ⟨k + 1, by omega, by go_num, by rw [HS2.out]; exact OZ.out⟩
                case measure => simp only [intOf]; omega
    · have hke : n = k := by omega
      subst hke
      go_wp2
      go_ret
      refine ⟨HBx.out.trans (OW.out.2.mono HBx.out.size), _, rfl, owns_base OW.out.1 HBx.out.size, HBx.out.trans (OW.out.2.mono HBx.out.size)⟩

end Go.Proofs.Ytdhefajaekackaa
