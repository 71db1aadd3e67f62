/- The walk of the law CurveAdds, of a package that does what it owes. -/
import Derived.Test.YtbgjlhganidhhaaCurveUp
import Derived.Test.YtbgjlhganidhhaaQuietMore
namespace Go.Proofs.Ytbgjlhganidhhaa
open Go.RowKit CurveMath
set_option linter.unusedVariables false

set_option maxRecDepth 10000 in
set_option maxHeartbeats 2000000 in
theorem curveAdds_of (hC : CheckSpec) (hA : AtSpec) (a0 : Option Addr) (len0 cap0 : Nat) (X : Nat → Int) (a1 : Option Addr) (len1 cap1 : Nat) (Y : Nat → Int) (a2 : Option Addr) (len2 cap2 : Nat) (Z : Nat → Int) (a3 : Int) (w : World) (w0 : SlArg w a0 len0 cap0 X) (w1 : SlArg w a1 len1 cap1 Y) (w2 : SlArg w a2 len2 cap2 Z) :
    Calls Try.prog 9 #[.slice a0 len0 cap0, .slice a1 len1 cap1, .slice a2 len2 cap2, .int .i64 a3] w fun e w' => e = .returned (.bool true) ∧ Below w.heap.size w w' := by
  have i0 := w0.isl
  have i1 := w1.isl
  have i2 := w2.isl
  have K0 := hid (curved_up hA (w0 := w))
  have B0 := hid (Below.refl w.heap.size w)
  have k1 := check_up hC i0 i1
  have k2 := check_up hC i0 i2
  obtain ⟨c1, hc1⟩ : ∃ c, chk len0 len1 X Y = c := ⟨_, rfl⟩
  obtain ⟨c2, hc2⟩ : ∃ c, chk len0 len2 X Z = c := ⟨_, rfl⟩
  rw [hc1] at k1
  rw [hc2] at k2
  by_cases h1 : c1 = 0
  · subst h1
    by_cases h2 : c2 = 0
    · subst h2
      have gy := chk_ok hc1
      have gz := chk_ok hc2
      obtain ⟨n, rfl⟩ : ∃ n, len0 = n := ⟨_, rfl⟩
      have e1 := gy.same
      have e2 := gz.same
      subst e1
      subst e2
      have K1 := hid k1
      have K2 := hid k2
      obtain ⟨t, het⟩ : ∃ t, a3 % 31 = t := ⟨_, rfl⟩
      have nt : 0 ≤ t ∧ t ≤ 30 := by omega
      have W1 := hid w1
      have W2 := hid w2
      have hl := gy.len
      have hy1 := hid gy
      have hz1 := hid gz
      have I0 := hid i0
      have I1 := hid i1
      have I2 := hid i2
      clear k1 k2 w0 w1 w2 i0 i1 i2 hc1 hc2 gy gz
      obtain ⟨ii, hi, hzz0, hzz1, hzz2⟩ := info_parts Try.infoInt
      go_enter Try.func9, Try.ntmps9
      go_wp2_with (first
        | (go_at_call 24; go_must (refine Calls.mono (K0.out _ B0.out) ?_; rintro e w3 ⟨rfl, hb1⟩; have B3 := hid hb1; clear hb1 B0))
        | (go_at_call_of 25 (Value.slice a1 len0 cap1); go_must (refine Calls.mono (K1.out _ B3.out) ?_; rintro e w4 ⟨rfl, hb1⟩; have B4 := hid hb1; clear hb1 B3))
        | (go_at_call_of 25 (Value.slice a2 len0 cap2); go_must (refine Calls.mono (K2.out _ B4.out) ?_; rintro e w5 ⟨rfl, hb1⟩; have B5 := hid hb1; clear hb1 B4))
        | (go_at_call 19; go_must (refine (at_any _ _ (by omega) _).mono ?_; rintro e wq ⟨rfl, hwq⟩; subst wq; simp only [het])))
      clear het K0 K1 K2
      obtain ⟨b1, o1, ea1, hb1, hc1⟩ : ∃ b off, a1 = some ⟨b, off, none⟩ ∧ b < w.heap.size ∧ ∀ j, j < len0 → w.cell? ⟨b, off + j, none⟩ = some (.int .i64 (Y j)) := W1.out.cells.resolve_left (by omega)
      obtain ⟨b2, o2, ea2, hb2, hc2⟩ : ∃ b off, a2 = some ⟨b, off, none⟩ ∧ b < w.heap.size ∧ ∀ j, j < len0 → w.cell? ⟨b, off + j, none⟩ = some (.int .i64 (Z j)) := W2.out.cells.resolve_left (by omega)
      subst ea1
      subst ea2
      have HC1 : Hid (∀ j, j < len0 → w5.cell? ⟨b1, o1 + j, none⟩ = some (.int .i64 (Y j))) := fun j hj => by rw [B5.out.cell hb1]; exact hc1 j hj
      have HC2 : Hid (∀ j, j < len0 → w5.cell? ⟨b2, o2 + j, none⟩ = some (.int .i64 (Z j))) := fun j hj => by rw [B5.out.cell hb2]; exact hc2 j hj
      have hb1' : b1 < w5.heap.size := Nat.lt_of_lt_of_le hb1 B5.out.size
      have hb2' : b2 < w5.heap.size := Nat.lt_of_lt_of_le hb2 B5.out.size
      clear hb1 hb2 hc1 hc2 W1 W2
      go_loopw [9, 40] (fun v i wr => ∃ k : Nat, k ≤ len0 ∧ i = .int .i64 k ∧ Hid (OwnI w5 wr v k (fun j => (Y j + Z j) % 31))) (fun _ i _ => len0 - (intOf i).toNat)
      case atStart => exact ⟨0, Nat.zero_le _, rfl, OwnI.nil _ _⟩
      case round =>
        obtain ⟨k, hk, rfl, OW⟩ := hrel
        by_cases hlt : k < len0
        · have hi2 : (k : Int) < (len0 : Int) := by omega
          have g1 : wr.cell? ⟨b1, o1 + k, none⟩ = some (.int .i64 (Y k)) := by rw [OW.out.2.cell hb1']; exact HC1.out k hlt
          have g2 : wr.cell? ⟨b2, o2 + k, none⟩ = some (.int .i64 (Z k)) := by rw [OW.out.2.cell hb2']; exact HC2.out k hlt
          have n1 := hy1.out.ys k hlt
          have n2 := hz1.out.ys k hlt
          obtain ⟨y, hy⟩ : ∃ y, Y k = y := ⟨_, rfl⟩
          obtain ⟨z, hz⟩ : ∃ z, Z k = z := ⟨_, rfl⟩
          rw [hy] at g1 n1
          rw [hz] at g2 n2
          have HS : Hid ((Y k + Z k) % 31 = (y + z) % 31) := by show _ = _; rw [hy, hz]
          clear hy hz
          go_wp2
          refine region_pre_tail 11 [0] [1, 2, 3, 4, 5, 6, 7, 8, 9, 10] (by kernel_rfl) (by kernel_rfl) (fun _ _ _ _ _ h => h) ?_
          simp only [opsAt, List.map_cons, List.map_nil, List.cons_append, List.nil_append, List.getElem?_cons_succ, List.getElem?_cons_zero, Option.getD_some, List.drop_succ_cons, List.drop_zero]
          repeat (go_big_quiet_step (fail))
          refine wpQuiet_nil ?_
          intro _ hw1
          obtain ⟨nq, hw2⟩ := hw1
          subst hw2
          go_wp2_with (at_builtin; go_must (refine wpList_append_own _ rfl (.tmp 43) (.tmp 54) 24 rfl w5.heap.size 3 ii (.int .i64 0) 1 8 Try.underlying24 hi hzz0 hzz1 hzz2 rfl (by decide) _ _ _ rfl (OW.out.owns _ nq) ⟨_, 0, none⟩ 1 1 [.int .i64 ((y + z) % 31)] rfl rfl (newCell _ _ _) (oneCell _) (by unfold maxLen; omega) (by omega) (by have := OW.out.2.size; simp; omega) ?_; intro v1 w6 ho6 hg6 _; have O6 := hid (OW.out.push _ _ ho6 hg6 HS.out); clear ho6 hg6))
          go_roundw
          case rel => exact ⟨k + 1, by omega, by go_num, O6⟩
          case measure => simp only [intOf]; omega
        · have he : k = len0 := by omega
          subst he
          obtain ⟨g, cs, hv, hcs, hrow⟩ := OW.out.row (by omega)
          subst hv
          have BW : Below w.heap.size w wr := B5.out.trans (OW.out.2.mono B5.out.size)
          have s0 := I0.out.up BW
          have s1 := I1.out.up BW
          have s2 := I2.out.up BW
          have ss := hrow.isl hcs (by omega)
          obtain ⟨gs, es⟩ := crv_sum (S := fun j => (Y j + Z j) % 31) hy1.out hz1.out (fun j _ => rfl) t
          obtain ⟨gt, et⟩ := crv_turn hy1.out t
          have k1 := at_up hA s0 s1 (chk_mk hy1.out) t nt
          have k2 := at_up hA s0 s2 (chk_mk hz1.out) t nt
          have k3 := at_up hA s0 ss (chk_mk gs) t nt
          rw [es] at k3
          have ct := chk_mk gt
          obtain ⟨va, hva⟩ : ∃ v, crv k X Y t = v := ⟨_, rfl⟩
          obtain ⟨vb, hvb⟩ : ∃ v, crv k X Z t = v := ⟨_, rfl⟩
          have na := crv_num k X Y t
          have nb := crv_num k X Z t
          rw [hva] at k1 k3 et na
          rw [hvb] at k2 k3 nb
          have ET := hid et
          have CT := hid ct
          have K1 := hid k1
          have K2 := hid k2
          have K3 := hid k3
          have S0 := hid s0
          have S1 := hid s1
          have BH := hid BW
          clear k1 k2 k3 s0 s1 s2 ss et ct es gs gt hva hvb hrow OW HC1 HC2 I0 I1 I2 B5 hy1 hz1 hb1' hb2' BW
          go_wp2_with fail
          refine Calls.mono (K1.out _ (Below.refl _ _)) ?_
          rintro e w6 ⟨rfl, hb6⟩
          have B6 := hid hb6
          clear hb6
          go_wp2_with fail
          refine Calls.mono (K2.out _ B6.out) ?_
          rintro e w7 ⟨rfl, hb7⟩
          have B7 := hid hb7
          clear hb7
          go_wp2_with fail
          refine Calls.mono (K3.out _ B7.out) ?_
          rintro e w8 ⟨rfl, hb8⟩
          have B8 := hid hb8
          clear hb8
          go_wp2_with fail
          refine Calls.mono (clone_isl (S0.out.up B8.out) (by omega)) ?_
          rintro e w9 ⟨gu, cu, rfl, hcu, hru⟩
          have RU := hid hru
          clear hru
          go_wp2_with fail
          refine Calls.mono (clone_isl ((S1.out.up B8.out).up RU.out.below) (by omega)) ?_
          rintro e w10 ⟨gv, cv, rfl, hcv, hrv⟩
          have RU2 := hid (RU.out.trans hrv.below)
          have RV2 : Hid (Row w8 w10 gv k Y) := ⟨RU.out.below.trans (hrv.below.mono RU.out.below.size), Nat.le_trans RU.out.below.size hrv.ge, hrv.cell, hrv.free⟩
          have hne : gu ≠ gv := by have h1 := cell_lt (RU.out.cell 0 (by omega)); have h2 := hrv.ge; simp at h1; omega
          have HNE := hid hne
          clear hrv RU hne
          go_wp2_with fail
          refine Calls.mono (reverse_any cu RU2.out (by omega)) ?_
          rintro e w11 ⟨rfl, hr1, hr2⟩
          have RU3 := hid hr1
          have RV3 := hid (hr2 gv k Y HNE.out RV2.out)
          clear hr1 hr2 RU2 RV2
          go_wp2_with fail
          refine Calls.mono (reverse_any cv RV3.out (by omega)) ?_
          rintro e w12 ⟨rfl, hr1, hr2⟩
          have RV4 := hid hr1
          have RU4 := hid (hr2 gu k _ (Ne.symm HNE.out) RU3.out)
          clear hr1 hr2 RU3 RV3
          go_wp2_with fail
          refine Calls.mono (at_up hA (RU4.out.isl hcu (by omega)) (RV4.out.isl hcv (by omega)) CT.out t nt _ (Below.refl _ _)) ?_
          rw [ET.out]
          rintro e w13 ⟨rfl, hb13⟩
          have B13 := hid hb13
          clear hb13
          go_wp2
          go_ret
          refine ⟨rfl, ?_⟩
          have h1 := BH.out.trans (B8.out.mono BH.out.size)
          have h2 := h1.trans (RU4.out.below.mono h1.size)
          exact h2.trans (B13.out.mono h2.size)
    · have hc2' : (c2 != 0) = true := by simpa using h2
      have K1 := hid k1
      have K2 := hid k2
      clear k1 k2 w0 w1 w2 i0 i1 i2 hc1 hc2 h2
      go_enter Try.func9, Try.ntmps9
      go_wp2_with fail
      refine Calls.mono (K0.out _ B0.out) ?_
      rintro e w3 ⟨rfl, hb1⟩
      have B3 := hid hb1
      clear hb1
      go_wp2_with fail
      refine Calls.mono (K1.out _ B3.out) ?_
      rintro e w4 ⟨rfl, hb1⟩
      have B4 := hid hb1
      clear hb1
      go_wp2_with fail
      refine Calls.mono (K2.out _ B4.out) ?_
      rintro e w5 ⟨rfl, hb1⟩
      have B5 := hid hb1
      clear hb1
      go_wp2_with fail
      refine Calls.mono (K0.out _ B5.out) ?_
      rintro e w6 ⟨rfl, hb1⟩
      have B6 := hid hb1
      clear hb1
      go_wp2
      go_ret
      exact ⟨rfl, B6.out⟩
  · have hc1' : (c1 != 0) = true := by simpa using h1
    have K1 := hid k1
    clear k1 k2 w0 w1 w2 i0 i1 i2 hc1 hc2 h1
    go_enter Try.func9, Try.ntmps9
    go_wp2_with fail
    refine Calls.mono (K0.out _ B0.out) ?_
    rintro e w3 ⟨rfl, hb1⟩
    have B3 := hid hb1
    clear hb1
    go_wp2_with fail
    refine Calls.mono (K1.out _ B3.out) ?_
    rintro e w4 ⟨rfl, hb1⟩
    have B4 := hid hb1
    clear hb1
    go_wp2_with fail
    refine Calls.mono (K0.out _ B4.out) ?_
    rintro e w6 ⟨rfl, hb1⟩
    have B6 := hid hb1
    clear hb1
    go_wp2
    go_ret
    exact ⟨rfl, B6.out⟩

end Go.Proofs.Ytbgjlhganidhhaa
