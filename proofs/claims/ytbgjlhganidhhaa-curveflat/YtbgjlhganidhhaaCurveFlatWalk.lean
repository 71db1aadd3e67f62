/- The walk of the law CurveFlat, of a package that does what it owes. -/
import Derived.Test.YtbgjlhganidhhaaCurveUp
namespace Go.Proofs.Ytbgjlhganidhhaa
open Go.RowKit CurveMath
set_option linter.unusedVariables false

set_option maxHeartbeats 1000000 in
theorem curveFlat_of (hC : CheckSpec) (hA : AtSpec) (a0 : Option Addr) (n cap0 : Nat) (X0 : Nat → Int) (a1 a2 a3 : Int) (w : World) (w0 : SlArg w a0 n cap0 X0) :
    Calls Try.prog 10 #[.slice a0 n cap0, .int .i64 a1, .int .i64 a2, .int .i64 a3] w fun e w' => e = .returned (.bool true) ∧ Below w.heap.size w w' := by
  obtain ⟨a, hea⟩ : ∃ a, a1 % 31 = a := ⟨_, rfl⟩
  obtain ⟨b, heb⟩ : ∃ b, a2 % 31 = b := ⟨_, rfl⟩
  obtain ⟨t, het⟩ : ∃ t, a3 % 31 = t := ⟨_, rfl⟩
  have na : 0 ≤ a ∧ a ≤ 30 := by omega
  have nb : 0 ≤ b ∧ b ≤ 30 := by omega
  have nt : 0 ≤ t ∧ t ≤ 30 := by omega
  have hr : n * 8 ≤ 140737488351232 := by have := w0.le; have := w0.reach; omega
  have I0 := hid w0.isl
  have WF := hid w0.wf
  have W0 := hid w0
  clear w0
  obtain ⟨i0, hi, hz0, hz1, hz2⟩ := info_parts Try.infoInt
  go_enter Try.func10, Try.ntmps10
  go_wp2_with (first
    | (go_at_call 19; go_must (refine (at_any _ _ (by omega) _).mono ?_; rintro e wq ⟨rfl, hwq⟩; subst wq; simp only [hea, heb, het]))
    | (at_make; refine wpList_make_full _ rfl (.tmp 24) (.tmp 24) 24 rfl _ 3 i0 (.int .i64 0) 1 Try.underlying24 hi hz0 hz1 _ _ _ _ n rfl rfl rfl rfl (by rw [hz2]; omega) (by unfold maxLen; omega) (Nat.le_refl _) ?_; intro w1 ho1 hg1; have R1 := hid (row_made ho1 hg1); clear ho1 hg1)
    | (at_make; refine wpList_make_full _ rfl (.tmp 27) (.tmp 27) 24 rfl _ 3 i0 (.int .i64 0) 1 Try.underlying24 hi hz0 hz1 _ _ _ _ n rfl rfl rfl rfl (by rw [hz2]; omega) (by unfold maxLen; omega) (Nat.le_refl _) ?_; intro w2 ho2 hg2; have R2 := hid (row_made ho2 hg2); clear ho2 hg2))
  clear hea heb het
  have Q1 := hid (R1.out.trans R2.out.below)
  have Q2 : Hid (Row w w2 w1.heap.size n (fun _ => 0)) := ⟨R1.out.below.trans (R2.out.below.mono R1.out.below.size), R1.out.below.size, R2.out.cell, R2.out.free⟩
  have HNE : Hid (1 ≤ n → w.heap.size ≠ w1.heap.size) := fun h1 => by have := cell_lt (R1.out.cell 0 (by omega)); simp at this; omega
  obtain ⟨g1, hg1⟩ : ∃ g, w.heap.size = g := ⟨_, rfl⟩
  obtain ⟨g2, hg2⟩ : ∃ g, w1.heap.size = g := ⟨_, rfl⟩
  rw [hg1] at Q1 HNE
  rw [hg2] at Q2 HNE
  have G1 := hid hg1
  simp only [hg1, hg2]
  clear R1 R2 hg1 hg2
  go_loopw [31] (fun i wr => ∃ k : Nat, k ≤ n ∧ i = .int .i64 k ∧ Hid (Row w wr g1 n (fun j => if j < k then a else 0)) ∧ Hid (Row w wr g2 n (fun j => if j < k then (a + b * (X0 j % 31)) % 31 else 0))) (fun i _ => n - (intOf i).toNat)
  case atStart => exact ⟨0, Nat.zero_le _, rfl, Q1, Q2⟩
  case round =>
    obtain ⟨k, hk, rfl, P1, P2⟩ := hrel
    by_cases hlt : k < n
    · have hi2 : (k : Int) < (n : Int) := by omega
      obtain ⟨bx, ox, ea0, hbx, hcx⟩ : ∃ b off, a0 = some ⟨b, off, none⟩ ∧ b < w.heap.size ∧ ∀ j, j < n → w.cell? ⟨b, off + j, none⟩ = some (.int .i64 (X0 j)) := W0.out.cells.resolve_left (by omega)
      subst ea0
      have gx : wr.cell? ⟨bx, ox + k, none⟩ = some (.int .i64 (X0 k)) := by rw [P1.out.below.cell hbx]; exact hcx k hlt
      clear hbx hcx
      obtain ⟨x, hx⟩ : ∃ x, X0 k = x := ⟨_, rfl⟩
      rw [hx] at gx
      obtain ⟨u, hu⟩ : ∃ u, x % 31 = u := ⟨_, rfl⟩
      have nu : 0 ≤ u ∧ u ≤ 30 := by omega
      have np := prod_bd nb nu
      have HU : Hid (X0 k % 31 = u) := by show _ = _; rw [hx, hu]
      clear hx
      have hne := HNE.out (by omega)
      have c1 := P1.out.cell k hlt
      have c2 := P1.out.free k hlt
      have c3 := ((P2.out.other (a := ⟨g1, k, none⟩) hne (P1.out.ge) (.int .i64 a)).cell k hlt)
      have c4 := P2.out.free k hlt
      go_wp2_with (go_at_call 19; go_must (refine (at_any _ _ (by omega) _).mono ?_; rintro e wq ⟨rfl, hwq⟩; subst wq; simp only [hu]))
      go_roundw
      case rel =>
        refine ⟨k + 1, by omega, by go_num, hid ?_, hid ?_⟩
        · refine Row.congr ((P1.out.set k hlt a).other (by exact Ne.symm hne) P2.out.ge _) fun j hj => ?_
          show (if j = k then a else if j < k then a else 0) = if j < k + 1 then a else 0
          by_cases h1 : j = k
          · rw [if_pos h1, if_pos (by omega)]
          · rw [if_neg h1]
            by_cases h2 : j < k
            · rw [if_pos h2, if_pos (by omega)]
            · rw [if_neg h2, if_neg (by omega)]
        · refine Row.congr ((P2.out.other (a := ⟨g1, k, none⟩) hne P1.out.ge _).set k hlt _) fun j hj => ?_
          show (if j = k then (a + b * u) % 31 else if j < k then (a + b * (X0 j % 31)) % 31 else 0) = if j < k + 1 then (a + b * (X0 j % 31)) % 31 else 0
          by_cases h1 : j = k
          · subst h1
            rw [if_pos rfl, if_pos (by omega), HU.out]
          · rw [if_neg h1]
            by_cases h2 : j < k
            · rw [if_pos h2, if_pos (by omega)]
            · rw [if_neg h2, if_neg (by omega)]
      case measure => simp only [intOf]; omega
    · have he : k = n := by omega
      subst he
      have S0 := I0.out.up P1.out.below
      have S1 := (P1.out.isl (Nat.le_refl k) hr).congr (Y := fun _ => a) (fun j hj => if_pos hj)
      have S2 := (P2.out.isl (Nat.le_refl k) hr).congr (Y := fun j => (a + b * (X0 j % 31)) % 31) (fun j hj => if_pos hj)
      have PB := hid P1.out.below
      have K3 := hid (curved_up hA (w0 := wr))
      have k4 := check_up hC S0 S1
      have B0 := hid (Below.refl wr.heap.size wr)
      by_cases hc : chk k k X0 (fun _ => a) = 0
      · have hg := chk_ok hc
        have hg2 : Good k k X0 (fun j => (a + b * (X0 j % 31)) % 31) := ⟨rfl, hg.len, hg.xs, fun j hj => by omega, hg.inj⟩
        have k5 := at_up hA S0 S1 hc t nt
        have k6 := at_up hA S0 S2 (chk_mk hg2) t nt
        rw [crv_flat hg t na] at k5
        rw [hc] at k4
        obtain ⟨cl, hcl⟩ : ∃ c, crv k X0 (fun j => (a + b * (X0 j % 31)) % 31) t = c := ⟨_, rfl⟩
        have HL : Hid (2 ≤ k → cl = (a + b * t) % 31) := fun h2 => by rw [← hcl]; exact crv_line hg.xs hg2 h2 t
        have hl1 := hg.len.1
        rw [hcl] at k6
        have K4 := hid k4
        have K5 := hid k5
        have K6 := hid k6
        have np := prod_bd nb nt
        clear k4 k5 k6 hcl hg hg2 hc S0 S1 S2 P1 P2 I0 WF W0 Q1 Q2 HNE
        by_cases h1 : k = 1
        · have hd1 : ((k : Int) == 1) = true := by simp; omega
          clear h1
          go_wp2_with (first
          | (go_at_call 24; (refine Calls.mono (K3.out _ B0.out) ?_; rintro e w3 ⟨rfl, hb1⟩; have B3 := hid hb1; clear hb1 B0))
          | (go_at_call 24; (refine Calls.mono (K3.out _ B4.out) ?_; rintro e w5 ⟨rfl, hb1⟩; have B5 := hid hb1; clear hb1 B4))
          | (go_at_call 25; go_must (refine Calls.mono (K4.out _ B3.out) ?_; rintro e w4 ⟨rfl, hb1⟩; have B4 := hid hb1; clear hb1 B3))
          | (go_at_call_of 22 (Value.slice (some ⟨g1, 0, none⟩) k k); go_must (refine Calls.mono (K5.out _ B4.out) ?_; rintro e w5 ⟨rfl, hb1⟩; have B5 := hid hb1; clear hb1 B4))
          | (go_at_call_of 22 (Value.slice (some ⟨g2, 0, none⟩) k k); go_must (refine Calls.mono (K6.out _ B5.out) ?_; rintro e w6 ⟨rfl, hb1⟩; have B6 := hid hb1; clear hb1 B5)))
          go_ret
          exact ⟨rfl, PB.out.trans (B6.out.mono PB.out.size)⟩
        · have hd1 : ((k : Int) == 1) = false := by simp; omega
          have hcl := HL.out (by omega)
          subst hcl
          go_wp2_with (first
          | (go_at_call 24; (refine Calls.mono (K3.out _ B0.out) ?_; rintro e w3 ⟨rfl, hb1⟩; have B3 := hid hb1; clear hb1 B0))
          | (go_at_call 24; (refine Calls.mono (K3.out _ B4.out) ?_; rintro e w5 ⟨rfl, hb1⟩; have B5 := hid hb1; clear hb1 B4))
          | (go_at_call 25; go_must (refine Calls.mono (K4.out _ B3.out) ?_; rintro e w4 ⟨rfl, hb1⟩; have B4 := hid hb1; clear hb1 B3))
          | (go_at_call_of 22 (Value.slice (some ⟨g1, 0, none⟩) k k); go_must (refine Calls.mono (K5.out _ B4.out) ?_; rintro e w5 ⟨rfl, hb1⟩; have B5 := hid hb1; clear hb1 B4))
          | (go_at_call_of 22 (Value.slice (some ⟨g2, 0, none⟩) k k); go_must (refine Calls.mono (K6.out _ B5.out) ?_; rintro e w6 ⟨rfl, hb1⟩; have B6 := hid hb1; clear hb1 B5)))
          go_ret
          exact ⟨rfl, PB.out.trans (B6.out.mono PB.out.size)⟩
      · obtain ⟨c, hcc⟩ : ∃ c, chk k k X0 (fun _ => a) = c := ⟨_, rfl⟩
        rw [hcc] at k4 hc
        have hc2 : (c != 0) = true := by simpa using hc
        have K4 := hid k4
        clear k4 hcc hc S0 S1 S2 P1 P2 I0 WF W0 Q1 Q2 HNE
        go_wp2_with (first
          | (go_at_call 24; (refine Calls.mono (K3.out _ B0.out) ?_; rintro e w3 ⟨rfl, hb1⟩; have B3 := hid hb1; clear hb1 B0))
          | (go_at_call 24; (refine Calls.mono (K3.out _ B4.out) ?_; rintro e w5 ⟨rfl, hb1⟩; have B5 := hid hb1; clear hb1 B4))
          | (go_at_call 25; go_must (refine Calls.mono (K4.out _ B3.out) ?_; rintro e w4 ⟨rfl, hb1⟩; have B4 := hid hb1; clear hb1 B3)))
        go_ret
        exact ⟨rfl, PB.out.trans (B5.out.mono PB.out.size)⟩

end Go.Proofs.Ytbgjlhganidhhaa
