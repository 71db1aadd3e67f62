/- The walk of the law CurveSays, of a package that does what it owes. -/
import Derived.Test.YtbgjlhganidhhaaCurveLaw
namespace Go.Proofs.Ytbgjlhganidhhaa
open Go.RowKit CurveMath
set_option linter.unusedVariables false

theorem curveSays_of (hC : CheckSpec) (hA : AtSpec) (a0 : Option Addr) (len0 cap0 : Nat) (X0 : Nat → Int) (a1 : Option Addr) (len1 cap1 : Nat) (X1 : Nat → Int) (a2 : Int) (w : World) (w0 : SlArg w a0 len0 cap0 X0) (w1 : SlArg w a1 len1 cap1 X1) :
    Calls Try.prog 7 #[.slice a0 len0 cap0, .slice a1 len1 cap1, .int .i64 a2] w fun e w' => e = .returned (.bool true) ∧ Below w.heap.size w w' := by
  have i0 := w0.isl
  have i1 := w1.isl
  have k1 := hA _ _ len0 len1 X0 X1 a2 w i0 i1
  have k2 : ∀ w', Below w.heap.size w w' → Calls Try.prog 23 #[.slice a0 len0 cap0, .slice a1 len1 cap1] w' fun e w'' => e = .returned (.int .i64 (chk len0 len1 X0 X1)) ∧ Below w.heap.size w w'' := fun w' hb =>
    (checkPoints_any _ _ len0 len1 X0 X1 w' (i0.up hb) (i1.up hb)).mono fun e w'' ⟨he, hb2⟩ => ⟨he, hb.trans (hb2.mono hb.size)⟩
  have k3 : ∀ w', Below w.heap.size w w' → Calls Try.prog 24 #[] w' fun e w'' => e = .returned (.bool true) ∧ Below w.heap.size w w'' := fun w' hb =>
    (curved_any hA w').mono fun e w'' ⟨he, hb2⟩ => ⟨he, hb.trans (hb2.mono hb.size)⟩
  have k4 : ∀ w', Below w.heap.size w w' → Calls Try.prog 25 #[.slice a0 len0 cap0, .slice a1 len1 cap1] w' fun e w'' => e = .returned (.int .i64 (chk len0 len1 X0 X1)) ∧ Below w.heap.size w w'' := fun w' hb =>
    (hC _ _ len0 len1 X0 X1 w' (i0.up hb) (i1.up hb)).mono fun e w'' ⟨he, hb2⟩ => ⟨he, hb.trans (hb2.mono hb.size)⟩
  by_cases hc : chk len0 len1 X0 X1 = 0
  · by_cases ht : isNum a2 = true
    · have hg := chk_ok hc
      obtain ⟨e1, e2⟩ := atE_ok (t := a2) hc ht
      rw [e1, e2] at k1
      rw [hc] at k2 k4
      have k5 : ∀ w', Below w.heap.size w w' → Calls Try.prog 26 #[.slice a0 len0 cap0, .slice a1 len1 cap1, .int .i64 a2] w' fun e w'' => e = .returned (.int .i64 (crv len0 X0 X1 a2)) ∧ Below w.heap.size w w'' := fun w' hb => by
        have hs := hg.same
        have hg' : Good len0 len0 X0 X1 := by rw [← hs] at hg; exact hg
        have i1' := i1.up hb
        rw [← hs] at i1'
        have := valueAt_good _ _ len0 X0 X1 a2 w' (i0.up hb) i1' hg' ((isNum_iff _).1 ht)
        rw [← hs]
        exact this.mono fun e w'' ⟨he, hb2⟩ => ⟨he, hb.trans (hb2.mono hb.size)⟩
      have K1 := hid k1
      have K2 := hid k2
      have K3 := hid k3
      have K4 := hid k4
      have K5 := hid k5
      clear k1 k2 k3 k4 i0 i1 w0 w1 hc k5 e1 e2 hg
      go_enter Try.func7, Try.ntmps7
      go_wp2_with (first
        | (go_at_call 22; go_must (refine Calls.mono K1.out ?_; rintro e w1 ⟨rfl, hb1⟩; have HB := hid hb1; clear hb1))
        | (go_at_call 23; go_must (refine Calls.mono (K2.out _ HB.out) ?_; rintro e w2 ⟨rfl, hb1⟩; have HB2 := hid hb1; clear hb1))
        | (go_at_call 24; go_must (refine Calls.mono (K3.out _ HB2.out) ?_; rintro e w3 ⟨rfl, hb1⟩; have HB3 := hid hb1; clear hb1))
        | (go_at_call 25; go_must (refine Calls.mono (K4.out _ HB3.out) ?_; rintro e w4 ⟨rfl, hb1⟩; have HB4 := hid hb1; clear hb1))
        | (go_at_call 15; go_must (refine (isNumber_any _ _).mono ?_; rintro e wq ⟨rfl, hwq⟩; subst wq))
        | (go_at_call 26; go_must (refine Calls.mono (K5.out _ HB4.out) ?_; rintro e w5 ⟨rfl, hb1⟩; have HB5 := hid hb1; clear hb1)))
      go_ret
      exact ⟨rfl, HB5.out⟩
    · have hf : isNum a2 = false := by simpa using ht
      have e1 : atE len0 len1 X0 X1 a2 = 2 := by unfold atE; rw [if_pos hc, if_neg ht]
      have e2 : atV len0 len1 X0 X1 a2 = 0 := by unfold atV; rw [if_neg (by rw [e1]; decide)]
      rw [e1, e2] at k1
      rw [hc] at k2 k4
      have K1 := hid k1
      have K2 := hid k2
      have K3 := hid k3
      have K4 := hid k4
      clear k1 k2 k3 k4 i0 i1 w0 w1 hc e1 e2 ht
      go_enter Try.func7, Try.ntmps7
      go_wp2_with (first
        | (go_at_call 22; go_must (refine Calls.mono K1.out ?_; rintro e w1 ⟨rfl, hb1⟩; have HB := hid hb1; clear hb1))
        | (go_at_call 23; go_must (refine Calls.mono (K2.out _ HB.out) ?_; rintro e w2 ⟨rfl, hb1⟩; have HB2 := hid hb1; clear hb1))
        | (go_at_call 24; go_must (refine Calls.mono (K3.out _ HB2.out) ?_; rintro e w3 ⟨rfl, hb1⟩; have HB3 := hid hb1; clear hb1))
        | (go_at_call 25; go_must (refine Calls.mono (K4.out _ HB3.out) ?_; rintro e w4 ⟨rfl, hb1⟩; have HB4 := hid hb1; clear hb1))
        | (go_at_call 15; go_must (refine (isNumber_any _ _).mono ?_; rintro e wq ⟨rfl, hwq⟩; subst wq)))
      go_ret
      exact ⟨rfl, HB4.out⟩
  · have e1 : atE len0 len1 X0 X1 a2 = chk len0 len1 X0 X1 := by unfold atE; rw [if_neg hc]
    have e2 : atV len0 len1 X0 X1 a2 = 0 := by unfold atV; rw [if_neg (by rw [e1]; exact hc)]
    rw [e1, e2] at k1
    obtain ⟨c, hcc⟩ : ∃ c, chk len0 len1 X0 X1 = c := ⟨_, rfl⟩
    rw [hcc] at k1 k2 k4 hc
    have hc1 : (c == 0) = false := by simpa using hc
    have hc2 : (c != 0) = true := by simpa using hc
    have K1 := hid k1
    have K2 := hid k2
    have K3 := hid k3
    have K4 := hid k4
    clear k1 k2 k3 k4 i0 i1 w0 w1 hc e1 e2 hcc
    go_enter Try.func7, Try.ntmps7
    go_wp2_with (first
      | (go_at_call 22; go_must (refine Calls.mono K1.out ?_; rintro e w1 ⟨rfl, hb1⟩; have HB := hid hb1; clear hb1))
      | (go_at_call 23; go_must (refine Calls.mono (K2.out _ HB.out) ?_; rintro e w2 ⟨rfl, hb1⟩; have HB2 := hid hb1; clear hb1))
      | (go_at_call 24; go_must (refine Calls.mono (K3.out _ HB2.out) ?_; rintro e w3 ⟨rfl, hb1⟩; have HB3 := hid hb1; clear hb1))
      | (go_at_call 25; go_must (refine Calls.mono (K4.out _ HB3.out) ?_; rintro e w4 ⟨rfl, hb1⟩; have HB4 := hid hb1; clear hb1))
      | (go_at_call 15; go_must (refine (isNumber_any _ _).mono ?_; rintro e wq ⟨rfl, hwq⟩; subst wq)))
    go_ret
    exact ⟨rfl, HB4.out⟩

end Go.Proofs.Ytbgjlhganidhhaa
