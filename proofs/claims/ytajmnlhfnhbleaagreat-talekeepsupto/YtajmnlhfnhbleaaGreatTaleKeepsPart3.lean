/- Several texts of one proof, in their order. -/
import Derived.Test.YtajmnlhfnhbleaaGreatTaleKeepsPart2

namespace Go.Proofs.YtajmnlhfnhbleaaGreat

open Go.RowKit CurveMath
set_option linter.unusedVariables false

theorem strDel0 (w : World) : Calls Tryz.prog 76 #[.slice none 0 0, .func (.func 78) #[] #[]] w fun e w' => e = .returned (.slice none 0 0) ∧ Below w.heap.size w w' := by
  have CI := hid (strIdx none 0 0 (fun _ => undef) (fun _ => undef) (fun _ => ⟨0, 0, 0, 0, dn0, 0, dn0, 0, 0⟩) w (by omega) (Or.inl rfl))
  go_enter Tryz.func76, Tryz.ntmps76
  go_wp2_with fail
  refine Calls.mono CI.out ?_
  rintro e w2 ⟨hb, r, rfl, hr⟩
  have hr1 : r = -1 := by
    rcases hr with ⟨h, _⟩ | ⟨i, hi, _⟩
    · exact h
    · omega
  subst hr1
  have HB := hid hb
  clear hb CI hr
  go_wp2
  go_ret
  exact ⟨rfl, HB.out⟩

set_option maxHeartbeats 4000000 in
theorem straight_any (vs : Value) (n : Nat) (DV QV : Nat → Value) (H : Nat → Hp) (most : Nat) (w : World) (hm : most ≤ 1000) (hs : HpSl w w.heap.size vs n DV QV H) :
    Calls Tryz.prog 35 #[vs, .int .i64 (most : Int)] w fun e w' => Below w.heap.size w w' ∧ ∃ vo : Value, e = .returned vo ∧ ∃ m : Nat, m ≤ most ∧ ∃ (DV' QV' : Nat → Value) (H' : Nat → Hp), HpSl w' w'.heap.size vo m DV' QV' H' ∧ ∀ j, j < m → (H' j).kd ≠ 5 := by
  have CC := hid (cloneH hs)
  have hA : ∀ j, j < n → HpAt w w.heap.size (H j) (DV j) (QV j) := fun j hj => by
    obtain ⟨a, c, rfl, _⟩ := id hs
    obtain ⟨_, _, _, _, _, h⟩ := hs.at hj
    exact h
  have HA := hid hA
  obtain ⟨ad, cap, rfl, ⟨hc, hr⟩, _⟩ := hs
  clear hA
  go_enter Tryz.func35, Tryz.ntmps35
  go_wp2_with fail
  refine Calls.mono CC.out ?_
  rintro e w1 ⟨hb, h⟩
  have HB := hid hb
  clear hb CC
  rcases h with ⟨rfl, rfl⟩ | ⟨g, cp, rfl, h1, h2, hrow⟩
  · go_wp2_with fail
    refine Calls.mono (strDel0 w1) ?_
    rintro e w2 ⟨rfl, hb⟩
    have HB2 := hid (HB.out.trans (hb.mono HB.out.size))
    clear hb
    have hmn : min ((0 : Nat) : Int) (most : Int) = 0 := by omega
    have hmn2 : min (0 : Int) (most : Int) = 0 := by omega
    go_wp2
    go_ret
    exact ⟨HB2.out, _, rfl, 0, Nat.zero_le _, fun _ => undef, fun _ => undef, H, ⟨none, 0, rfl, ⟨Nat.le_refl _, by omega⟩, Or.inl rfl⟩, fun j hj => absurd hj (Nat.not_lt_zero _)⟩
  · have CD := hid (strDel w g n cp DV QV H w1 ⟨h1, h2⟩ hr hrow HA.out)
    have h1' := hid h1
    unfold maxLen at h2
    clear hrow
    go_wp2_with fail
    refine Calls.mono CD.out ?_
    rintro e w2 ⟨m, rfl, hmn, ix, hrow, hix⟩
    obtain ⟨q, hq⟩ : ∃ q : Nat, min (m : Int) (most : Int) = (q : Int) := ⟨min m most, by omega⟩
    have hqm : q ≤ m := by omega
    have hqc : (q : Int) ≤ (cp : Int) := by omega
    have HQ : Hid (q ≤ most) := by show _ ≤ _; omega
    have HSl := hid (hrow.hpsl (cap := cp) (by omega) (by omega) fun p hp => HA.out (ix p) (hix p hp).1)
    have HR := hid hrow.below
    have HIx := hid hix
    have HQm := hid hqm
    clear hrow hix CD
    go_wp2
    go_ret
    obtain ⟨a9, c9, e9, h9⟩ := HSl.out.front HQm.out
    injection e9 with e1 _ e3
    subst e1 e3
    exact ⟨HR.out, _, rfl, q, HQ.out, _, _, _, h9, fun j hj => (HIx.out j (by have := HQm.out; omega)).2⟩

end Go.Proofs.YtajmnlhfnhbleaaGreat
