/- slices.Compare of two lists of one length. -/
import Derived.Test.YtnmionnbndfbkacVoteSets
import Derived.Test.YtnmionnbndfbkacShelfW
import Derived.Test.YtnmionnbndfbkacVoteFindsKit
namespace Go.Proofs.Ytnmionnbndfbkac
open Go.RowKit CurveMath
set_option linter.unusedVariables false

def cmpF (X Y : Nat → Int) : Nat → Nat → Int
  | 0, _ => 0
  | k + 1, i => if X i < Y i then -1 else if Y i < X i then 1 else cmpF X Y k (i + 1)

theorem cmpF_list {a b : List Nat} {n : Nat} (ha : a.length = n) (hb : b.length = n) : ∀ k i, i + k = n → cmpF (fun i => (a.getD i 0 : Int)) (fun i => (b.getD i 0 : Int)) k i = cmpL (a.drop i) (b.drop i) := by
  intro k
  induction k with
  | zero =>
    intro i hi
    rw [List.drop_eq_nil_of_le (by omega), List.drop_eq_nil_of_le (by omega)]
    rfl
  | succ k ih =>
    intro i hi
    have h1 : a.drop i = a.getD i 0 :: a.drop (i + 1) := by
      rw [List.drop_eq_getElem_cons (by omega : i < a.length)]
      simp [List.getD_eq_getElem?_getD, show i < a.length by omega]
    have h2 : b.drop i = b.getD i 0 :: b.drop (i + 1) := by
      rw [List.drop_eq_getElem_cons (by omega : i < b.length)]
      simp [List.getD_eq_getElem?_getD, show i < b.length by omega]
    rw [h1, h2]
    simp only [cmpF, cmpL]
    rw [ih (i + 1) (by omega)]
    by_cases g1 : a.getD i 0 < b.getD i 0
    · rw [if_pos g1, if_pos (by omega)]
    · rw [if_neg g1, if_neg (by omega)]
      by_cases g2 : b.getD i 0 < a.getD i 0
      · rw [if_pos g2, if_pos (by omega)]
      · rw [if_neg g2, if_neg (by omega)]

theorem compareInt_cases (x y : Int) : (x < y ∧ Lib.compareInt x y = -1) ∨ (y < x ∧ Lib.compareInt x y = 1) ∨ (¬ x < y ∧ ¬ y < x ∧ Lib.compareInt x y = 0) := by
  unfold Lib.compareInt
  by_cases h1 : x < y
  · exact Or.inl ⟨h1, by simp [h1]⟩
  · by_cases h2 : y < x
    · exact Or.inr (Or.inl ⟨h2, by simp [h1, h2]⟩)
    · exact Or.inr (Or.inr ⟨h1, h2, by simp [h1, h2]⟩)

set_option maxHeartbeats 1000000 in
theorem compare_isl {W : World} {B : Nat} {v1 v2 : Value} {n : Nat} {X Y : Nat → Int} (h1 : IntSl W B v1 n X) (h2 : IntSl W B v2 n Y) :
    Calls Try.prog 33 #[v1, v2] W fun e w' => e = .returned (.int .i64 (cmpF X Y n 0)) ∧ w' = W := by
  obtain ⟨a1, c1, rfl, ⟨hc1, hr1⟩, hx⟩ := h1
  obtain ⟨a2, c2, rfl, ⟨hc2, hr2⟩, hy⟩ := h2
  obtain ⟨ans, hans⟩ : ∃ ans, cmpF X Y n 0 = ans := ⟨_, rfl⟩
  rw [hans]
  have HA := hid hans
  have HX := hid hx
  have HY := hid hy
  clear hans hx hy
  go_enter Try.func33, Try.ntmps33
  go_wp2
  go_loopw [11] (fun iv wr => ∃ i : Nat, i ≤ n ∧ iv = .int .i64 i ∧ wr = W ∧ Hid (cmpF X Y (n - i) i = ans)) (fun iv _ => n - (intOf iv).toNat)
  case atStart => exact ⟨0, Nat.zero_le _, rfl, rfl, HA⟩
  case round =>
    obtain ⟨i, hi, rfl, hwr, HC⟩ := hrel
    subst hwr
    by_cases hlt : i < n
    · have hii : (i : Int) < (n : Int) := by omega
      rcases HX.out with h0 | ⟨b1, o1, rfl, _, hx⟩
      · omega
      rcases HY.out with h0 | ⟨b2, o2, rfl, _, hy⟩
      · omega
      have g1 := hx i hlt
      have g2 := hy i hlt
      have hstep := HC.out
      rw [show n - i = (n - (i + 1)) + 1 by omega] at hstep
      simp only [cmpF] at hstep
      obtain ⟨x, hxx⟩ : ∃ x, X i = x := ⟨_, rfl⟩
      obtain ⟨y, hyy⟩ : ∃ y, Y i = y := ⟨_, rfl⟩
      rw [hxx] at g1 hstep
      rw [hyy] at g2 hstep
      clear hx hy hxx hyy
      rcases compareInt_cases x y with ⟨e1, e2⟩ | ⟨e1, e2⟩ | ⟨e0, e1, e2⟩
      · rw [if_pos e1] at hstep
        have HSt := hid hstep
        have HE := hid e2
        clear hstep e2
        go_wp2_with (go_at_call 51; go_must (refine (Try.cmp_Compare_int _ _ _).mono ?_; rintro e wq ⟨rfl, hwq⟩; subst wq; rw [HE.out]))
        go_ret
        exact ⟨by rw [← HSt.out]; rfl, rfl⟩
      · rw [if_neg (by omega), if_pos e1] at hstep
        have HSt := hid hstep
        have HE := hid e2
        clear hstep e2
        go_wp2_with (go_at_call 51; go_must (refine (Try.cmp_Compare_int _ _ _).mono ?_; rintro e wq ⟨rfl, hwq⟩; subst wq; rw [HE.out]))
        go_ret
        exact ⟨by rw [← HSt.out]; rfl, rfl⟩
      · rw [if_neg e0, if_neg e1] at hstep
        have HSt := hid hstep
        have HE := hid e2
        clear hstep e2
        go_wp2_with (go_at_call 51; go_must (refine (Try.cmp_Compare_int _ _ _).mono ?_; rintro e wq ⟨rfl, hwq⟩; subst wq; rw [HE.out]))
        go_roundw
        case rel => exact ⟨i + 1, by omega, by go_num, trivial, HSt⟩
        case measure => simp only [intOf]; omega
    · have hie : n = i := by omega
      subst hie
      have hf := HC.out
      rw [Nat.sub_self] at hf
      have HF : Hid ((0 : Int) = ans) := hf
      clear hf
      go_wp2
      go_ret
      exact ⟨by rw [← HF.out]; rfl, rfl⟩

end Go.Proofs.Ytnmionnbndfbkac
