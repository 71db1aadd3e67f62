/- Several texts of one proof, in their order. -/
import Derived.Test.YtfcpmpcfbhkacaaRows
import Derived.Test.YtfcpmpcfbhkacaaVb0
import Derived.WalkKit
import Derived.WalkSpells
import Derived.Handy

/- What each function of package field answers, at every pair of numbers. -/
namespace Go.Proofs.Ytfcpmpcfbhkacaa

open Go.RowKit
set_option linter.unusedVariables false

/-- a product of two numbers lies between nought and 900 -/
theorem prod_bd {a b : Int} (ha : 0 ≤ a ∧ a ≤ 30) (hb : 0 ≤ b ∧ b ≤ 30) : 0 ≤ a * b ∧ a * b ≤ 900 := by
  obtain ⟨a0, a1⟩ := ha
  obtain ⟨b0, b1⟩ := hb
  refine ⟨Int.mul_nonneg a0 b0, ?_⟩
  have h1 : a * b ≤ 30 * b := Int.mul_le_mul_of_nonneg_right a1 b0
  omega

theorem times_any (a b : Int) (ha : 0 ≤ a ∧ a ≤ 30) (hb : 0 ≤ b ∧ b ≤ 30) (w : World) :
    Calls Try.prog 106 #[.int .i64 a, .int .i64 b] w fun e w' => e = .returned (.int .i64 (a * b % 31)) ∧ w' = w := by
  have hab := prod_bd ha hb
  go_enter Try.func106, Try.ntmps106
  go_wp2
  go_ret
  exact ⟨rfl, rfl⟩

theorem both_ok (a b : Int) (ha : 0 ≤ a ∧ a ≤ 30) (hb : 0 ≤ b ∧ b ≤ 30) (w : World) :
    Calls Try.prog 105 #[.int .i64 a, .int .i64 b] w fun e w' => e = .returned (.int .i64 0) ∧ w' = w := by
  go_enter Try.func105, Try.ntmps105
  go_wp2_with (go_at_call 57; go_must (refine (check_ok _ (by omega) _).mono ?_; rintro e w' ⟨rfl, rfl⟩))
  go_ret
  exact ⟨rfl, rfl⟩

theorem add_ok (a b : Int) (ha : 0 ≤ a ∧ a ≤ 30) (hb : 0 ≤ b ∧ b ≤ 30) (w : World) :
    Calls Try.prog 97 #[.int .i64 a, .int .i64 b] w fun e w' => e = .returned (.tuple #[.int .i64 ((a + b) % 31), .int .i64 0]) ∧ w' = w := by
  go_enter Try.func97, Try.ntmps97
  go_wp2_with (go_at_call 105; go_must (refine (both_ok _ _ (by omega) (by omega) _).mono ?_; rintro e w' ⟨rfl, rfl⟩))
  go_ret2
  exact ⟨rfl, rfl⟩

theorem mul_ok (a b : Int) (ha : 0 ≤ a ∧ a ≤ 30) (hb : 0 ≤ b ∧ b ≤ 30) (w : World) :
    Calls Try.prog 98 #[.int .i64 a, .int .i64 b] w fun e w' => e = .returned (.tuple #[.int .i64 (a * b % 31), .int .i64 0]) ∧ w' = w := by
  go_enter Try.func98, Try.ntmps98
  go_wp2_with (first
    | (go_at_call 105; go_must (refine (both_ok _ _ (by omega) (by omega) _).mono ?_; rintro e w' ⟨rfl, rfl⟩))
    | (go_at_call 106; go_must (refine (times_any _ _ (by omega) (by omega) _).mono ?_; rintro e w' ⟨rfl, rfl⟩)))
  go_ret2
  exact ⟨rfl, rfl⟩

/-- b times itself, k times, modulo 31 -/
def pw (b : Int) : Nat → Int
  | 0 => 1
  | k + 1 => pw b k * b % 31

theorem pw_bd (b : Int) (k : Nat) : 0 ≤ pw b k ∧ pw b k ≤ 30 := by
  cases k with
  | zero => simp only [pw]; omega
  | succ k => simp only [pw]; omega

theorem inverse_any (b : Int) (hb : 0 ≤ b ∧ b ≤ 30) (w : World) :
    Calls Try.prog 109 #[.int .i64 b] w fun e w' => e = .returned (.int .i64 (pw b 29)) ∧ w' = w := by
  go_enter Try.func109, Try.ntmps109
  go_wp2
  go_loop [3, 4] (fun r i => ∃ k : Nat, k ≤ 29 ∧ r = .int .i64 (pw b k) ∧ i = .int .i64 k) (fun _ i => 29 - (intOf i).toNat)
  case atStart => exact ⟨0, by omega, rfl, rfl⟩
  case round =>
    obtain ⟨k, hk, rfl, rfl⟩ := hrel
    have hp := pw_bd b k
    go_wp2_with (go_at_call 106; go_must (refine (times_any _ _ hp hb _).mono ?_; rintro e w' ⟨rfl, rfl⟩))
    · have hlt : k < 29 := by omega
      go_round
      case rel => exact ⟨k + 1, by omega, rfl, by go_num⟩
      case measure => simp only [intOf]; omega
    · have hge : k = 29 := by omega
      subst hge
      go_ret
      exact ⟨rfl, rfl⟩

/-- the quotient -/
def dv (a b : Int) : Int := a * pw b 29 % 31

theorem div_ok (a b : Int) (ha : 0 ≤ a ∧ a ≤ 30) (hb : 1 ≤ b ∧ b ≤ 30) (w : World) :
    Calls Try.prog 107 #[.int .i64 a, .int .i64 b] w fun e w' => e = .returned (.tuple #[.int .i64 (dv a b), .int .i64 0]) ∧ w' = w := by
  have hp := pw_bd b 29
  go_enter Try.func107, Try.ntmps107
  go_wp2_with (first
    | (go_at_call 105; go_must (refine (both_ok _ _ (by omega) (by omega) _).mono ?_; rintro e w' ⟨rfl, rfl⟩))
    | (go_at_call 109; go_must (refine (inverse_any _ (by omega) _).mono ?_; rintro e w' ⟨rfl, rfl⟩))
    | (go_at_call 106; go_must (refine (times_any _ _ (by omega) hp _).mono ?_; rintro e w' ⟨rfl, rfl⟩)))
  go_ret2
  exact ⟨rfl, rfl⟩

/-- 'times' and 'by' undo each other -/
theorem inv_all : ∀ k : Fin 31, k.val ≠ 0 → (pw (k.val : Int) 29 * (k.val : Int)) % 31 = 1 := by decide +kernel

theorem inv_mul (b : Int) (hb : 1 ≤ b ∧ b ≤ 30) : (pw b 29 * b) % 31 = 1 := by
  have h := inv_all ⟨b.toNat, by omega⟩ (by show b.toNat ≠ 0; omega)
  have e : ((b.toNat : Nat) : Int) = b := by omega
  simp only [e] at h
  exact h

theorem dv_bd (a b : Int) : 0 ≤ dv a b ∧ dv a b ≤ 30 := by unfold dv; omega

theorem dv_mul (a b : Int) (ha : 0 ≤ a ∧ a ≤ 30) (hb : 1 ≤ b ∧ b ≤ 30) : dv a b * b % 31 = a := by
  unfold dv
  rw [Int.mul_emod, Int.emod_emod, ← Int.mul_emod, Int.mul_assoc, Int.mul_emod, inv_mul b hb]
  omega

/-- two numbers that are one, times another one than nought, are one -/
theorem cancel (x y d : Int) (hx : 0 ≤ x ∧ x ≤ 30) (hy : 0 ≤ y ∧ y ≤ 30) (hd : 1 ≤ d ∧ d ≤ 30) (h : x * d % 31 = y * d % 31) : x = y := by
  have key : ∀ z : Int, 0 ≤ z ∧ z ≤ 30 → (z * d % 31) * pw d 29 % 31 = z := by
    intro z hz
    rw [Int.mul_emod, Int.emod_emod, ← Int.mul_emod, Int.mul_assoc, Int.mul_comm d, Int.mul_emod, inv_mul d hd]
    omega
  rw [← key x hx, ← key y hy, h]

theorem quotient_any (a b : Int) (ha : 0 ≤ a ∧ a ≤ 30) (hb : 1 ≤ b ∧ b ≤ 30) (w : World) :
    Calls Try.prog 80 #[.int .i64 a, .int .i64 b] w fun e w' => e = .returned (.int .i64 (dv a b)) ∧ w' = w := by
  have hbd := dv_bd a b
  have hdm := dv_mul a b ha hb
  generalize dv a b = q at *
  go_enter Try.func80, Try.ntmps80
  go_wp2
  go_loop [6] (fun i => ∃ k : Nat, (k : Int) ≤ q ∧ i = .int .i64 k) (fun i => 31 - (intOf i).toNat)
  case atStart => exact ⟨0, by omega, rfl⟩
  case round =>
    obtain ⟨k, hk, rfl⟩ := hrel
    have hp := prod_bd (a := (k : Int)) (b := b) ⟨by omega, by omega⟩ ⟨by omega, by omega⟩
    by_cases he : (k : Int) = q
    · subst he
      have hm : ((k : Int) * b % 31 == a) = true := by rw [hdm]; simp
      clear hdm hk
      go_wp2
      go_ret
      exact ⟨rfl, rfl⟩
    · have hm : ((k : Int) * b % 31 == a) = false := by
        simp only [beq_eq_false_iff_ne, ne_eq]
        intro h
        exact he (cancel _ _ b ⟨by omega, by omega⟩ hbd hb (by rw [h, hdm]))
      clear hdm
      go_wp2
      go_round
      case rel => exact ⟨k + 1, by omega, by go_num⟩
      case measure => simp only [intOf]; omega

end Go.Proofs.Ytfcpmpcfbhkacaa
