/- What chapter 2's reference answers: the check of points, and the value of their curve, in plain words of numbers modulo 31. -/
import Derived.Test.YtbgjlhganidhhaaInts
import Derived.Test.YtbgjlhganidhhaaField
import Derived.Test.YtbgjlhganidhhaaPoly
import Derived.Test.YtbgjlhganidhhaaQuietTail
import Derived.Test.YtbgjlhganidhhaaPlanCode
namespace Go.Proofs.Ytbgjlhganidhhaa
open Go.RowKit CurveMath
set_option linter.unusedVariables false

/-- points from number k on, m of them: the first error -/
def scan (X Y : Nat → Int) : Nat → Nat → Int
  | 0, _ => 0
  | m + 1, k => if (isNum (X k) && isNum (Y k)) = false then 2 else if hasB X k (X k) = true then 5 else scan X Y m (k + 1)

/-- the check of nx x's and ny y's -/
def chk (nx ny : Nat) (X Y : Nat → Int) : Int := if nx ≠ ny then 3 else if 1 ≤ nx ∧ nx ≤ 8 then scan X Y nx 0 else 1

theorem less_any (a b : Int) (ha : 0 ≤ a ∧ a ≤ 30) (hb : 0 ≤ b ∧ b ≤ 30) (w : World) :
    Calls Try.prog 40 #[.int .i64 a, .int .i64 b] w fun e w' => e = .returned (.int .i64 ((a + 31 - b) % 31)) ∧ w' = w := by
  go_enter Try.func40, Try.ntmps40
  go_wp2
  go_ret
  exact ⟨rfl, rfl⟩

theorem checkPoints_form (a1 a2 : Option Addr) (n1 n2 c1 c2 : Nat) (h : n1 ≠ n2) (h1 : n1 * 8 ≤ 140737488351232) (h2 : n2 * 8 ≤ 140737488351232) (w : World) :
    Calls Try.prog 23 #[.slice a1 n1 c1, .slice a2 n2 c2] w fun e w' => e = .returned (.int .i64 3) ∧ w' = w := by
  have hb : ((n1 : Int) != (n2 : Int)) = true := by simp; omega
  go_enter Try.func23, Try.ntmps23
  go_wp2
  go_ret
  exact ⟨rfl, rfl⟩

theorem checkPoints_many (a1 a2 : Option Addr) (n c1 c2 : Nat) (h : ¬ (1 ≤ n ∧ n ≤ 8)) (h1 : n * 8 ≤ 140737488351232) (w : World) :
    Calls Try.prog 23 #[.slice a1 n c1, .slice a2 n c2] w fun e w' => e = .returned (.int .i64 1) ∧ w' = w := by
  by_cases h0 : n = 0
  · subst h0
    go_enter Try.func23, Try.ntmps23
    go_wp2
    go_ret
    exact ⟨rfl, rfl⟩
  · have h9 : 9 ≤ n := by omega
    have hd : decide ((n : Int) ≤ 8) = false := decide_eq_false (by omega)
    clear h
    go_enter Try.func23, Try.ntmps23
    go_wp2
    go_ret
    exact ⟨rfl, rfl⟩

theorem scan_bad {X Y : Nat → Int} {n k : Nat} {e : Int} (hk : k < n) (h : scan X Y (n - k) k = e) (hb : (isNum (X k) && isNum (Y k)) = false) : e = 2 := by
  rw [show n - k = (n - k - 1) + 1 by omega] at h
  simp only [scan] at h
  rw [if_pos hb] at h
  exact h.symm

theorem scan_dup {X Y : Nat → Int} {n k : Nat} {e : Int} (hk : k < n) (h : scan X Y (n - k) k = e) (hb : (isNum (X k) && isNum (Y k)) = true) (hd : hasB X k (X k) = true) : e = 5 := by
  rw [show n - k = (n - k - 1) + 1 by omega] at h
  simp only [scan] at h
  rw [if_neg (by rw [hb]; simp), if_pos hd] at h
  exact h.symm

theorem scan_next {X Y : Nat → Int} {n k : Nat} {e : Int} (hk : k < n) (h : scan X Y (n - k) k = e) (hb : (isNum (X k) && isNum (Y k)) = true) (hd : hasB X k (X k) = false) : scan X Y (n - (k + 1)) (k + 1) = e := by
  rw [show n - k = (n - (k + 1)) + 1 by omega] at h
  simp only [scan] at h
  rw [if_neg (by rw [hb]; simp), if_neg (by rw [hd]; simp)] at h
  exact h

theorem checkPoints_in (b1 o1 c1 b2 o2 c2 n : Nat) (X Y : Nat → Int) (hn : 1 ≤ n ∧ n ≤ 8) (w : World)
    (hx : ∀ j, j < n → w.cell? ⟨b1, o1 + j, none⟩ = some (.int .i64 (X j)))
    (hy : ∀ j, j < n → w.cell? ⟨b2, o2 + j, none⟩ = some (.int .i64 (Y j))) (hcap : n ≤ c1) :
    Calls Try.prog 23 #[.slice (some ⟨b1, o1, none⟩) n c1, .slice (some ⟨b2, o2, none⟩) n c2] w fun e w' => e = .returned (.int .i64 (scan X Y n 0)) ∧ ∃ m, w' = w.drewN m := by
  have HX : Hid (∀ j, j < n → w.cell? ⟨b1, o1 + j, none⟩ = some (.int .i64 (X j))) := hx
  have HY : Hid (∀ j, j < n → w.cell? ⟨b2, o2 + j, none⟩ = some (.int .i64 (Y j))) := hy
  clear hx hy
  go_enter Try.func23, Try.ntmps23
  go_wp2_with (go_at_call 35; go_must (refine (in_ok _ _ _ (by omega) _).mono ?_; rintro e w1 ⟨rfl, hw1⟩; subst w1))
  go_loopw [19] (fun i wr => ∃ k m : Nat, k ≤ n ∧ i = .int .i64 k ∧ wr = w.drewN m ∧ scan X Y (n - k) k = scan X Y n 0) (fun i _ => n - (intOf i).toNat)
  case atStart => exact ⟨0, 0, Nat.zero_le _, rfl, rfl, rfl⟩
  case round =>
    obtain ⟨k, m, hk, rfl, hwr, hf⟩ := hrel
    have HF : Hid (scan X Y (n - k) k = scan X Y n 0) := hf
    have HX : Hid (∀ j, j < n → wr.cell? ⟨b1, o1 + j, none⟩ = some (.int .i64 (X j))) := fun j hj => by rw [hwr]; exact HX.out j hj
    have HY : Hid (∀ j, j < n → wr.cell? ⟨b2, o2 + j, none⟩ = some (.int .i64 (Y j))) := fun j hj => by rw [hwr]; exact HY.out j hj
    have HW : Hid (wr = w.drewN m) := hwr
    clear hf hwr
    by_cases hlt : k < n
    · have gx := HX.out k hlt
      have gy := HY.out k hlt
      have hi : (k : Int) < (n : Int) := by omega
      have hkc : (k : Int) ≤ (c1 : Int) := by omega
      obtain ⟨x, hx⟩ : ∃ x, X k = x := ⟨_, rfl⟩
      obtain ⟨y, hy⟩ : ∃ y, Y k = y := ⟨_, rfl⟩
      rw [hx] at gx
      rw [hy] at gy
      have Hx : Hid (X k = x) := hx
      have Hy : Hid (Y k = y) := hy
      clear hx hy
      by_cases h1 : isNum x = true
      · by_cases h2 : isNum y = true
        · have hnn : (isNum (X k) && isNum (Y k)) = true := by rw [Hx.out, Hy.out, h1, h2]; rfl
          have HN : Hid ((isNum (X k) && isNum (Y k)) = true) := hnn
          clear hnn
          go_wp2_with (go_at_call 15; go_must (refine (isNumber_any _ _).mono ?_; rintro e w1 ⟨rfl, hw1⟩; subst w1))
          go_quiet ((go_at_call 28; exact Calls.quiet_of_same (contains_any _ _ _ _ X _ _ (by omega) (fun j hj => by simpa using HX.out j (by omega)))))
          cases h3 : hasB X k x with
          | true =>
            go_wp2
            go_ret
            exact ⟨by rw [scan_dup hlt HF.out HN.out (by rw [Hx.out]; exact h3)]; rfl, m + nq, by rw [HW.out]; simp⟩
          | false =>
            go_wp2
            go_roundw
            case rel => exact ⟨k + 1, m + nq, by omega, by go_num, by rw [HW.out]; simp, scan_next hlt HF.out HN.out (by rw [Hx.out]; exact h3)⟩
            case measure => simp only [intOf]; omega
        · have h4 : isNum y = false := by simpa using h2
          clear h2
          go_wp2_with (go_at_call 15; go_must (refine (isNumber_any _ _).mono ?_; rintro e w1 ⟨rfl, hw1⟩; subst w1))
          go_ret
          exact ⟨by rw [scan_bad hlt HF.out (by rw [Hx.out, Hy.out, h1, h4]; rfl)]; rfl, m, HW.out⟩
      · have h4 : isNum x = false := by simpa using h1
        clear h1
        go_wp2_with (go_at_call 15; go_must (refine (isNumber_any _ _).mono ?_; rintro e w1 ⟨rfl, hw1⟩; subst w1))
        go_ret
        exact ⟨by rw [scan_bad hlt HF.out (by rw [Hx.out, h4]; rfl)]; rfl, m, HW.out⟩
    · have he : k = n := by omega
      subst he
      go_wp2
      go_ret
      have h1 := HF.out
      rw [Nat.sub_self] at h1
      exact ⟨by rw [← h1]; rfl, m, HW.out⟩

end Go.Proofs.Ytbgjlhganidhhaa
