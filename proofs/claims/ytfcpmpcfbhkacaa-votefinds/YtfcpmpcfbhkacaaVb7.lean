/- Several texts of one proof, in their order. -/
import Derived.Test.YtfcpmpcfbhkacaaVb6
import Derived.Test.YtfcpmpcfbhkacaaVb4

/- The value of a curve by differences, as the reference reckons it: the answer of ValueAt is the value of the one curve through the points. -/
namespace Go.Proofs.Ytfcpmpcfbhkacaa

open Go.RowKit CurveMath
set_option linter.unusedVariables false

/-- the value at t of the curve through n points, by differences -/
def crvF (n : Nat) (X Y : Nat → Int) (t : Int) : F := newt (fun i => toF (X i)) (fun i => dd (fun i => toF (X i)) (fun i => toF (Y i)) i i) n (toF t)
def crv (n : Nat) (X Y : Nat → Int) (t : Int) : Int := ((crvF n X Y t).val : Int)

theorem crv_num (n : Nat) (X Y : Nat → Int) (t : Int) : 0 ≤ crv n X Y t ∧ crv n X Y t ≤ 30 := by
  unfold crv
  have := (crvF n X Y t).isLt
  omega

theorem toF_crv (n : Nat) (X Y : Nat → Int) (t : Int) : toF (crv n X Y t) = crvF n X Y t := by
  apply Fin.ext
  have h := toF_val (crv n X Y t)
  have h2 := crv_num n X Y t
  have h3 : crv n X Y t = ((crvF n X Y t).val : Int) := rfl
  omega

theorem crv_of (n : Nat) (X Y : Nat → Int) (t v : Int) (hv : 0 ≤ v ∧ v ≤ 30) (h : toF v = crvF n X Y t) : v = crv n X Y t :=
  toF_num hv (crv_num n X Y t) (by rw [h, toF_crv])

theorem pw_toF (b : Int) (k : Nat) : toF (pw b k) = toF b ^ k := by
  induction k with
  | zero => simp only [pw, toF_one]; grind
  | succ k ih => simp only [pw, toF_mod, toF_mul, ih]; grind

theorem toF_dv (a b : Int) : toF (dv a b) = toF a * inv (toF b) := by
  unfold dv inv
  rw [toF_mod, toF_mul, pw_toF]

theorem toF_less (a b : Int) : toF ((a + 31 - b) % 31) = toF a - toF b := by
  rw [toF_mod, toF_sub, toF_add, toF_p]
  grind

/-- what the row holds behind round k, at place i' and above done -/
def State (X Y C : Nat → Int) (n k i' : Nat) : Prop := ∀ j, j < n → (0 ≤ C j ∧ C j ≤ 30) ∧ toF (C j) = dd (fun i => toF (X i)) (fun i => toF (Y i)) j (if i' ≤ j then min j k else min j (k - 1))

theorem State.start {X Y : Nat → Int} {n : Nat} (hy : ∀ j, j < n → 0 ≤ Y j ∧ Y j ≤ 30) : State X Y Y n 1 n := by
  intro j hj
  refine ⟨hy j hj, ?_⟩
  rw [if_neg (by omega), show min j (1 - 1) = 0 by omega]
  rfl

theorem State.step {X Y C : Nat → Int} {n k i : Nat} (h : State X Y C n k (i + 1)) (hk : 1 ≤ k) (hki : k ≤ i) (hi : i < n) :
    State X Y (fun j => if j = i then dv ((C i + 31 - C (i - 1)) % 31) ((X i + 31 - X (i - k)) % 31) else C j) n k i := by
  intro j hj
  by_cases hji : j = i
  · subst hji
    simp only [if_true]
    refine ⟨dv_bd _ _, ?_⟩
    rw [toF_dv, toF_less, toF_less]
    have h1 := (h j hj).2
    have h2 := (h (j - 1) (by omega)).2
    rw [if_neg (by omega), show min j (k - 1) = k - 1 by omega] at h1
    rw [if_neg (by omega), show min (j - 1) (k - 1) = k - 1 by omega] at h2
    rw [h1, h2, if_pos (Nat.le_refl j), show min j k = (k - 1) + 1 by omega]
    simp only [dd]
    rw [show k - 1 + 1 = k by omega]
  · simp only [if_neg hji]
    have h1 := h j hj
    refine ⟨h1.1, ?_⟩
    rw [h1.2]
    by_cases h2 : i + 1 ≤ j
    · rw [if_pos h2, if_pos (by omega)]
    · rw [if_neg h2, if_neg (by omega)]

theorem State.next {X Y C : Nat → Int} {n k : Nat} (h : State X Y C n k k) (hk : 1 ≤ k) : State X Y C n (k + 1) n := by
  intro j hj
  have h1 := h j hj
  refine ⟨h1.1, ?_⟩
  rw [h1.2, if_neg (by omega : ¬ n ≤ j)]
  by_cases h2 : k ≤ j
  · rw [if_pos h2]; rfl
  · rw [if_neg h2, show min j (k - 1) = j by omega, show min j (k + 1 - 1) = j by omega]

theorem clone_any (b off n c : Nat) (Y : Nat → Int) (hn : 1 ≤ n) (hbig : n * 8 ≤ 140737488351232) (w : World)
    (hc : ∀ j, j < n → w.cell? ⟨b, off + j, none⟩ = some (.int .i64 (Y j))) :
    Calls Try.prog 29 #[.slice (some ⟨b, off, none⟩) n c] w fun e w' => ∃ g cap, e = .returned (.slice (some ⟨g, 0, none⟩) n cap) ∧ n ≤ cap ∧ Row w w' g n Y := by
  refine (Try.slices_Clone_int b off n c ((List.range n).map Y) w (by simp) (by omega) (fun j hj => ?_)).mono ?_
  · have hj' : j < n := by simpa using hj
    rw [hc j hj']
    simp [hj']
  · rintro e w' ⟨v', rfl, ho, _, hb⟩
    obtain ⟨g, cap, hv, hcap, hr⟩ := Row.of_owns (C := Y) hn ho hb (fun j hj => by simp [hj])
    exact ⟨g, cap, by rw [hv], hcap, hr⟩

theorem less_pos {a b : Int} (ha : 0 ≤ a ∧ a ≤ 30) (hb : 0 ≤ b ∧ b ≤ 30) (h : a ≠ b) : 1 ≤ (a + 31 - b) % 31 ∧ (a + 31 - b) % 31 ≤ 30 := by omega

set_option maxHeartbeats 1000000 in
theorem valueAt_any (b1 o1 c1 b2 o2 c2 n : Nat) (X Y : Nat → Int) (t : Int) (w : World) (hn : 1 ≤ n ∧ n ≤ 8)
    (hX : ∀ j, j < n → 0 ≤ X j ∧ X j ≤ 30) (hY : ∀ j, j < n → 0 ≤ Y j ∧ Y j ≤ 30) (ht : 0 ≤ t ∧ t ≤ 30)
    (hinj : ∀ i j, i < n → j < n → X i = X j → i = j) (hb1 : b1 < w.heap.size)
    (hx : ∀ j, j < n → w.cell? ⟨b1, o1 + j, none⟩ = some (.int .i64 (X j)))
    (hy : ∀ j, j < n → w.cell? ⟨b2, o2 + j, none⟩ = some (.int .i64 (Y j))) :
    Calls Try.prog 60 #[.slice (some ⟨b1, o1, none⟩) n c1, .slice (some ⟨b2, o2, none⟩) n c2, .int .i64 t] w fun e w' => e = .returned (.int .i64 (crv n X Y t)) ∧ Below w.heap.size w w' := by
  have HX : Hid (∀ j, j < n → w.cell? ⟨b1, o1 + j, none⟩ = some (.int .i64 (X j))) := hx
  have HN : Hid (∀ j, j < n → 0 ≤ X j ∧ X j ≤ 30) := hX
  have HS : Hid (State X Y Y n 1 n) := State.start hY
  have HI : Hid (∀ i j, i < n → j < n → X i = X j → i = j) := hinj
  have HC : Hid (Calls Try.prog 29 #[.slice (some ⟨b2, o2, none⟩) n c2] w fun e w' => ∃ g cap, e = .returned (.slice (some ⟨g, 0, none⟩) n cap) ∧ n ≤ cap ∧ Row w w' g n Y) := clone_any b2 o2 n c2 Y hn.1 (by omega) w hy
  clear hx hX hY hinj hy
  go_enter Try.func60, Try.ntmps60
  go_wp2_with (go_at_call 29; go_must (refine HC.out.mono ?_; rintro e w1 ⟨g, cap, rfl, hcap, hrow⟩; have HR : Hid (Row w w1 g n Y) := hrow; clear hrow))
  go_loopw [8] (fun kv wr => ∃ (k : Nat) (C : Nat → Int), 1 ≤ k ∧ k ≤ n ∧ kv = .int .i64 k ∧ Hid (Row w wr g n C) ∧ Hid (State X Y C n k n)) (fun kv _ => n - (intOf kv).toNat)
  case atStart => exact ⟨1, Y, by omega, by omega, rfl, HR, HS⟩
  case round =>
    obtain ⟨k, C, hk1, hkn, rfl, HR2, HS2⟩ := hrel
    by_cases hlt : k < n
    · go_wp2
      go_loopw [9] (fun iv wq => ∃ (i' : Nat) (C : Nat → Int), k ≤ i' ∧ i' ≤ n ∧ iv = .int .i64 ((i' : Int) - 1) ∧ Hid (Row w wq g n C) ∧ Hid (State X Y C n k i')) (fun iv _ => (intOf iv + 1).toNat)
      case atStart => exact ⟨n, C, by omega, by omega, rfl, HR2, HS2⟩
      case round =>
        obtain ⟨i', D, hki, hin, rfl, HR3, HS3⟩ := hrel
        by_cases hlt2 : k < i'
        · obtain ⟨i, rfl⟩ : ∃ i, i' = i + 1 := ⟨i' - 1, by omega⟩
          have ez : (((i + 1 : Nat) : Int) - 1) = (i : Int) := by omega
          rw [ez]
          clear ez
          have hi1 : (k : Int) ≤ (i : Int) := by omega
          have hi2 : (i : Int) < (n : Int) := by omega
          have g1 := HR3.out.cell i (by omega)
          have g2 := HR3.out.cell (i - 1) (by omega)
          have g3 := HR3.out.free i (by omega)
          have g4 : wr.cell? ⟨b1, o1 + i, none⟩ = some (.int .i64 (X i)) := by rw [HR3.out.below.cell hb1]; exact HX.out i (by omega)
          have g5 : wr.cell? ⟨b1, o1 + (i - k), none⟩ = some (.int .i64 (X (i - k))) := by rw [HR3.out.below.cell hb1]; exact HX.out (i - k) (by omega)
          have n1 := (HS3.out i (by omega)).1
          have n2 := (HS3.out (i - 1) (by omega)).1
          have n3 := HN.out i (by omega)
          have n4 := HN.out (i - k) (by omega)
          have n5 := less_pos n3 n4 (fun e => by have := HI.out i (i - k) (by omega) (by omega) e; omega)
          go_wp2
          refine region_quiet_tail 25 (by kernel_rfl) (by kernel_rfl) ?_
          simp only [List.take_succ_cons, List.take_zero, List.drop_succ_cons, List.drop_zero]
          repeat (go_big_quiet_step ((first
            | (go_at_call 81; exact Calls.quiet_of_same (less_any _ _ (by first | exact n1 | exact n3) (by first | exact n2 | exact n4) _))
            | (go_at_call 80; exact Calls.quiet_of_same (quotient_any _ _ (by omega) n5 _)))))
          refine wpQuiet_nil ?_
          intro _ hw1
          obtain ⟨nq, hw2⟩ := hw1
          subst hw2
          go_wp2
          go_roundw
          case rel => exact ⟨i, _, by omega, by omega, by go_num, (HR3.out.set i (by omega) _).drewN nq, HS3.out.step hk1 (by omega) (by omega)⟩
          case measure => simp only [intOf]; omega
        · have he : i' = k := by omega
          subst he
          go_wp2
          go_roundw
          case rel => exact ⟨i' + 1, D, by omega, by omega, by go_num, HR3, HS3.out.next hk1⟩
          case measure => simp only [intOf]; omega
    · have he : k = n := by omega
      subst he
      go_wp2
      have HF : Hid (∀ j, j < k → (0 ≤ C j ∧ C j ≤ 30) ∧ toF (C j) = dd (fun i => toF (X i)) (fun i => toF (Y i)) j j) := fun j hj => by
        have h := HS2.out j hj
        rw [if_neg (by omega), show min j (k - 1) = j by omega] at h
        exact h
      go_loopw [10, 11] (fun vv iv wq => ∃ (i' : Nat) (v : Int), i' ≤ k ∧ iv = .int .i64 ((i' : Int) - 1) ∧ vv = .int .i64 v ∧ (0 ≤ v ∧ v ≤ 30) ∧ Hid (Row w wq g k C) ∧ Hid (toF v = horn (fun i => toF (X i)) (fun i => dd (fun i => toF (X i)) (fun i => toF (Y i)) i i) (toF t) k (k - i'))) (fun _ iv _ => (intOf iv + 1).toNat)
      case atStart => exact ⟨k, 0, Nat.le_refl _, rfl, rfl, by omega, HR2, by show _ = _; rw [Nat.sub_self]; exact toF_zero⟩
      case round =>
        obtain ⟨i', v, hik, rfl, rfl, hv, HR3, HV⟩ := hrel
        by_cases hpos : 0 < i'
        · obtain ⟨i, rfl⟩ : ∃ i, i' = i + 1 := ⟨i' - 1, by omega⟩
          have ez : (((i + 1 : Nat) : Int) - 1) = (i : Int) := by omega
          rw [ez]
          clear ez
          have hi2 : (i : Int) < (k : Int) := by omega
          have g1 := HR3.out.cell i (by omega)
          have g4 : wr.cell? ⟨b1, o1 + i, none⟩ = some (.int .i64 (X i)) := by rw [HR3.out.below.cell hb1]; exact HX.out i (by omega)
          have n1 := (HF.out i (by omega)).1
          have n3 := HN.out i (by omega)
          have n6 : 0 ≤ (t + 31 - X i) % 31 ∧ (t + 31 - X i) % 31 ≤ 30 := by omega
          have n7 := prod_bd hv n6
          go_wp2
          go_quiet ((go_at_call 81; exact Calls.quiet_of_same (less_any _ _ ht n3 _)))
          go_wp2
          go_roundw
          case rel =>
            refine ⟨i, _, by omega, by go_num, rfl, by omega, HR3.out.drewN nq, ?_⟩
            show _ = _
            rw [show k - i = (k - (i + 1)) + 1 by omega]
            simp only [horn]
            rw [show k - (k - (i + 1) + 1) = i by omega, toF_mod, toF_add, toF_mul, toF_less, HV.out, (HF.out i (by omega)).2]
          case measure => simp only [intOf]; omega
        · have he : i' = 0 := by omega
          subst he
          go_wp2
          go_ret
          refine ⟨?_, HR3.out.below⟩
          have h1 := HV.out
          rw [Nat.sub_zero, horn_all] at h1
          rw [crv_of k X Y t v hv h1]
          rfl

end Go.Proofs.Ytfcpmpcfbhkacaa
