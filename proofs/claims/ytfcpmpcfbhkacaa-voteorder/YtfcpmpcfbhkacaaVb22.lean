/- Several texts of one proof, in their order. -/
import Derived.Test.YtfcpmpcfbhkacaaVb8
import Derived.Test.YtfcpmpcfbhkacaaVb21

/- What package curve answers: its own small functions, the weight of a point, Check and At, at whatever slices come in. -/
namespace Go.Proofs.Ytfcpmpcfbhkacaa

open Go.RowKit Go.Maps CurveMath
set_option linter.unusedVariables false

theorem keyed_int : Keyed Try.prog 3 := int_keyed Try.underlying3

theorem zero_int (w : World) : (zeroValue 3).run Try.prog w = .ok (.int .i64 0) w := by kernel_rfl

theorem look_has {X : Nat → Int} {k : Nat} {x c : Int} (hx : X k = x) (h : hasB X k x = true) (hat : (setX (H := Empty) (.lit (.int .i64 1)) X k).atKey (.int .i64 x) (.lit (.int .i64 0)) = .lit (.int .i64 c)) : c = 1 := by
  rw [atKey_setX, if_pos h] at hat
  injection hat with h1
  injection h1 with _ h2
  exact h2.symm

theorem look_not {X : Nat → Int} {k : Nat} {x c : Int} (hx : X k = x) (h : hasB X k x = false) (hat : (setX (H := Empty) (.lit (.int .i64 1)) X k).atKey (.int .i64 x) (.lit (.int .i64 0)) = .lit (.int .i64 c)) : c = 0 := by
  rw [atKey_setX, if_neg (by rw [h]; decide)] at hat
  injection hat with h1
  injection h1 with _ h2
  exact h2.symm

theorem look_put {D : DataW Empty} {x v c : Int} (hD : IsMap D) (hat : (D.put (.int .i64 x) (.lit (.int .i64 v))).atKey (.int .i64 x) (.lit (.int .i64 0)) = .lit (.int .i64 c)) : c = v := by
  rw [atKey_put_same hD (by simp [WideAt.IsKeyLit])] at hat
  injection hat with h1
  injection h1 with _ h2
  exact h2.symm

theorem cadd_ok (a b : Int) (ha : 0 ≤ a ∧ a ≤ 30) (hb : 0 ≤ b ∧ b ≤ 30) (w : World) :
    Calls Try.prog 77 #[.int .i64 a, .int .i64 b] w fun e w' => e = .returned (.int .i64 ((a + b) % 31)) ∧ w' = w := by
  go_enter Try.func77, Try.ntmps77
  go_wp2_with (go_at_call 97; go_must (refine (add_ok _ _ (by omega) (by omega) _).mono ?_; rintro e w' ⟨rfl, rfl⟩))
  go_ret
  exact ⟨rfl, rfl⟩

theorem cmul_ok (a b : Int) (ha : 0 ≤ a ∧ a ≤ 30) (hb : 0 ≤ b ∧ b ≤ 30) (w : World) :
    Calls Try.prog 78 #[.int .i64 a, .int .i64 b] w fun e w' => e = .returned (.int .i64 (a * b % 31)) ∧ w' = w := by
  go_enter Try.func78, Try.ntmps78
  go_wp2_with (go_at_call 98; go_must (refine (mul_ok _ _ (by omega) (by omega) _).mono ?_; rintro e w' ⟨rfl, rfl⟩))
  go_ret
  exact ⟨rfl, rfl⟩

theorem cdiv_ok (a b : Int) (ha : 0 ≤ a ∧ a ≤ 30) (hb : 1 ≤ b ∧ b ≤ 30) (w : World) :
    Calls Try.prog 99 #[.int .i64 a, .int .i64 b] w fun e w' => e = .returned (.int .i64 (dv a b)) ∧ w' = w := by
  go_enter Try.func99, Try.ntmps99
  go_wp2_with (go_at_call 107; go_must (refine (div_ok _ _ (by omega) (by omega) _).mono ?_; rintro e w' ⟨rfl, rfl⟩))
  go_ret
  exact ⟨rfl, rfl⟩

/-- a less b -/
def ls (a b : Int) : Int := (a + b * 30) % 31

theorem ls_bd (a b : Int) : 0 ≤ ls a b ∧ ls a b ≤ 30 := by unfold ls; omega

theorem ls_pos {a b : Int} (ha : 0 ≤ a ∧ a ≤ 30) (hb : 0 ≤ b ∧ b ≤ 30) (h : a ≠ b) : 1 ≤ ls a b ∧ ls a b ≤ 30 := by unfold ls; omega

theorem toF_ls (a b : Int) : toF (ls a b) = toF a - toF b := by
  have e : toF (ls a b) = toF (a - b) := toF_eq (by unfold ls; omega)
  rw [e, toF_sub]

theorem cless_ok (a b : Int) (ha : 0 ≤ a ∧ a ≤ 30) (hb : 0 ≤ b ∧ b ≤ 30) (w : World) :
    Calls Try.prog 100 #[.int .i64 a, .int .i64 b] w fun e w' => e = .returned (.int .i64 (ls a b)) ∧ w' = w := by
  unfold ls
  go_enter Try.func100, Try.ntmps100
  go_wp2_with (first
    | (go_at_call 78; go_must (refine (cmul_ok _ _ (by omega) (by omega) _).mono ?_; rintro e w' ⟨rfl, rfl⟩))
    | (go_at_call 77; go_must (refine (cadd_ok _ _ (by omega) (by omega) _).mono ?_; rintro e w' ⟨rfl, rfl⟩)))
  go_ret
  exact ⟨rfl, rfl⟩

theorem checkPoint_any (a b : Int) (w : World) :
    Calls Try.prog 96 #[.int .i64 a, .int .i64 b] w fun e w' => e = .returned (.int .i64 (if (isNum a && isNum b) = true then 0 else 2)) ∧ w' = w := by
  by_cases ha : 0 ≤ a ∧ a ≤ 30
  · have ea : isNum a = true := decide_eq_true ha
    by_cases hb : 0 ≤ b ∧ b ≤ 30
    · have eb : isNum b = true := decide_eq_true hb
      rw [ea, eb, if_pos (by rfl)]
      clear ea eb
      go_enter Try.func96, Try.ntmps96
      go_wp2_with (go_at_call 57; go_must (refine (check_ok _ (by assumption) _).mono ?_; rintro e w' ⟨rfl, rfl⟩))
      go_ret
      exact ⟨rfl, rfl⟩
    · have eb : isNum b = false := decide_eq_false hb
      rw [ea, eb, if_neg (by decide)]
      clear ea eb
      go_enter Try.func96, Try.ntmps96
      go_wp2_with (first
        | (go_at_call 57; (refine (check_ok _ (by assumption) _).mono ?_; rintro e w' ⟨rfl, rfl⟩))
        | (go_at_call 57; (refine (check_bad _ (by assumption) _).mono ?_; rintro e w' ⟨rfl, rfl⟩)))
      go_ret
      exact ⟨rfl, rfl⟩
  · have ea : isNum a = false := decide_eq_false ha
    rw [ea, Bool.false_and, if_neg (by decide)]
    clear ea
    go_enter Try.func96, Try.ntmps96
    go_wp2_with (go_at_call 57; go_must (refine (check_bad _ (by assumption) _).mono ?_; rintro e w' ⟨rfl, rfl⟩))
    go_ret
    exact ⟨rfl, rfl⟩

/-- the weight of point i at t over the first k points -/
def wt (X : Nat → Int) (i : Nat) (t : Int) : Nat → Int
  | 0 => 1
  | k + 1 => if k = i then wt X i t k else wt X i t k * dv (ls t (X k)) (ls (X i) (X k)) % 31

theorem wt_bd (X : Nat → Int) (i : Nat) (t : Int) (k : Nat) : 0 ≤ wt X i t k ∧ wt X i t k ≤ 30 := by
  induction k with
  | zero => simp only [wt]; omega
  | succ k ih =>
    simp only [wt]
    split
    · exact ih
    · omega

theorem toF_wt (X : Nat → Int) (i : Nat) (t : Int) (k : Nat) : toF (wt X i t k) = lb (fun j => toF (X j)) i (toF t) k := by
  induction k with
  | zero => simp only [wt, lb]; exact toF_one
  | succ k ih =>
    simp only [wt, lb]
    split
    · exact ih
    · rw [toF_mod, toF_mul, ih, toF_dv, toF_ls, toF_ls]

/-- the sum over the first m points -/
def sm (X Y : Nat → Int) (n : Nat) (t : Int) : Nat → Int
  | 0 => 0
  | m + 1 => (sm X Y n t m + Y m * wt X m t n % 31) % 31

theorem sm_bd (X Y : Nat → Int) (n : Nat) (t : Int) (m : Nat) : 0 ≤ sm X Y n t m ∧ sm X Y n t m ≤ 30 := by
  cases m with
  | zero => simp only [sm]; omega
  | succ m => simp only [sm]; omega

theorem toF_sm (X Y : Nat → Int) (n : Nat) (t : Int) (m : Nat) : toF (sm X Y n t m) = lag (fun j => toF (X j)) (fun j => toF (Y j)) n (toF t) m := by
  induction m with
  | zero => simp only [sm, lag]; exact toF_zero
  | succ m ih => simp only [sm, lag]; rw [toF_mod, toF_add, toF_mod, toF_mul, ih, toF_wt]

theorem sm_crv {n m : Nat} {X Y : Nat → Int} (h : Good n m X Y) (t : Int) : sm X Y n t n = crv n X Y t :=
  crv_of n X Y t _ (sm_bd X Y n t n) (by rw [toF_sm, lag_newt _ _ n h.injF]; rfl)

theorem weight_ok (b1 o1 c1 n i : Nat) (X : Nat → Int) (t : Int) (w : World) (hn : n ≤ 8) (hi : i < n)
    (hX : ∀ j, j < n → 0 ≤ X j ∧ X j ≤ 30) (ht : 0 ≤ t ∧ t ≤ 30) (hinj : ∀ i j, i < n → j < n → X i = X j → i = j)
    (hx : ∀ j, j < n → w.cell? ⟨b1, o1 + j, none⟩ = some (.int .i64 (X j))) :
    Calls Try.prog 79 #[.slice (some ⟨b1, o1, none⟩) n c1, .int .i64 i, .int .i64 t] w fun e w' => e = .returned (.int .i64 (wt X i t n)) ∧ ∃ m, w' = w.drewN m := by
  have HX : Hid (∀ j, j < n → w.cell? ⟨b1, o1 + j, none⟩ = some (.int .i64 (X j))) := hx
  have HN : Hid (∀ j, j < n → 0 ≤ X j ∧ X j ≤ 30) := hX
  have HI : Hid (∀ i j, i < n → j < n → X i = X j → i = j) := hinj
  clear hx hX hinj
  have hii : (i : Int) < (n : Int) := by omega
  go_enter Try.func79, Try.ntmps79
  go_wp2
  go_loopw [7, 11] (fun v j wr => ∃ k m : Nat, k ≤ n ∧ j = .int .i64 k ∧ v = .int .i64 (wt X i t k) ∧ wr = w.drewN m) (fun _ j _ => n - (intOf j).toNat)
  case atStart => exact ⟨0, 0, Nat.zero_le _, rfl, rfl, rfl⟩
  case round =>
    obtain ⟨k, m, hk, rfl, rfl, hwr⟩ := hrel
    have HX : Hid (∀ j, j < n → wr.cell? ⟨b1, o1 + j, none⟩ = some (.int .i64 (X j))) := fun j hj => by rw [hwr]; exact HX.out j hj
    have HW : Hid (wr = w.drewN m) := hwr
    clear hwr
    by_cases hlt : k < n
    · have hki : (k : Int) < (n : Int) := by omega
      by_cases hke : k = i
      · have hne : ((k : Int) != (i : Int)) = false := by simp [hke]
        have HK : Hid (k = i) := hke
        clear hke
        go_wp2
        go_roundw
        case rel => exact ⟨k + 1, m, by omega, by go_num, by simp only [wt]; rw [if_pos HK.out], HW.out⟩
        case measure => simp only [intOf]; omega
      · have hne : ((k : Int) != (i : Int)) = true := by simp; omega
        have HK : Hid (¬ k = i) := hke
        have g1 := HX.out k hlt
        have g2 := HX.out i hi
        have n1 := HN.out k hlt
        have n2 := HN.out i hi
        have n3 := ls_bd t (X k)
        have n4 := ls_pos n2 n1 (fun e => HK.out (HI.out i k hi hlt e).symm)
        have n5 := dv_bd (ls t (X k)) (ls (X i) (X k))
        have n6 := wt_bd X i t k
        clear hke
        go_wp2
        go_quiet ((first
          | (go_at_call 100; exact Calls.quiet_of_same (cless_ok _ _ (by first | exact ht | exact n2) n1 _))
          | (go_at_call 99; exact Calls.quiet_of_same (cdiv_ok _ _ n3 n4 _))
          | (go_at_call 78; exact Calls.quiet_of_same (cmul_ok _ _ n6 n5 _))))
        go_wp2
        go_roundw
        case rel => exact ⟨k + 1, m + nq, by omega, by go_num, by simp only [wt]; rw [if_neg HK.out], by rw [HW.out]; simp⟩
        case measure => simp only [intOf]; omega
    · have he : k = n := by omega
      subst he
      go_wp2
      go_ret
      exact ⟨rfl, m, HW.out⟩

/-- Check, where the slices are as long and not too long -/
theorem check_in (b1 o1 c1 b2 o2 c2 n : Nat) (X Y : Nat → Int) (hn : 1 ≤ n ∧ n ≤ 8) (w : World)
    (hx : ∀ j, j < n → w.cell? ⟨b1, o1 + j, none⟩ = some (.int .i64 (X j))) (hb1 : b1 < w.heap.size)
    (hy : ∀ j, j < n → w.cell? ⟨b2, o2 + j, none⟩ = some (.int .i64 (Y j))) (hb2 : b2 < w.heap.size) :
    Calls Try.prog 76 #[.slice (some ⟨b1, o1, none⟩) n c1, .slice (some ⟨b2, o2, none⟩) n c2] w fun e w' => e = .returned (.int .i64 (scan X Y n 0)) ∧ Below w.heap.size w w' := by
  have HX : Hid (∀ j, j < n → w.cell? ⟨b1, o1 + j, none⟩ = some (.int .i64 (X j))) := hx
  have HY : Hid (∀ j, j < n → w.cell? ⟨b2, o2 + j, none⟩ = some (.int .i64 (Y j))) := hy
  clear hx hy
  have hmm := @run_makeMap Try.prog
  go_enter Try.func76, Try.ntmps76
  go_wp2
  go_loopw [24] (fun i wr => ∃ k : Nat, k ≤ n ∧ i = .int .i64 k ∧ Hid (wr.ownsMap Try.prog 3 (plainElem Try.prog 3) w.heap.size k (setX (H := Empty) (.lit (.int .i64 1)) X k)) ∧ Hid (Below w.heap.size w wr) ∧ Hid (scan X Y (n - k) k = scan X Y n 0)) (fun i _ => n - (intOf i).toNat)
  case atStart => exact ⟨0, Nat.zero_le _, rfl, World.ownsMap_made _ _ _ _, (Below.refl _ _).alloc (Nat.le_refl _) _, rfl⟩
  case round =>
    obtain ⟨k, hk, rfl, HO, HB, HF⟩ := hrel
    by_cases hlt : k < n
    · have gx : wr.cell? ⟨b1, o1 + k, none⟩ = some (.int .i64 (X k)) := (HB.out.cell hb1).trans (HX.out k hlt)
      have gy : wr.cell? ⟨b2, o2 + k, none⟩ = some (.int .i64 (Y k)) := (HB.out.cell hb2).trans (HY.out k hlt)
      have hi : (k : Int) < (n : Int) := by omega
      obtain ⟨x, hx⟩ : ∃ x, X k = x := ⟨_, rfl⟩
      obtain ⟨y, hy⟩ : ∃ y, Y k = y := ⟨_, rfl⟩
      rw [hx] at gx
      rw [hy] at gy
      have Hx : Hid (X k = x) := hx
      have Hy : Hid (Y k = y) := hy
      clear hx hy
      cases h1 : (isNum x && isNum y) with
      | false =>
        have HC : Hid (∀ w : World, Calls Try.prog 96 #[.int .i64 x, .int .i64 y] w fun e w' => e = .returned (.int .i64 2) ∧ w' = w) := fun w => by
          have := checkPoint_any x y w
          rw [h1] at this
          exact this
        go_wp2
        go_quiet ((go_at_call 96; exact Calls.quiet_of_same (HC.out _)))
        go_wp2
        go_ret
        exact ⟨by rw [scan_bad hlt HF.out (by rw [Hx.out, Hy.out, h1])]; rfl, HB.out.trans ⟨rfl, rfl, rfl, Nat.le_refl _, fun _ _ => rfl⟩⟩
      | true =>
        have HC : Hid (∀ w : World, Calls Try.prog 96 #[.int .i64 x, .int .i64 y] w fun e w' => e = .returned (.int .i64 0) ∧ w' = w) := fun w => by
          have := checkPoint_any x y w
          rw [h1] at this
          exact this
        have hxn : 0 ≤ x ∧ x ≤ 30 := (isNum_iff x).1 (Bool.and_eq_true _ _ ▸ h1).1
        have hkey : keyOf Try.prog 3 (.int .i64 x) = some (.int .i64 x) := keyOf_int_mk Try.underlying3 (WalkArith.wf_i64 (by omega))
        have HK : Hid (keyOf Try.prog 3 (.int .i64 x) = some (.int .i64 x)) := hkey
        clear hkey
        go_wp2
        go_quiet ((go_at_call 96; exact Calls.quiet_of_same (HC.out _)))
        have HO2 : Hid ((wr.drewN nq).ownsMap Try.prog 3 (plainElem Try.prog 3) w.heap.size k (setX (H := Empty) (.lit (.int .i64 1)) X k)) := HO
        have HBq : Hid (Below w.heap.size w (wr.drewN nq)) := HB.out.trans ⟨rfl, rfl, rfl, Nat.le_refl _, fun _ _ => rfl⟩
        have HX2 : Hid (w.cell? ⟨b1, o1 + k, none⟩ = some (.int .i64 x)) := by
          show _ = _
          rw [← Hx.out]
          exact HX.out k hlt
        cases h3 : hasB X k x with
        | true =>
          go_wp2_with (first
            | (at_lookup; refine wpList_lookup_own_int _ rfl _ _ 86 rfl 3 3 .i64 keyed_int Try.underlying86 Try.underlying3 (zero_int _) w.heap.size (k + 1) _ rfl HO3.out _ _ rfl HK.out ?_; intro c hat hwc; obtain rfl := look_put (isMap_setX _ X k) hat; clear hat hwc)
            | (at_lookup; refine wpList_lookup_own_int _ rfl _ _ 86 rfl 3 3 .i64 keyed_int Try.underlying86 Try.underlying3 (zero_int _) w.heap.size k _ rfl HO2.out _ _ rfl HK.out ?_; intro c hat hwc; obtain rfl := look_has Hx.out h3 hat; clear hat hwc)
            | (at_mapUpdate; refine wpList_mapUpdate_own _ rfl _ _ _ 86 rfl 3 3 keyed_int Try.underlying86 _ w.heap.size k _ rfl HO2.out (by unfold maxLen; omega) _ _ _ rfl rfl HK.out _ [] (plainElem_int Try.underlying3 (by first | exact wrap64_wf _ | exact WalkArith.wf_i64 (by omega))) ?_; intro w1 hown1 hgrow1; have HO3 := hid hown1; have hB1 : Below w.heap.size w w1 := HBq.out.grown hgrow1 HBq.out.size (fun j hj => by cases hj; exact Nat.le_refl _); have gx1 : w1.cell? ⟨b1, o1 + k, none⟩ = some (.int .i64 x) := (hB1.cell hb1).trans HX2.out; have HB1 := hid hB1; clear hB1; clear hown1 hgrow1))
          go_ret
          exact ⟨by rw [scan_dup hlt HF.out (by rw [Hx.out, Hy.out, h1]) (by rw [Hx.out]; exact h3)]; rfl, HB1.out⟩
        | false =>
          go_wp2_with (first
            | (at_lookup; refine wpList_lookup_own_int _ rfl _ _ 86 rfl 3 3 .i64 keyed_int Try.underlying86 Try.underlying3 (zero_int _) w.heap.size (k + 1) _ rfl HO3.out _ _ rfl HK.out ?_; intro c hat hwc; obtain rfl := look_put (isMap_setX _ X k) hat; clear hat hwc)
            | (at_lookup; refine wpList_lookup_own_int _ rfl _ _ 86 rfl 3 3 .i64 keyed_int Try.underlying86 Try.underlying3 (zero_int _) w.heap.size k _ rfl HO2.out _ _ rfl HK.out ?_; intro c hat hwc; obtain rfl := look_not Hx.out h3 hat; clear hat hwc)
            | (at_mapUpdate; refine wpList_mapUpdate_own _ rfl _ _ _ 86 rfl 3 3 keyed_int Try.underlying86 _ w.heap.size k _ rfl HO2.out (by unfold maxLen; omega) _ _ _ rfl rfl HK.out _ [] (plainElem_int Try.underlying3 (by first | exact wrap64_wf _ | exact WalkArith.wf_i64 (by omega))) ?_; intro w1 hown1 hgrow1; have HO3 := hid hown1; have hB1 : Below w.heap.size w w1 := HBq.out.grown hgrow1 HBq.out.size (fun j hj => by cases hj; exact Nat.le_refl _); have gx1 : w1.cell? ⟨b1, o1 + k, none⟩ = some (.int .i64 x) := (hB1.cell hb1).trans HX2.out; have HB1 := hid hB1; clear hB1; clear hown1 hgrow1))
          go_roundw
          case rel => exact ⟨k + 1, by omega, by go_num, by show World.ownsMap _ _ _ _ _ _ _; rw [setX_succ, Hx.out]; exact HO3.out, HB1, scan_next hlt HF.out (by rw [Hx.out, Hy.out, h1]) (by rw [Hx.out]; exact h3)⟩
          case measure => simp only [intOf]; omega
    · have he : k = n := by omega
      subst he
      go_wp2
      go_ret
      have h1 := HF.out
      rw [Nat.sub_self] at h1
      exact ⟨by rw [← h1]; rfl, HB.out⟩

theorem check_form (a1 a2 : Option Addr) (n1 n2 c1 c2 : Nat) (h : n1 ≠ n2) (h1 : n1 * 8 ≤ 140737488351232) (h2 : n2 * 8 ≤ 140737488351232) (w : World) :
    Calls Try.prog 76 #[.slice a1 n1 c1, .slice a2 n2 c2] w fun e w' => e = .returned (.int .i64 3) ∧ w' = w := by
  have hb : ((n1 : Int) != (n2 : Int)) = true := by simp; omega
  go_enter Try.func76, Try.ntmps76
  go_wp2
  go_ret
  exact ⟨rfl, rfl⟩

theorem check_many (a1 a2 : Option Addr) (n c1 c2 : Nat) (h : ¬ (1 ≤ n ∧ n ≤ 8)) (h1 : n * 8 ≤ 140737488351232) (w : World) :
    Calls Try.prog 76 #[.slice a1 n c1, .slice a2 n c2] w fun e w' => e = .returned (.int .i64 1) ∧ w' = w := by
  by_cases h0 : n = 0
  · subst h0
    go_enter Try.func76, Try.ntmps76
    go_wp2
    go_ret
    exact ⟨rfl, rfl⟩
  · have h9 : 9 ≤ n := by omega
    have hd : decide (8 < (n : Int)) = true := decide_eq_true (by omega)
    clear h
    go_enter Try.func76, Try.ntmps76
    go_wp2
    go_ret
    exact ⟨rfl, rfl⟩

theorem check_spec : CheckSpec := by
  intro v1 v2 n1 n2 X Y w h1 h2
  obtain ⟨a1, c1, rfl, ⟨hc1, hr1⟩, hx⟩ := h1
  obtain ⟨a2, c2, rfl, ⟨hc2, hr2⟩, hy⟩ := h2
  unfold chk
  by_cases hn : n1 = n2
  · subst hn
    rw [if_neg (by omega)]
    by_cases h8 : 1 ≤ n1 ∧ n1 ≤ 8
    · rw [if_pos h8]
      rcases hx with h0 | ⟨b1, o1, rfl, hb1, hx⟩
      · omega
      rcases hy with h0 | ⟨b2, o2, rfl, hb2, hy⟩
      · omega
      exact check_in b1 o1 c1 b2 o2 c2 n1 X Y h8 w hx hb1 hy hb2
    · rw [if_neg h8]
      refine (check_many a1 a2 n1 c1 c2 h8 hr1 w).mono fun e w' ⟨he, hw⟩ => ⟨he, ?_⟩
      rw [hw]
      exact Below.refl _ _
  · rw [if_pos hn]
    refine (check_form a1 a2 n1 n2 c1 c2 hn hr1 hr2 w).mono fun e w' ⟨he, hw⟩ => ⟨he, ?_⟩
    rw [hw]
    exact Below.refl _ _

/-- At, where Check has an error -/
theorem at_err (v1 v2 : Value) (n1 n2 : Nat) (X Y : Nat → Int) (t : Int) (w : World) (h1 : IntSl w w.heap.size v1 n1 X) (h2 : IntSl w w.heap.size v2 n2 Y) (hc : chk n1 n2 X Y ≠ 0) :
    Calls Try.prog 59 #[v1, v2, .int .i64 t] w fun e w' => e = .returned (.tuple #[.int .i64 0, .int .i64 (chk n1 n2 X Y)]) ∧ Below w.heap.size w w' := by
  have HC : Hid (Calls Try.prog 76 #[v1, v2] w fun e w' => e = .returned (.int .i64 (chk n1 n2 X Y)) ∧ Below w.heap.size w w') := check_spec v1 v2 n1 n2 X Y w h1 h2
  clear h1 h2
  generalize chk n1 n2 X Y = c at *
  have hb : (c != 0) = true := by simpa using hc
  clear hc
  go_enter Try.func59, Try.ntmps59
  go_wp2_with (go_at_call 76; go_must (refine HC.out.mono ?_; rintro e w1 ⟨rfl, hw1⟩; have HB := hid hw1; clear hw1))
  go_ret2
  exact ⟨rfl, HB.out⟩

/-- At, where the place is no number -/
theorem at_place (v1 v2 : Value) (n1 n2 : Nat) (X Y : Nat → Int) (t : Int) (w : World) (h1 : IntSl w w.heap.size v1 n1 X) (h2 : IntSl w w.heap.size v2 n2 Y) (hc : chk n1 n2 X Y = 0) (ht : ¬ (0 ≤ t ∧ t ≤ 30)) :
    Calls Try.prog 59 #[v1, v2, .int .i64 t] w fun e w' => e = .returned (.tuple #[.int .i64 0, .int .i64 2]) ∧ Below w.heap.size w w' := by
  have hk := check_spec v1 v2 n1 n2 X Y w h1 h2
  rw [hc] at hk
  have HC : Hid (Calls Try.prog 76 #[v1, v2] w fun e w' => e = .returned (.int .i64 0) ∧ Below w.heap.size w w') := hk
  clear h1 h2 hk hc
  go_enter Try.func59, Try.ntmps59
  go_wp2_with (first
    | (go_at_call 76; go_must (refine HC.out.mono ?_; rintro e w1 ⟨rfl, hw1⟩; have HB := hid hw1; clear hw1))
    | (go_at_call 57; go_must (refine (check_bad _ ht _).mono ?_; rintro e w2 ⟨rfl, hw2⟩; subst w2)))
  go_ret2
  exact ⟨rfl, HB.out⟩

/-- At, where all is in order -/
theorem at_good (b1 o1 c1 b2 o2 c2 n : Nat) (X Y : Nat → Int) (t : Int) (w : World) (hg : Good n n X Y) (ht : 0 ≤ t ∧ t ≤ 30) (hb1 : b1 < w.heap.size) (hb2 : b2 < w.heap.size)
    (hx : ∀ j, j < n → w.cell? ⟨b1, o1 + j, none⟩ = some (.int .i64 (X j))) (hy : ∀ j, j < n → w.cell? ⟨b2, o2 + j, none⟩ = some (.int .i64 (Y j)))
    (hk : Calls Try.prog 76 #[.slice (some ⟨b1, o1, none⟩) n c1, .slice (some ⟨b2, o2, none⟩) n c2] w fun e w' => e = .returned (.int .i64 0) ∧ Below w.heap.size w w') :
    Calls Try.prog 59 #[.slice (some ⟨b1, o1, none⟩) n c1, .slice (some ⟨b2, o2, none⟩) n c2, .int .i64 t] w fun e w' => e = .returned (.tuple #[.int .i64 (sm X Y n t n), .int .i64 0]) ∧ Below w.heap.size w w' := by
  have HX : Hid (∀ j, j < n → w.cell? ⟨b1, o1 + j, none⟩ = some (.int .i64 (X j))) := hx
  have HY : Hid (∀ j, j < n → w.cell? ⟨b2, o2 + j, none⟩ = some (.int .i64 (Y j))) := hy
  have HC : Hid (Calls Try.prog 76 #[.slice (some ⟨b1, o1, none⟩) n c1, .slice (some ⟨b2, o2, none⟩) n c2] w fun e w' => e = .returned (.int .i64 0) ∧ Below w.heap.size w w') := hk
  have HGd : Hid (Good n n X Y) := hg
  have hn := hg.len
  clear hx hy hk hg
  go_enter Try.func59, Try.ntmps59
  go_wp2_with (first
    | (go_at_call 76; go_must (refine HC.out.mono ?_; rintro e w1 ⟨rfl, hw1⟩; have HB := hid hw1; clear hw1))
    | (go_at_call 57; go_must (refine (check_ok _ ht _).mono ?_; rintro e w2 ⟨rfl, hw2⟩; subst w2)))
  go_loopw [10, 25] (fun v i wr => ∃ k : Nat, k ≤ n ∧ i = .int .i64 k ∧ v = .int .i64 (sm X Y n t k) ∧ Hid (Below w.heap.size w wr)) (fun _ i _ => n - (intOf i).toNat)
  case atStart => exact ⟨0, Nat.zero_le _, rfl, rfl, HB⟩
  case round =>
    obtain ⟨k, hk, rfl, rfl, HR⟩ := hrel
    by_cases hlt : k < n
    · have hki : (k : Int) < (n : Int) := by omega
      have HX2 : Hid (∀ j, j < n → wr.cell? ⟨b1, o1 + j, none⟩ = some (.int .i64 (X j))) := fun j hj => (HR.out.cell hb1).trans (HX.out j hj)
      have gy : wr.cell? ⟨b2, o2 + k, none⟩ = some (.int .i64 (Y k)) := (HR.out.cell hb2).trans (HY.out k hlt)
      have n1 := HGd.out.ys k hlt
      have n2 := wt_bd X k t n
      have n3 := sm_bd X Y n t k
      go_wp2
      go_quiet ((first
        | (go_at_call 79; exact Calls.quiet_of (weight_ok _ _ _ _ _ X _ _ hn.2 hlt HGd.out.xs ht HGd.out.inj HX2.out))
        | (go_at_call 78; exact Calls.quiet_of_same (cmul_ok _ _ n1 n2 _))
        | (go_at_call 77; exact Calls.quiet_of_same (cadd_ok _ _ n3 (by omega) _))))
      go_wp2
      go_roundw
      case rel => exact ⟨k + 1, by omega, by go_num, rfl, HR.out.trans ⟨rfl, rfl, rfl, Nat.le_refl _, fun _ _ => rfl⟩⟩
      case measure => simp only [intOf]; omega
    · have he : k = n := by omega
      subst he
      go_wp2
      go_ret2
      exact ⟨rfl, HR.out⟩

theorem at_spec : AtSpec := by
  intro v1 v2 n1 n2 X Y t w h1 h2
  unfold atV atE
  by_cases hc : chk n1 n2 X Y = 0
  · rw [if_pos hc]
    by_cases ht : isNum t = true
    · rw [if_pos ht, if_pos rfl]
      have hg := chk_ok hc
      have hs := hg.same
      subst hs
      have hk := check_spec v1 v2 n1 n1 X Y w h1 h2
      rw [hc] at hk
      obtain ⟨a1, c1, rfl, ⟨hc1, hr1⟩, hx⟩ := h1
      obtain ⟨a2, c2, rfl, ⟨hc2, hr2⟩, hy⟩ := h2
      have hl := hg.len
      rcases hx with h0 | ⟨b1, o1, rfl, hb1, hx⟩
      · omega
      rcases hy with h0 | ⟨b2, o2, rfl, hb2, hy⟩
      · omega
      rw [← sm_crv hg t]
      exact at_good b1 o1 c1 b2 o2 c2 n1 X Y t w hg ((isNum_iff t).1 ht) hb1 hb2 hx hy hk
    · rw [if_neg ht, if_neg (by decide)]
      exact at_place v1 v2 n1 n2 X Y t w h1 h2 hc (fun h => ht ((isNum_iff t).2 h))
  · rw [if_neg hc, if_neg hc]
    exact at_err v1 v2 n1 n2 X Y t w h1 h2 hc

end Go.Proofs.Ytfcpmpcfbhkacaa
