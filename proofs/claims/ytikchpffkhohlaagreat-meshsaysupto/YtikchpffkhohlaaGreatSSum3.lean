/- Several texts of one proof, in their order. -/
import Derived.Test.YtikchpffkhohlaaGreatSSum2
import Derived.Maps.AppendAt

namespace Go.Proofs.YtikchpffkhohlaaGreat
open Go.RowKit
set_option linter.unusedVariables false
def numsB (n : Nat) (X : Nat → Int) : Bool := decide (∀ j, j < n → isNum (X j) = true)
def oneE (nd of sz N : Int) (L : Nat) (X : Nat → Int) : Int :=
 if planOk nd of sz = true then (if 0 ≤ N ∧ N < of then (if (L : Int) = rowsN nd sz then (if numsB L X = true then 0 else 2) else 3) else 4) else 2
def sameB (N1 N2 : Int) (n m : Nat) (X Y : Nat → Int) : Bool := decide (N1 = N2) && eqB n m X Y
theorem rowsN_uniq {d n r : Nat} (hd : 1 ≤ d ∧ d ≤ 4) (h1 : n ≤ r * d) (h2 : r * d < n + d) : rowsN (d : Int) (n : Int) = r := by
 unfold rowsN
 rcases (show d = 1 ∨ d = 2 ∨ d = 3 ∨ d = 4 by omega) with rfl | rfl | rfl | rfl <;> omega
theorem rowsOf_any (nd of sz : Int) (w : World) : Calls Tryz.prog 95 #[planV nd of sz] w fun e w' => e = .returned (.int .i64 (longP nd of sz)) ∧ Below w.heap.size w w' := by
 have hbx := below_alloc w (.cells #[.int .i64 nd, .int .i64 of, .int .i64 sz] 30)
 have HC := hid (checkPlan_any nd of sz (w.alloc (.cells #[.int .i64 nd, .int .i64 of, .int .i64 sz] 30)))
 unfold longP
 by_cases hp : planOk nd of sz = true
 ·have e : chkP nd of sz = 0 := by unfold chkP; rw [if_pos hp]
  rw [if_pos hp]
  rw [e] at HC
  obtain ⟨hnd, hof, hsz⟩ := planOk_spec hp
  obtain ⟨d, rfl⟩ : ∃ d : Nat, nd = d := ⟨nd.toNat, by omega⟩
  obtain ⟨n, rfl⟩ : ∃ n : Nat, sz = n := ⟨sz.toNat, by omega⟩
  have HBx := hid hbx
  clear hp e hbx
  unfold planV
  go_enter Tryz.func95, Tryz.ntmps95
  go_wp2_with fail
  refine HC.out.mono ?_
  rintro e w1 ⟨rfl, hb1⟩
  have p0 : w1.cell? ⟨w.heap.size, 0, none⟩ = some (.int .i64 (d : Int)) := by rw [hb1.cell (by simp)]; exact cell_at (heap_alloc_new _ _) rfl
  have p2 : w1.cell? ⟨w.heap.size, 2, none⟩ = some (.int .i64 (n : Int)) := by rw [hb1.cell (by simp)]; exact cell_at (heap_alloc_new _ _) rfl
  have HB1 := hid (HBx.out.trans (hb1.mono HBx.out.size))
  clear hb1
  go_wp2
  go_loop [3, 4] (fun a b => ∃ r h : Nat, a = .int .i64 r ∧ b = .int .i64 h ∧ Hid (h = r * d) ∧ h < n + d ∧ r ≤ h) (fun _ b => n + d - (intOf b).toNat)
  case atStart => exact ⟨0, 0, rfl, rfl, by show 0 = 0 * d; omega, by omega, by omega⟩
  case round =>
   obtain ⟨r, h, rfl, rfl, HH, hlt, hrh⟩ := hrel
   by_cases hgo : h < n
   ·have hgi : (h : Int) < (n : Int) := by omega
    go_wp2
    go_round
    case rel => exact ⟨r + 1, h + d, by go_num, by go_num, by show h + d = (r + 1) * d; rw [Nat.add_mul, Nat.one_mul, HH.out], by omega, by omega⟩
    case measure => simp only [intOf]; omega
   ·have hgi : (n : Int) ≤ (h : Int) := by omega
    go_wp2
    go_ret
    refine ⟨?_, HB1.out⟩
    rw [rowsN_uniq (r := r) (by omega) (by rw [← HH.out]; omega) (by rw [← HH.out]; omega)]
    rfl
 ·have e : chkP nd of sz = 2 := by unfold chkP; rw [if_neg hp]
  rw [if_neg hp]
  rw [e] at HC
  have HBx := hid hbx
  clear hp e hbx
  unfold planV
  go_enter Tryz.func95, Tryz.ntmps95
  go_wp2_with (go_at_call 100; go_must (refine HC.out.mono ?_; rintro e w1 ⟨rfl, hb1⟩; have HB1 := hid (HBx.out.trans (hb1.mono HBx.out.size)); clear hb1))
  go_ret
  exact ⟨rfl, HB1.out⟩
theorem sameShare_any (N1 N2 : Int) (V1 V2 : Value) (n m : Nat) (X Y : Nat → Int) (w : World) (h1 : IntSl w w.heap.size V1 n X) (h2 : IntSl w w.heap.size V2 m Y) :
  Calls Tryz.prog 47 #[shareV N1 V1, shareV N2 V2] w fun e w' => e = .returned (.bool (sameB N1 N2 n m X Y)) ∧ Below w.heap.size w w' := by
 have hb := ((Below.refl w.heap.size w).alloc (Nat.le_refl _) (.cells #[.int .i64 N1, V1] 53)).alloc (by simp) (.cells #[.int .i64 N2, V2] 53)
 have HE := hid (equal_isl (h1.up hb) (h2.up hb))
 have HB := hid hb
 obtain ⟨a1, c1, rfl, _, _⟩ := h1
 obtain ⟨a2, c2, rfl, _, _⟩ := h2
 clear hb
 unfold shareV sameB
 by_cases hn : N1 = N2
 ·subst hn
  rw [decide_eq_true rfl, Bool.true_and]
  go_enter Tryz.func47, Tryz.ntmps47
  go_wp2_with (go_at_call 23; go_must (refine HE.out.mono ?_; rintro e w1 ⟨rfl, q, hq⟩; have HQ := hid hq; clear hq))
  go_ret
  refine ⟨rfl, ?_⟩
  rw [HQ.out]
  exact HB.out.trans ⟨rfl, rfl, rfl, Nat.le_refl _, fun _ _ => rfl⟩
 ·rw [decide_eq_false hn, Bool.false_and]
  have he : (N1 == N2) = false := by simpa using hn
  clear hn
  go_enter Tryz.func47, Tryz.ntmps47
  go_wp2
  go_ret
  exact ⟨rfl, HB.out⟩
def numsFrom (X : Nat → Int) (n k : Nat) : Bool := decide (∀ j, j < n → k ≤ j → isNum (X j) = true)
theorem numsFrom_zero (X : Nat → Int) (n : Nat) : numsFrom X n 0 = numsB n X := by
 unfold numsFrom numsB
 rw [decide_eq_decide]
 exact ⟨fun h j hj => h j hj (Nat.zero_le _), fun h j hj _ => h j hj⟩
theorem numsFrom_bad {X : Nat → Int} {n k : Nat} {b : Bool} (hk : k < n) (h : numsFrom X n k = b) (hb : isNum (X k) = false) : b = false := by
 rw [← h]
 refine decide_eq_false fun h1 => ?_
 have := h1 k hk (Nat.le_refl _)
 rw [hb] at this
 cases this
theorem numsFrom_next {X : Nat → Int} {n k : Nat} {b : Bool} (h : numsFrom X n k = b) (hb : isNum (X k) = true) : numsFrom X n (k + 1) = b := by
 rw [← h]
 unfold numsFrom
 rw [decide_eq_decide]
 constructor
 ·intro h1 j hjn hj
  by_cases e : j = k
  ·rw [e]; exact hb
  ·exact h1 j hjn (by omega)
 ·intro h1 j hjn hj
  exact h1 j hjn (by omega)
theorem numsFrom_end {X : Nat → Int} {n : Nat} {b : Bool} (h : numsFrom X n n = b) : b = true := by
 rw [← h]
 exact decide_eq_true fun j h1 h2 => by omega
set_option maxHeartbeats 1000000 in
theorem checkShare_any (nd of sz N : Int) (V : Value) (L : Nat) (X : Nat → Int) (w : World) (h : IntSl w w.heap.size V L X) :
  Calls Tryz.prog 139 #[planV nd of sz, shareV N V] w fun e w' => e = .returned (.int .i64 (oneE nd of sz N L X)) ∧ Below w.heap.size w w' := by
 obtain ⟨W, hW⟩ : ∃ W, (w.alloc (.cells #[.int .i64 nd, .int .i64 of, .int .i64 sz] 30)).alloc (.cells #[.int .i64 N, V] 53) = W := ⟨_, rfl⟩
 have hb : Below w.heap.size w W := by rw [← hW]; exact ((Below.refl w.heap.size w).alloc (Nat.le_refl _) _).alloc (by simp) _
 have p0 : W.cell? ⟨w.heap.size, 0, none⟩ = some (.int .i64 nd) := by rw [← hW]; exact cell_at (heap_two_old w _ _) rfl
 have p1 : W.cell? ⟨w.heap.size, 1, none⟩ = some (.int .i64 of) := by rw [← hW]; exact cell_at (heap_two_old w _ _) rfl
 have p2 : W.cell? ⟨w.heap.size, 2, none⟩ = some (.int .i64 sz) := by rw [← hW]; exact cell_at (heap_two_old w _ _) rfl
 have s0 : W.cell? ⟨w.heap.size + 1, 0, none⟩ = some (.int .i64 N) := by rw [← hW]; exact cell_at (heap_two_new w _ _) rfl
 have s1 : W.cell? ⟨w.heap.size + 1, 1, none⟩ = some V := by rw [← hW]; exact cell_at (heap_two_new w _ _) rfl
 have KP : Hid (∀ w', Below W.heap.size W w' → (w'.cell? ⟨w.heap.size, 0, none⟩ = some (.int .i64 nd) ∧ w'.cell? ⟨w.heap.size, 1, none⟩ = some (.int .i64 of) ∧ w'.cell? ⟨w.heap.size, 2, none⟩ = some (.int .i64 sz)) ∧ w'.cell? ⟨w.heap.size + 1, 0, none⟩ = some (.int .i64 N) ∧ w'.cell? ⟨w.heap.size + 1, 1, none⟩ = some V) := fun w' hb' =>
  ⟨⟨by rw [hb'.cell (cell_lt p0)]; exact p0, by rw [hb'.cell (cell_lt p1)]; exact p1, by rw [hb'.cell (cell_lt p2)]; exact p2⟩, by rw [hb'.cell (cell_lt s0)]; exact s0, by rw [hb'.cell (cell_lt s1)]; exact s1⟩
 have HI := hid (h.up hb)
 obtain ⟨a1, c1, hv, ⟨hcap, hbig⟩, _⟩ := h
 subst hv
 have HC := hid (checkPlan_any nd of sz W)
 have HRo := hid (rowsOf_any nd of sz)
 unfold planV shareV
 obtain ⟨ans, hans⟩ : ∃ a, oneE nd of sz N L X = a := ⟨_, rfl⟩
 rw [hans]
 unfold oneE at hans
 by_cases hp : planOk nd of sz = true
 ·have e : chkP nd of sz = 0 := by unfold chkP; rw [if_pos hp]
  have e2 : longP nd of sz = rowsN nd sz := by unfold longP; rw [if_pos hp]
  rw [if_pos hp] at hans
  rw [e] at HC
  simp only [e2] at HRo
  have hrw := rowsN_bd (planOk_spec hp).1 (planOk_spec hp).2.2
  have hRb : rowsN nd sz ≤ 24 := hrw.2.2.2.1
  generalize rowsN nd sz = R at *
  have HBW := hid hb
  have HPl := hid (planOk_spec hp)
  clear hp e e2 hrw hb
  by_cases hN : 0 ≤ N ∧ N < of
  ·rw [if_pos hN] at hans
   have HA := hid hans
   clear hans
   go_enter Tryz.func139, Tryz.ntmps139
   go_wp2_with (go_at_call 100; go_must (refine HC.out.mono ?_; rintro e w1 ⟨rfl, hb1⟩; obtain ⟨⟨p0, p1, p2⟩, s0, s1⟩ := KP.out w1 hb1; have HB1 := hid hb1; clear hb1))
   have hne : Nonempty (Of (Below W.heap.size W)) := ⟨⟨W, Below.refl _ _⟩⟩
   have F0 : ∀ u : Of (Below W.heap.size W), u.val.cell? ⟨w.heap.size, 0, none⟩ = some (.int .i64 nd) := fun u => (KP.out u.val u.is).1.1
   have F1 : ∀ u : Of (Below W.heap.size W), u.val.cell? ⟨w.heap.size, 1, none⟩ = some (.int .i64 of) := fun u => (KP.out u.val u.is).1.2.1
   have F2 : ∀ u : Of (Below W.heap.size W), u.val.cell? ⟨w.heap.size, 2, none⟩ = some (.int .i64 sz) := fun u => (KP.out u.val u.is).1.2.2
   have F4 : ∀ u : Of (Below W.heap.size W), u.val.cell? ⟨w.heap.size + 1, 1, none⟩ = some (.slice a1 L c1) := fun u => (KP.out u.val u.is).2.2
   have HD1 : Hid (Below W.heap.size W w1.drew) := HB1.out.trans ⟨rfl, rfl, rfl, Nat.le_refl _, fun _ _ => rfl⟩
   refine region_mixed (Below W.heap.size W) [([0, 1, 2, 3], 4)] [5, 6] (by kernel_rfl) (by kernel_rfl) HD1.out ?_
   refine mixO_cons (by simp only [pickO, List.getElem?_cons_zero, List.getElem?_cons_succ]; exact rfl) (by simp only [pickO, List.getElem?_cons_zero, List.getElem?_cons_succ]; exact rfl) ?_
   repeat (go_big_quiet_step (fail))
   refine wpQuiet_nil ?_
   intro K hK
   go_wp2_with fail
   refine Calls.mono (HRo.out _) ?_
   rintro e w2 ⟨rfl, hb2⟩
   have HB2 : Hid (Below W.heap.size W w2) := HD1.out.trans (hb2.mono HD1.out.size)
   clear hb2
   go_wp2
   refine ⟨rfl, hK _ _ HB2.out ?_⟩
   clear hK K
   refine mixO_nil (by simp only [pickO, List.getElem?_cons_zero, List.getElem?_cons_succ]; exact rfl) ?_
   by_cases hL : (L : Int) = (R : Int)
   ·have HA2 := HA.out
    rw [if_pos hL] at HA2
    have HA3 := hid HA2
    clear HA2
    have hLb : ((L : Int) != (R : Int)) = false := by simpa using hL
    have HLR : Hid (L = R) := by show L = R; omega
    clear hL
    repeat (go_big_quiet_step (fail))
    refine wpQuiet_nil ?_
    obtain ⟨⟨p0, p1, p2⟩, s0, s1⟩ := KP.out w2 HB2.out
    go_wp2
    go_loop [35] (fun i => ∃ k : Nat, k ≤ L ∧ i = .int .i64 k ∧ Hid (numsFrom X L k = numsB L X)) (fun i => L - (intOf i).toNat)
    case atStart => exact ⟨0, Nat.zero_le _, rfl, numsFrom_zero X L⟩
    case round =>
     obtain ⟨k, hk, rfl, HF⟩ := hrel
     by_cases hlt : k < L
     ·have hki : (k : Int) < (L : Int) := by omega
      have hod : ∃ bo oo, a1 = some ⟨bo, oo, none⟩ ∧ w2.cell? ⟨bo, oo + k, none⟩ = some (.int .i64 (X k)) := by
       obtain ⟨ad, cp, e, _, h2⟩ := HI.out
       injection e with e4
       subst e4
       rcases h2 with h0 | ⟨bo, oo, rfl, hb, hx⟩
       ·omega
       ·exact ⟨bo, oo, rfl, by rw [HB2.out.cell hb]; exact hx k hlt⟩
      obtain ⟨bo, oo, rfl, god⟩ := hod
      cases hn : isNum (X k) with
      | true =>
       go_wp2_with (go_at_call 101; go_must (refine (isNumber_any _ _).mono ?_; rintro e wq ⟨rfl, hwq⟩; subst wq; rw [hn]))
       go_round
       case rel => exact ⟨k + 1, by omega, by go_num, numsFrom_next HF.out hn⟩
       case measure => simp only [intOf]; omega
      | false =>
       have hnb := numsFrom_bad hlt HF.out hn
       have hA := HA3.out
       rw [hnb, if_neg (by decide)] at hA
       subst hA
       clear hnb
       go_wp2_with (go_at_call 101; go_must (refine (isNumber_any _ _).mono ?_; rintro e wq ⟨rfl, hwq⟩; subst wq; rw [hn]))
       go_ret
       exact ⟨rfl, HBW.out.trans (HB2.out.mono HBW.out.size)⟩
     ·have hke : k = L := by omega
      subst hke
      have hnb := numsFrom_end HF.out
      have hA := HA3.out
      rw [hnb, if_pos rfl] at hA
      subst hA
      clear HF hnb
      go_wp2
      go_ret
      exact ⟨rfl, HBW.out.trans (HB2.out.mono HBW.out.size)⟩
   ·have hA := HA.out
    rw [if_neg hL] at hA
    subst hA
    have hLb : ((L : Int) != (R : Int)) = true := by simpa using hL
    clear hL
    repeat (go_big_quiet_step (fail))
    refine wpQuiet_nil ?_
    go_wp2
    go_ret
    exact ⟨rfl, HBW.out.trans (HB2.out.mono HBW.out.size)⟩
  ·rw [if_neg hN] at hans
   subst hans
   by_cases hN0 : N < 0
   ·clear hN
    go_enter Tryz.func139, Tryz.ntmps139
    go_wp2_with (go_at_call 100; go_must (refine HC.out.mono ?_; rintro e w1 ⟨rfl, hb1⟩; obtain ⟨⟨p0, p1, p2⟩, s0, s1⟩ := KP.out w1 hb1; have HB1 := hid hb1; clear hb1))
    go_ret
    exact ⟨rfl, HBW.out.trans (HB1.out.mono HBW.out.size)⟩
   ·have hN1 : of ≤ N := by omega
    clear hN
    go_enter Tryz.func139, Tryz.ntmps139
    go_wp2_with (go_at_call 100; go_must (refine HC.out.mono ?_; rintro e w1 ⟨rfl, hb1⟩; obtain ⟨⟨p0, p1, p2⟩, s0, s1⟩ := KP.out w1 hb1; have HB1 := hid hb1; clear hb1))
    go_ret
    exact ⟨rfl, HBW.out.trans (HB1.out.mono HBW.out.size)⟩
 ·have e : chkP nd of sz = 2 := by unfold chkP; rw [if_neg hp]
  rw [if_neg hp] at hans
  subst hans
  rw [e] at HC
  have HBW := hid hb
  clear hp e hb
  go_enter Tryz.func139, Tryz.ntmps139
  go_wp2_with (go_at_call 100; go_must (refine HC.out.mono ?_; rintro e w1 ⟨rfl, hb1⟩; have HB1 := hid hb1; clear hb1))
  go_ret
  exact ⟨rfl, HBW.out.trans (HB1.out.mono HBW.out.size)⟩
theorem shLong (nd of sz : Int) (w : World) : Calls Tryz.prog 82 #[planV nd of sz] w fun e w' => e = .returned (.int .i64 (longP nd of sz)) ∧ Below w.heap.size w w' := by
 have hbx := below_alloc w (.cells #[.int .i64 nd, .int .i64 of, .int .i64 sz] 30)
 have HC := hid (shCheck nd of sz (w.alloc (.cells #[.int .i64 nd, .int .i64 of, .int .i64 sz] 30)))
 have HBx := hid hbx
 clear hbx
 unfold longP
 by_cases hp : planOk nd of sz = true
 ·have e : chkP nd of sz = 0 := by unfold chkP; rw [if_pos hp]
  rw [if_pos hp]
  rw [e] at HC
  obtain ⟨hnd, hof, hsz⟩ := planOk_spec hp
  obtain ⟨r, hr⟩ : ∃ r : Int, (sz + nd - 1) / nd = r := ⟨_, rfl⟩
  have hr0 : 0 ≤ r ∧ r ≤ 27 := by
   rw [← hr]
   rcases (show nd = 1 ∨ nd = 2 ∨ nd = 3 ∨ nd = 4 by omega) with rfl | rfl | rfl | rfl <;> omega
  have hR : ((rowsN nd sz : Nat) : Int) = r := by unfold rowsN; omega
  rw [hR]
  have ht : (sz + nd - 1).tdiv nd = r := by rw [Int.tdiv_eq_ediv_of_nonneg (by omega)]; exact hr
  clear hp e hr hR
  unfold planV
  go_enter Tryz.func82, Tryz.ntmps82
  go_wp2_with fail
  refine HC.out.mono ?_
  rintro e w1 ⟨rfl, hb1⟩
  have p0 : w1.cell? ⟨w.heap.size, 0, none⟩ = some (.int .i64 nd) := by rw [hb1.cell (by simp)]; exact cell_at (heap_alloc_new _ _) rfl
  have p2 : w1.cell? ⟨w.heap.size, 2, none⟩ = some (.int .i64 sz) := by rw [hb1.cell (by simp)]; exact cell_at (heap_alloc_new _ _) rfl
  have HB1 := hid (HBx.out.trans (hb1.mono HBx.out.size))
  clear hb1
  go_wp2
  go_ret
  exact ⟨rfl, HB1.out⟩
 ·have e : chkP nd of sz = 2 := by unfold chkP; rw [if_neg hp]
  rw [if_neg hp]
  rw [e] at HC
  clear hp e
  unfold planV
  go_enter Tryz.func82, Tryz.ntmps82
  go_wp2_with (go_at_call 80; go_must (refine HC.out.mono ?_; rintro e w1 ⟨rfl, hb1⟩; have HB1 := hid (HBx.out.trans (hb1.mono HBx.out.size)); clear hb1))
  go_ret
  exact ⟨rfl, HB1.out⟩
def numE (n : Nat) (X : Nat → Int) (many : Int) : Int := if (n : Int) = many then (if numsB n X = true then 0 else 2) else 3
theorem shNumbers (v : Value) (n : Nat) (X : Nat → Int) (many : Int) (w : World) (h : IntSl w w.heap.size v n X) :
  Calls Tryz.prog 81 #[v, .int .i64 many] w fun e w' => e = .returned (.int .i64 (numE n X many)) ∧ w' = w := by
 obtain ⟨a1, c1, rfl, ⟨hcap, hbig⟩, hx⟩ := h
 obtain ⟨ans, hans⟩ : ∃ a, numE n X many = a := ⟨_, rfl⟩
 rw [hans]
 unfold numE at hans
 by_cases hm : (n : Int) = many
 ·rw [if_pos hm] at hans
  subst hm
  have HA := hid hans
  clear hans
  go_enter Tryz.func81, Tryz.ntmps81
  go_wp2
  go_loop [14] (fun i => ∃ k : Nat, k ≤ n ∧ i = .int .i64 k ∧ Hid (numsFrom X n k = numsB n X)) (fun i => n - (intOf i).toNat)
  case atStart => exact ⟨0, Nat.zero_le _, rfl, numsFrom_zero X n⟩
  case round =>
   obtain ⟨k, hk, rfl, HF⟩ := hrel
   by_cases hlt : k < n
   ·have hki : (k : Int) < (n : Int) := by omega
    have hod : ∃ bo oo, a1 = some ⟨bo, oo, none⟩ ∧ w.cell? ⟨bo, oo + k, none⟩ = some (.int .i64 (X k)) := by
     rcases hx with h0 | ⟨bo, oo, rfl, hb, hx⟩
     ·omega
     ·exact ⟨bo, oo, rfl, hx k hlt⟩
    obtain ⟨bo, oo, rfl, god⟩ := hod
    by_cases hn : 0 ≤ X k ∧ X k ≤ 30
    ·have hn2 : isNum (X k) = true := (isNum_iff _).2 hn
     go_wp2_with (go_at_call 125; go_must (refine (check_ok _ hn _).mono ?_; rintro e wq ⟨rfl, hwq⟩; subst wq))
     go_round
     case rel => exact ⟨k + 1, by omega, by go_num, numsFrom_next HF.out hn2⟩
     case measure => simp only [intOf]; omega
    ·have hn2 : isNum (X k) = false := decide_eq_false hn
     have hnb := numsFrom_bad hlt HF.out hn2
     have hA := HA.out
     rw [hnb, if_neg (by decide)] at hA
     subst hA
     clear hnb
     go_wp2_with (go_at_call 125; go_must (refine (check_bad _ hn _).mono ?_; rintro e wq ⟨rfl, hwq⟩; subst wq))
     go_ret
     exact ⟨rfl, rfl⟩
   ·have hke : k = n := by omega
    subst hke
    have hnb := numsFrom_end HF.out
    have hA := HA.out
    rw [hnb, if_pos rfl] at hA
    subst hA
    clear HF hnb
    go_wp2
    go_ret
    exact ⟨rfl, rfl⟩
 ·rw [if_neg hm] at hans
  subst hans
  have hmb : ((n : Int) != many) = true := by simpa using hm
  clear hm
  go_enter Tryz.func81, Tryz.ntmps81
  go_wp2
  go_ret
  exact ⟨rfl, rfl⟩
set_option maxHeartbeats 1000000 in
theorem shOne (nd of sz N : Int) (V : Value) (L : Nat) (X : Nat → Int) (w : World) (h : IntSl w w.heap.size V L X) :
  Calls Tryz.prog 148 #[planV nd of sz, shareV N V] w fun e w' => e = .returned (.int .i64 (oneE nd of sz N L X)) ∧ Below w.heap.size w w' := by
 obtain ⟨W, hW⟩ : ∃ W, (w.alloc (.cells #[.int .i64 nd, .int .i64 of, .int .i64 sz] 30)).alloc (.cells #[.int .i64 N, V] 53) = W := ⟨_, rfl⟩
 have hb : Below w.heap.size w W := by rw [← hW]; exact ((Below.refl w.heap.size w).alloc (Nat.le_refl _) _).alloc (by simp) _
 have p0 : W.cell? ⟨w.heap.size, 0, none⟩ = some (.int .i64 nd) := by rw [← hW]; exact cell_at (heap_two_old w _ _) rfl
 have p1 : W.cell? ⟨w.heap.size, 1, none⟩ = some (.int .i64 of) := by rw [← hW]; exact cell_at (heap_two_old w _ _) rfl
 have p2 : W.cell? ⟨w.heap.size, 2, none⟩ = some (.int .i64 sz) := by rw [← hW]; exact cell_at (heap_two_old w _ _) rfl
 have s0 : W.cell? ⟨w.heap.size + 1, 0, none⟩ = some (.int .i64 N) := by rw [← hW]; exact cell_at (heap_two_new w _ _) rfl
 have s1 : W.cell? ⟨w.heap.size + 1, 1, none⟩ = some V := by rw [← hW]; exact cell_at (heap_two_new w _ _) rfl
 have KP : Hid (∀ w', Below W.heap.size W w' → (w'.cell? ⟨w.heap.size, 0, none⟩ = some (.int .i64 nd) ∧ w'.cell? ⟨w.heap.size, 1, none⟩ = some (.int .i64 of) ∧ w'.cell? ⟨w.heap.size, 2, none⟩ = some (.int .i64 sz)) ∧ w'.cell? ⟨w.heap.size + 1, 0, none⟩ = some (.int .i64 N) ∧ w'.cell? ⟨w.heap.size + 1, 1, none⟩ = some V) := fun w' hb' =>
  ⟨⟨by rw [hb'.cell (cell_lt p0)]; exact p0, by rw [hb'.cell (cell_lt p1)]; exact p1, by rw [hb'.cell (cell_lt p2)]; exact p2⟩, by rw [hb'.cell (cell_lt s0)]; exact s0, by rw [hb'.cell (cell_lt s1)]; exact s1⟩
 have HI := hid (h.up hb)
 obtain ⟨a1, c1, hv, ⟨hcap, hbig⟩, _⟩ := h
 subst hv
 have HC := hid (shCheck nd of sz W)
 have HRo := hid (shLong nd of sz)
 unfold planV shareV
 obtain ⟨ans, hans⟩ : ∃ a, oneE nd of sz N L X = a := ⟨_, rfl⟩
 rw [hans]
 unfold oneE at hans
 by_cases hp : planOk nd of sz = true
 ·have e : chkP nd of sz = 0 := by unfold chkP; rw [if_pos hp]
  have e2 : longP nd of sz = rowsN nd sz := by unfold longP; rw [if_pos hp]
  rw [if_pos hp] at hans
  rw [e] at HC
  simp only [e2] at HRo
  have hrw := rowsN_bd (planOk_spec hp).1 (planOk_spec hp).2.2
  have hRb : rowsN nd sz ≤ 24 := hrw.2.2.2.1
  generalize rowsN nd sz = R at *
  have HBW := hid hb
  have HPl := hid (planOk_spec hp)
  clear hp e e2 hrw hb
  by_cases hN : 0 ≤ N ∧ N < of
  ·rw [if_pos hN] at hans
   have HA : Hid (numE L X (R : Int) = ans) := hans
   clear hans
   go_enter Tryz.func148, Tryz.ntmps148
   go_wp2_with (go_at_call 80; go_must (refine HC.out.mono ?_; rintro e w1 ⟨rfl, hb1⟩; obtain ⟨⟨p0, p1, p2⟩, s0, s1⟩ := KP.out w1 hb1; have HB1 := hid hb1; clear hb1))
   have hne : Nonempty (Of (Below W.heap.size W)) := ⟨⟨W, Below.refl _ _⟩⟩
   have F0 : ∀ u : Of (Below W.heap.size W), u.val.cell? ⟨w.heap.size, 0, none⟩ = some (.int .i64 nd) := fun u => (KP.out u.val u.is).1.1
   have F1 : ∀ u : Of (Below W.heap.size W), u.val.cell? ⟨w.heap.size, 1, none⟩ = some (.int .i64 of) := fun u => (KP.out u.val u.is).1.2.1
   have F2 : ∀ u : Of (Below W.heap.size W), u.val.cell? ⟨w.heap.size, 2, none⟩ = some (.int .i64 sz) := fun u => (KP.out u.val u.is).1.2.2
   have F4 : ∀ u : Of (Below W.heap.size W), u.val.cell? ⟨w.heap.size + 1, 1, none⟩ = some (.slice a1 L c1) := fun u => (KP.out u.val u.is).2.2
   have HD1 : Hid (Below W.heap.size W w1.drew) := HB1.out.trans ⟨rfl, rfl, rfl, Nat.le_refl _, fun _ _ => rfl⟩
   refine region_mixed (Below W.heap.size W) [([0, 1, 2], 3), ([], 4)] [5] (by kernel_rfl) (by kernel_rfl) HD1.out ?_
   refine mixO_cons (by simp only [pickO, List.getElem?_cons_zero, List.getElem?_cons_succ]; exact rfl) (by simp only [pickO, List.getElem?_cons_zero, List.getElem?_cons_succ]; exact rfl) ?_
   repeat (go_big_quiet_step (fail))
   refine wpQuiet_nil ?_
   intro K hK
   go_wp2_with fail
   refine Calls.mono (HRo.out _) ?_
   rintro e w2 ⟨rfl, hb2⟩
   have HB2 : Hid (Below W.heap.size W w2) := HD1.out.trans (hb2.mono HD1.out.size)
   clear hb2
   go_wp2
   refine ⟨rfl, hK _ _ HB2.out ?_⟩
   clear hK K
   refine mixO_cons (lq := []) rfl (by simp only [pickO, List.getElem?_cons_zero, List.getElem?_cons_succ]; exact rfl) ?_
   refine wpQuiet_nil ?_
   intro K hK
   have HN := hid (shNumbers _ L X (R : Int) w2 (HI.out.up HB2.out))
   rw [HA.out] at HN
   go_wp2_with fail
   refine Calls.mono HN.out ?_
   rintro e w3 ⟨rfl, hw3⟩
   subst w3
   go_wp2
   refine ⟨rfl, hK _ _ HB2.out ?_⟩
   clear hK K
   refine mixO_nil (by simp only [pickO, List.getElem?_cons_zero, List.getElem?_cons_succ]; exact rfl) ?_
   repeat (go_big_quiet_step (fail))
   refine wpQuiet_nil ?_
   go_wp2
   go_ret
   exact ⟨rfl, HBW.out.trans (HB2.out.mono HBW.out.size)⟩
  ·rw [if_neg hN] at hans
   subst hans
   by_cases hN0 : N < 0
   ·clear hN
    go_enter Tryz.func148, Tryz.ntmps148
    go_wp2_with (go_at_call 80; go_must (refine HC.out.mono ?_; rintro e w1 ⟨rfl, hb1⟩; obtain ⟨⟨p0, p1, p2⟩, s0, s1⟩ := KP.out w1 hb1; have HB1 := hid hb1; clear hb1))
    go_ret
    exact ⟨rfl, HBW.out.trans (HB1.out.mono HBW.out.size)⟩
   ·have hN1 : of ≤ N := by omega
    clear hN
    go_enter Tryz.func148, Tryz.ntmps148
    go_wp2_with (go_at_call 80; go_must (refine HC.out.mono ?_; rintro e w1 ⟨rfl, hb1⟩; obtain ⟨⟨p0, p1, p2⟩, s0, s1⟩ := KP.out w1 hb1; have HB1 := hid hb1; clear hb1))
    go_ret
    exact ⟨rfl, HBW.out.trans (HB1.out.mono HBW.out.size)⟩
 ·have e : chkP nd of sz = 2 := by unfold chkP; rw [if_neg hp]
  rw [if_neg hp] at hans
  subst hans
  rw [e] at HC
  have HBW := hid hb
  clear hp e hb
  go_enter Tryz.func148, Tryz.ntmps148
  go_wp2_with (go_at_call 80; go_must (refine HC.out.mono ?_; rintro e w1 ⟨rfl, hb1⟩; have HB1 := hid hb1; clear hb1))
  go_ret
  exact ⟨rfl, HBW.out.trans (HB1.out.mono HBW.out.size)⟩
theorem shSame (N1 N2 : Int) (V1 V2 : Value) (n m : Nat) (X Y : Nat → Int) (w : World) (h1 : IntSl w w.heap.size V1 n X) (h2 : IntSl w w.heap.size V2 m Y) :
  Calls Tryz.prog 68 #[shareV N1 V1, shareV N2 V2] w fun e w' => e = .returned (.bool (sameB N1 N2 n m X Y)) ∧ Below w.heap.size w w' := by
 have hb := ((Below.refl w.heap.size w).alloc (Nat.le_refl _) (.cells #[.int .i64 N1, V1] 53)).alloc (by simp) (.cells #[.int .i64 N2, V2] 53)
 have HE := hid (equal_isl (h1.up hb) (h2.up hb))
 have HB := hid hb
 obtain ⟨a1, c1, rfl, _, _⟩ := h1
 obtain ⟨a2, c2, rfl, _, _⟩ := h2
 clear hb
 unfold shareV sameB
 by_cases hn : N1 = N2
 ·subst hn
  rw [decide_eq_true rfl, Bool.true_and]
  go_enter Tryz.func68, Tryz.ntmps68
  go_wp2_with (go_at_call 23; go_must (refine HE.out.mono ?_; rintro e w1 ⟨rfl, q, hq⟩; have HQ := hid hq; clear hq))
  go_ret
  refine ⟨rfl, ?_⟩
  rw [HQ.out]
  exact HB.out.trans ⟨rfl, rfl, rfl, Nat.le_refl _, fun _ _ => rfl⟩
 ·rw [decide_eq_false hn, Bool.false_and]
  have he : (N1 == N2) = false := by simpa using hn
  clear hn
  go_enter Tryz.func68, Tryz.ntmps68
  go_wp2
  go_ret
  exact ⟨rfl, HB.out⟩
end Go.Proofs.YtikchpffkhohlaaGreat

namespace Go.Proofs.YtikchpffkhohlaaGreat
open Go.RowKit
set_option linter.unusedVariables false
structure Kt where
 V : Nat → Int
 N : Nat → Int
 L : Nat → Nat
 X : Nat → Nat → Int
def KeSl (w : World) (B : Nat) (v : Value) (n : Nat) (UV : Nat → Value) (t : Kt) : Prop :=
 ∃ (ad : Option Addr) (cap : Nat), v = .slice ad n cap ∧ (n ≤ cap ∧ n * 40 ≤ 140737488351232) ∧ (n = 0 ∨ ∃ bl off, ad = some ⟨bl, off, none⟩ ∧ bl < B ∧ ∀ j, j < n →
  w.cell? ⟨bl, off + j * 3, none⟩ = some (.int .i64 (t.V j)) ∧ w.cell? ⟨bl, off + j * 3 + 1, none⟩ = some (.int .i64 (t.N j)) ∧ w.cell? ⟨bl, off + j * 3 + 2, none⟩ = some (UV j) ∧ IntSl w B (UV j) (t.L j) (t.X j))
theorem KeSl.below {w w' : World} {B : Nat} {v : Value} {n : Nat} {UV : Nat → Value} {t : Kt} (h : KeSl w B v n UV t) (hb : Below B w w') : KeSl w' B v n UV t := by
 obtain ⟨ad, cap, h1, h0, h2⟩ := h
 refine ⟨ad, cap, h1, h0, ?_⟩
 rcases h2 with h2 | ⟨bl, off, h3, h4, h5⟩
 ·exact Or.inl h2
 ·refine Or.inr ⟨bl, off, h3, h4, fun j hj => ?_⟩
  obtain ⟨g1, g2, g3, g4⟩ := h5 j hj
  exact ⟨by rw [hb.cell h4]; exact g1, by rw [hb.cell h4]; exact g2, by rw [hb.cell h4]; exact g3, g4.below hb⟩
theorem KeSl.mono {w : World} {B B' : Nat} {v : Value} {n : Nat} {UV : Nat → Value} {t : Kt} (h : KeSl w B v n UV t) (hb : B ≤ B') : KeSl w B' v n UV t := by
 obtain ⟨ad, cap, h1, h0, h2⟩ := h
 refine ⟨ad, cap, h1, h0, ?_⟩
 rcases h2 with h2 | ⟨bl, off, h3, h4, h5⟩
 ·exact Or.inl h2
 ·refine Or.inr ⟨bl, off, h3, by omega, fun j hj => ?_⟩
  obtain ⟨g1, g2, g3, g4⟩ := h5 j hj
  exact ⟨g1, g2, g3, g4.mono hb⟩
theorem KeSl.up {w w' : World} {v : Value} {n : Nat} {UV : Nat → Value} {t : Kt} (h : KeSl w w.heap.size v n UV t) (hb : Below w.heap.size w w') : KeSl w' w'.heap.size v n UV t := (h.below hb).mono hb.size
def keptV (ver N : Int) (uv : Value) : Value := .agg #[.int .i64 ver, .int .i64 N, uv]
def peerV (th : Bool) (room : Int) (vk : Value) : Value := .agg #[.bool th, .int .i64 room, vk]
def oneK (b : Bk) (t : Kt) (k : Nat) : Int := oneE (b.nd (t.V k).toNat) (b.of (t.V k).toNat) (b.sz (t.V k).toNat) (t.N k) (t.L k) (t.X k)
def scanK (n : Nat) (b : Bk) (t : Kt) : Nat → Nat → Int → Int
 | 0, _, _ => 0
 | f + 1, k, last => if t.V k < 0 ∨ (n : Int) ≤ t.V k then 4 else if t.V k ≤ last then 5 else if oneK b t k = 0 then scanK n b t f (k + 1) (t.V k) else oneK b t k
def peerE (n : Nat) (b : Bk) (room : Int) (m : Nat) (t : Kt) : Int :=
 if bookE n b = 0 then (if 0 ≤ room ∧ room ≤ 20 then (if (m : Int) ≤ room then scanK n b t m 0 (-1) else 8) else 2) else bookE n b
def verK (t u : Kt) (j : Nat) : Bool := decide (t.V j = u.V j) && sameB (t.N j) (u.N j) (t.L j) (u.L j) (t.X j) (u.X j)
def restK (t u : Kt) : Nat → Nat → Bool
 | 0, _ => true
 | f + 1, k => verK t u k && restK t u f (k + 1)
def keptB (n m : Nat) (t u : Kt) : Bool := decide (n = m) && restK t u n 0
def peerB (a1 a2 : Bool) (r1 r2 : Int) (n m : Nat) (t u : Kt) : Bool := (a1 == a2) && (decide (r1 = r2) && keptB n m t u)
end Go.Proofs.YtikchpffkhohlaaGreat

namespace Go.Proofs.YtikchpffkhohlaaGreat
open Go.RowKit
set_option linter.unusedVariables false
set_option maxHeartbeats 2000000 in
set_option maxRecDepth 10000 in
theorem checkBook_any (v : Value) (n : Nat) (PV : Nat → Value) (b : Bk) (w : World) (h : VeSl w w.heap.size v n PV b) :
  Calls Tryz.prog 102 #[bookV v] w fun e w' => e = .returned (.int .i64 (bookE n b)) ∧ Below w.heap.size w w' := by
 obtain ⟨ad, cap, rfl, ⟨hcap, hbig⟩, hx⟩ := h
 have hbx := below_alloc w (.cells #[.slice ad n cap] 24)
 have HBx := hid hbx
 have HX := hid hx
 obtain ⟨ans, hans⟩ : ∃ a, bookE n b = a := ⟨_, rfl⟩
 rw [hans]
 unfold bookE at hans
 have HCp := hid (fun nd of sz w => checkPlan_any nd of sz w)
 clear hbx hx
 unfold bookV
 by_cases hn : n ≤ 12
 ·rw [if_pos hn] at hans
  have HA := hid hans
  have hni : (n : Int) ≤ 12 := by omega
  clear hans
  go_enter Tryz.func102, Tryz.ntmps102
  go_wp2
  go_loopw [16] (fun iv wr => ∃ k : Nat, k ≤ n ∧ iv = .int .i64 k ∧ Hid (Below w.heap.size w wr) ∧ Hid (scanV b (n - k) k = ans)) (fun iv _ => n - (intOf iv).toNat)
  case atStart => exact ⟨0, Nat.zero_le _, rfl, HBx, HA⟩
  case round =>
   obtain ⟨k, hk, rfl, HB, HS⟩ := hrel
   by_cases hlt : k < n
   ·have hki : (k : Int) < (n : Int) := by omega
    rcases HX.out with h0 | ⟨bl, off, rfl, hbl, hx⟩
    ·omega
    obtain ⟨x0, x1, x2, x3, x4⟩ := hx k hlt
    have hstep := HS.out
    rw [show n - k = (n - (k + 1)) + 1 by omega] at hstep
    simp only [scanV] at hstep
    obtain ⟨ap, cp, hpe, hpl, hpc⟩ := x4
    obtain ⟨m, hm⟩ : ∃ m, b.PL k = m := ⟨_, rfl⟩
    rw [hm] at hpe hpl hpc
    have g0 : wr.cell? ⟨bl, off + k * 4, none⟩ = some (.slice ap m cp) := by rw [HB.out.cell hbl, x0, hpe]
    have g1 : wr.cell? ⟨bl, off + k * 4 + 1, none⟩ = some (.int .i64 (b.nd k)) := by rw [HB.out.cell hbl]; exact x1
    have g2 : wr.cell? ⟨bl, off + k * 4 + 2, none⟩ = some (.int .i64 (b.of k)) := by rw [HB.out.cell hbl]; exact x2
    have g3 : wr.cell? ⟨bl, off + k * 4 + 3, none⟩ = some (.int .i64 (b.sz k)) := by rw [HB.out.cell hbl]; exact x3
    obtain ⟨nd, hnd⟩ : ∃ nd, b.nd k = nd := ⟨_, rfl⟩
    obtain ⟨of, hof⟩ : ∃ of, b.of k = of := ⟨_, rfl⟩
    obtain ⟨sz, hsz⟩ : ∃ sz, b.sz k = sz := ⟨_, rfl⟩
    rw [hnd] at g1
    rw [hof] at g2
    rw [hsz] at g3
    have hbA := below_alloc wr (.cells #[.slice ap m cp, .int .i64 nd, .int .i64 of, .int .i64 sz] 60)
    obtain ⟨W, hW⟩ : ∃ W, wr.alloc (.cells #[.slice ap m cp, .int .i64 nd, .int .i64 of, .int .i64 sz] 60) = W := ⟨_, rfl⟩
    rw [hW] at hbA
    have s0 : W.cell? ⟨wr.heap.size, 0, none⟩ = some (.slice ap m cp) := by rw [← hW]; exact cell_at (heap_alloc_new _ _) rfl
    have s1 : W.cell? ⟨wr.heap.size, 1, none⟩ = some (.int .i64 nd) := by rw [← hW]; exact cell_at (heap_alloc_new _ _) rfl
    have s2 : W.cell? ⟨wr.heap.size, 2, none⟩ = some (.int .i64 of) := by rw [← hW]; exact cell_at (heap_alloc_new _ _) rfl
    have s3 : W.cell? ⟨wr.heap.size, 3, none⟩ = some (.int .i64 sz) := by rw [← hW]; exact cell_at (heap_alloc_new _ _) rfl
    have HBW := hid (HB.out.trans (hbA.mono HB.out.size))
    have HPc := hid hpc
    have HSt := hid hstep
    have HNd := hid hnd
    have HOf := hid hof
    have HSz := hid hsz
    have HM := hid hm
    clear x0 x1 x2 x3 hx hpe hbA hpc hstep hnd hof hsz hm
    go_wp2
    go_loopw [5, 24] (fun lv iv wz => ∃ (i : Nat) (last : Int), i ≤ m ∧ iv = .int .i64 i ∧ lv = .int .i64 last ∧ wz = W ∧ Hid (parE k (b.PX k) (m - i) i last = parE k (b.PX k) m 0 (-1))) (fun _ iv _ => m - (intOf iv).toNat)
    case atStart => exact ⟨0, -1, Nat.zero_le _, rfl, rfl, rfl, rfl⟩
    case round =>
     obtain ⟨i, last, hi, rfl, rfl, hwz, HP⟩ := hrel
     subst hwz
     by_cases him : i < m
     ·have himi : (i : Int) < (m : Int) := by omega
      rcases HPc.out with h0 | ⟨bp, op, rfl, hbp, hpx⟩
      ·omega
      have e0 : wr.cell? ⟨bp, op + i, none⟩ = some (.int .i64 (b.PX k i)) := by rw [HBW.out.cell hbp]; exact hpx i him
      have hp := HP.out
      rw [show m - i = (m - (i + 1)) + 1 by omega] at hp
      simp only [parE] at hp
      obtain ⟨x, hxx⟩ : ∃ x, b.PX k i = x := ⟨_, rfl⟩
      rw [hxx] at e0 hp
      clear hpx hxx
      by_cases c1 : x < 0 ∨ (k : Int) ≤ x
      ·rw [if_pos c1] at hp
       have hst := HSt.out
       have hv : verE b k = 4 := by unfold verE; rw [HM.out, ← hp, if_neg (by decide)]
       rw [hv, if_neg (by decide)] at hst
       have HFin := hid hst
       clear hp hst hv
       by_cases c2 : x < 0
       ·go_wp2
        go_ret
        exact ⟨by rw [← HFin.out]; rfl, HBW.out⟩
       ·have c3 : (k : Int) ≤ x := by omega
        go_wp2
        go_ret
        exact ⟨by rw [← HFin.out]; rfl, HBW.out⟩
      ·rw [if_neg c1] at hp
       have c2 : ¬ x < 0 := fun h => c1 (Or.inl h)
       have c3 : ¬ (k : Int) ≤ x := fun h => c1 (Or.inr h)
       by_cases c4 : x ≤ last
       ·rw [if_pos c4] at hp
        have hst := HSt.out
        have hv : verE b k = 5 := by unfold verE; rw [HM.out, ← hp, if_neg (by decide)]
        rw [hv, if_neg (by decide)] at hst
        have HFin := hid hst
        clear hp hst hv c1
        go_wp2
        go_ret
        exact ⟨by rw [← HFin.out]; rfl, HBW.out⟩
       ·rw [if_neg c4] at hp
        have HP2 := hid hp
        clear hp c1
        go_wp2
        go_roundw
        case rel => exact ⟨i + 1, x, by omega, by go_num, rfl, trivial, HP2⟩
        case measure => simp only [intOf]; omega
     ·have hie : m = i := by omega
      subst hie
      have hp := HP.out
      rw [Nat.sub_self] at hp
      have hp0 : parE k (b.PX k) m 0 (-1) = 0 := hp.symm
      have hst := HSt.out
      have hv : verE b k = chkP nd of sz := by unfold verE; rw [HM.out, hp0, if_pos rfl, HNd.out, HOf.out, HSz.out]
      rw [hv] at hst
      have HCk := hid (HCp.out nd of sz wr)
      obtain ⟨c, hcc⟩ : ∃ c, chkP nd of sz = c := ⟨_, rfl⟩
      rw [hcc] at hst HCk
      clear hp hp0 hv hcc
      unfold planV at HCk
      by_cases hc0 : c = 0
      ·subst hc0
       rw [if_pos rfl] at hst
       have HNx := hid hst
       clear hst
       go_wp2_with fail
       refine Calls.mono HCk.out ?_
       rintro e w5 ⟨rfl, hb5⟩
       have HB5 := hid (HBW.out.trans (hb5.mono HBW.out.size))
       clear hb5
       go_wp2
       go_roundw
       case rel => exact ⟨k + 1, by omega, by go_num, HB5, HNx⟩
       case measure => simp only [intOf]; omega
      ·rw [if_neg hc0] at hst
       have HFin := hid hst
       have hcb : (c != 0) = true := by simpa using hc0
       clear hst hc0
       go_wp2_with fail
       refine Calls.mono HCk.out ?_
       rintro e w5 ⟨rfl, hb5⟩
       have HB5 := hid (HBW.out.trans (hb5.mono HBW.out.size))
       clear hb5
       go_wp2
       go_ret
       exact ⟨by rw [← HFin.out]; rfl, HB5.out⟩
   ·have hke : n = k := by omega
    subst hke
    have hst := HS.out
    rw [Nat.sub_self] at hst
    have HFin : Hid ((0 : Int) = ans) := hst
    clear hst
    go_wp2
    go_ret
    exact ⟨by rw [← HFin.out]; rfl, HB.out⟩
 ·rw [if_neg hn] at hans
  have HA := hid hans
  have hni : ¬ (n : Int) ≤ 12 := by omega
  clear hans
  go_enter Tryz.func102, Tryz.ntmps102
  go_wp2
  go_ret
  exact ⟨by rw [← HA.out]; rfl, HBx.out⟩
end Go.Proofs.YtikchpffkhohlaaGreat

namespace Go.Proofs.YtikchpffkhohlaaGreat
open Go.RowKit
set_option linter.unusedVariables false
theorem grown_of_below {w w' : World} (h : Below w.heap.size w w') (row : Option Nat) : w.grownBy w' row := ⟨h.os, h.tape, h.output, h.size, fun k hk _ => h.block k hk⟩
theorem owns_below {w w' : World} {base : Nat} {e : TypeId} {size : Nat} {v : Value} {n : Nat} {xs : List Value} (h : w.ownsRow base e size v n xs) (hb : Below w.heap.size w w') : w'.ownsRow base e size v n xs := by
 cases hv : v.ownBlock with
 | none => exact h.kept (grown_of_below hb none) (Or.inl hv)
 | some g => exact h.kept (grown_of_below hb none) (Or.inr (by rw [hv]; intro h; cases h))
theorem OwnI.below {w0 wr w' : World} {v : Value} {n : Nat} {C : Nat → Int} (h : OwnI w0 wr v n C) (hb : Below wr.heap.size wr w') : OwnI w0 w' v n C :=
 ⟨owns_below h.1 hb, h.2.trans (hb.mono h.2.size)⟩
theorem OwnI.shape {w0 wr : World} {v : Value} {n : Nat} {C : Nat → Int} (h : OwnI w0 wr v n C) : ∃ ad cap, v = .slice ad n cap := by
 obtain ⟨_, h2⟩ := h.1
 rcases h2 with ⟨h1, h0⟩ | ⟨g, cap, cur, h1, _⟩
 ·exact ⟨none, 0, by rw [h0]; exact h1⟩
 ·exact ⟨_, _, h1⟩
theorem OwnI.congr {w0 wr : World} {v : Value} {n : Nat} {C D : Nat → Int} (h : OwnI w0 wr v n C) (e : ∀ j, j < n → C j = D j) : OwnI w0 wr v n D := by
 refine ⟨?_, h.2⟩
 have e2 : ((List.range n).map fun j => Value.int .i64 (D j)) = (List.range n).map fun j => Value.int .i64 (C j) := List.map_congr_left fun j hj => by rw [e j (List.mem_range.1 hj)]
 rw [e2]
 exact h.1
theorem OwnI.isl {w0 wr : World} {v : Value} {n : Nat} {C : Nat → Int} (h : OwnI w0 wr v n C) (hn : 1 ≤ n) (hr : n * 8 ≤ 140737488351232) : IntSl wr wr.heap.size v n C := by
 obtain ⟨g, cap, rfl, hc, hrow⟩ := h.row hn
 exact hrow.isl hc hr
structure Two (w0 wr : World) (va vb : Value) (r : Nat) (A B : Nat → Int) : Prop where
 a : OwnI w0 wr va r A
 b : OwnI w0 wr vb r B
 ne : va.ownBlock = none ∨ va.ownBlock ≠ vb.ownBlock
theorem Two.nil (w : World) (A B : Nat → Int) : Two w w (.slice none 0 0) (.slice none 0 0) 0 A B := ⟨OwnI.nil _ _, OwnI.nil _ _, Or.inl rfl⟩
theorem Two.below {w0 wr w' : World} {va vb : Value} {r : Nat} {A B : Nat → Int} (h : Two w0 wr va vb r A B) (hb : Below wr.heap.size wr w') : Two w0 w' va vb r A B := ⟨h.a.below hb, h.b.below hb, h.ne⟩
theorem Two.after {w0 wr w1 : World} {va vb va' : Value} {r : Nat} {A B : Nat → Int} {k : Int} (h : Two w0 wr va vb r A B) (o : Obj)
  (ho : w1.ownsRow w0.heap.size 3 1 va' (r + 1) (((List.range r).map fun j => Value.int .i64 (A j)) ++ [.int .i64 k])) (hg : (wr.alloc o).grownBy w1 va.ownBlock)
  (hat : va'.ownBlock = va.ownBlock ∨ va'.ownBlock = some (wr.alloc o).heap.size) :
  OwnI w0 w1 va' (r + 1) (fun j => if j = r then k else A j) ∧ OwnI w0 w1 vb r B ∧ (vb.ownBlock = none ∨ va'.ownBlock ≠ vb.ownBlock) := by
 have hbA : Below w0.heap.size w0 (wr.alloc o) := h.a.2.alloc h.a.2.size o
 have hlo : ∀ g, va.ownBlock = some g → w0.heap.size ≤ g := fun g hgg => (h.a.1.lt g hgg).1
 have hb1 : Below w0.heap.size w0 w1 := hbA.grown hg hbA.size hlo
 have hvb : w1.ownsRow w0.heap.size 3 1 vb r ((List.range r).map fun j => Value.int .i64 (B j)) := by
  refine (h.b.1.alloc o).kept hg ?_
  rcases h.ne with h1 | h1
  ·rw [h1]
   cases hv : vb.ownBlock with
   | none => exact Or.inl rfl
   | some g => exact Or.inr (by intro h; cases h)
  ·exact Or.inr (Ne.symm h1)
 refine ⟨⟨?_, hb1⟩, ⟨hvb, hb1⟩, ?_⟩
 ·have e : ((List.range (r + 1)).map fun j => Value.int .i64 (if j = r then k else A j)) = ((List.range r).map fun j => Value.int .i64 (A j)) ++ [.int .i64 k] := by
   rw [List.range_succ, List.map_append]
   congr 1
   ·exact List.map_congr_left fun j hj => by have := List.mem_range.1 hj; rw [if_neg (by omega)]
   ·simp
  rw [e]
  exact ho
 ·cases hv : vb.ownBlock with
  | none => exact Or.inl rfl
  | some g =>
   right
   have hlt := (h.b.1.lt g hv).2
   rcases hat with h1 | h1
   ·rw [h1]
    rcases h.ne with h2 | h2
    ·rw [h2]; intro h; cases h
    ·rw [← hv]; exact h2
   ·rw [h1]
    intro h2
    injection h2 with h2
    simp at h2
    omega
theorem Two.both {w0 w2 w3 : World} {va vb vb' : Value} {r : Nat} {A B : Nat → Int} {v : Int} (ha : OwnI w0 w2 va (r + 1) A) (hb : OwnI w0 w2 vb r B) (hne : vb.ownBlock = none ∨ va.ownBlock ≠ vb.ownBlock) (o : Obj)
  (ho : w3.ownsRow w0.heap.size 3 1 vb' (r + 1) (((List.range r).map fun j => Value.int .i64 (B j)) ++ [.int .i64 v])) (hg : (w2.alloc o).grownBy w3 vb.ownBlock)
  (hat : vb'.ownBlock = vb.ownBlock ∨ vb'.ownBlock = some (w2.alloc o).heap.size) :
  Two w0 w3 va vb' (r + 1) A (fun j => if j = r then v else B j) := by
 have hbA : Below w0.heap.size w0 (w2.alloc o) := hb.2.alloc hb.2.size o
 have hlo : ∀ g, vb.ownBlock = some g → w0.heap.size ≤ g := fun g hgg => (hb.1.lt g hgg).1
 have hb1 : Below w0.heap.size w0 w3 := hbA.grown hg hbA.size hlo
 have hva : w3.ownsRow w0.heap.size 3 1 va (r + 1) ((List.range (r + 1)).map fun j => Value.int .i64 (A j)) := by
  refine (ha.1.alloc o).kept hg ?_
  rcases hne with h1 | h1
  ·rw [h1]
   cases hv : va.ownBlock with
   | none => exact Or.inl rfl
   | some g => exact Or.inr (by intro h; cases h)
  ·exact Or.inr h1
 refine ⟨⟨hva, hb1⟩, ⟨?_, hb1⟩, ?_⟩
 ·have e : ((List.range (r + 1)).map fun j => Value.int .i64 (if j = r then v else B j)) = ((List.range r).map fun j => Value.int .i64 (B j)) ++ [.int .i64 v] := by
   rw [List.range_succ, List.map_append]
   congr 1
   ·exact List.map_congr_left fun j hj => by have := List.mem_range.1 hj; rw [if_neg (by omega)]
   ·simp
  rw [e]
  exact ho
 ·cases hv : va.ownBlock with
  | none => exact Or.inl rfl
  | some g =>
   right
   have hlt := (ha.1.lt g hv).2
   rcases hat with h1 | h1
   ·rw [h1]
    rcases hne with h2 | h2
    ·rw [h2]; intro h; cases h
    ·rw [← hv]; exact h2
   ·rw [h1]
    intro h2
    injection h2 with h2
    simp at h2
    omega
end Go.Proofs.YtikchpffkhohlaaGreat

namespace Go.Proofs.YtikchpffkhohlaaGreat
open Go.RowKit
set_option linter.unusedVariables false
def anyB (p : Nat → Bool) : Nat → Nat → Bool
 | 0, _ => false
 | f + 1, i => p i || anyB p f (i + 1)
def frm (b : Bk) : Nat → Nat → Nat → Bool
 | 0, _, _ => false
 | f + 1, k, old => decide (k = old) || anyB (fun i => frm b f (b.PX k i).toNat old) (b.PL k) 0
def Elder (n : Nat) (b : Bk) : Prop := ∀ k, k < n → ∀ i, i < b.PL k → 0 ≤ b.PX k i ∧ b.PX k i < (k : Int)
theorem parE_ok (k : Int) (X : Nat → Int) : ∀ f i last, parE k X f i last = 0 → (∀ j, i ≤ j → j < i + f → 0 ≤ X j ∧ X j < k ∧ last < X j) ∧ ∀ j, i ≤ j → j + 1 < i + f → X j < X (j + 1) := by
 intro f
 induction f with
 | zero => intro i last _; exact ⟨fun j h1 h2 => by omega, fun j h1 h2 => by omega⟩
 | succ f ih =>
  intro i last h
  simp only [parE] at h
  by_cases c1 : X i < 0 ∨ k ≤ X i
  ·rw [if_pos c1] at h; omega
  ·rw [if_neg c1] at h
   by_cases c2 : X i ≤ last
   ·rw [if_pos c2] at h; omega
   ·rw [if_neg c2] at h
    obtain ⟨h1, h2⟩ := ih (i + 1) (X i) h
    have c3 : ¬ X i < 0 := fun hh => c1 (Or.inl hh)
    have c4 : ¬ k ≤ X i := fun hh => c1 (Or.inr hh)
    refine ⟨fun j g1 g2 => ?_, fun j g1 g2 => ?_⟩
    ·by_cases e : j = i
     ·subst e; omega
     ·have := h1 j (by omega) (by omega); omega
    ·by_cases e : j = i
     ·subst e; exact (h1 (j + 1) (by omega) (by omega)).2.2
     ·exact h2 j (by omega) (by omega)
theorem scanV_ok (b : Bk) : ∀ f k, scanV b f k = 0 → ∀ j, k ≤ j → j < k + f → verE b j = 0 := by
 intro f
 induction f with
 | zero => intro k _ j h1 h2; omega
 | succ f ih =>
  intro k h j h1 h2
  simp only [scanV] at h
  by_cases c : verE b k = 0
  ·rw [if_pos c] at h
   by_cases e : j = k
   ·subst e; exact c
   ·exact ih (k + 1) h j (by omega) (by omega)
  ·rw [if_neg c] at h; exact absurd h c
structure Right (n : Nat) (b : Bk) : Prop where
 le : n ≤ 12
 elder : Elder n b
 rise : ∀ k, k < n → ∀ i, i + 1 < b.PL k → b.PX k i < b.PX k (i + 1)
 plan : ∀ k, k < n → chkP (b.nd k) (b.of k) (b.sz k) = 0
theorem right_of {n : Nat} {b : Bk} (h : bookE n b = 0) : Right n b := by
 unfold bookE at h
 by_cases hn : n ≤ 12
 ·rw [if_pos hn] at h
  have hall := scanV_ok b n 0 h
  have hp : ∀ k, k < n → parE k (b.PX k) (b.PL k) 0 (-1) = 0 ∧ chkP (b.nd k) (b.of k) (b.sz k) = 0 := fun k hk => by
   have h1 := hall k (Nat.zero_le _) (by omega)
   unfold verE at h1
   by_cases c : parE k (b.PX k) (b.PL k) 0 (-1) = 0
   ·rw [if_pos c] at h1; exact ⟨c, h1⟩
   ·rw [if_neg c] at h1; exact absurd h1 c
  refine ⟨hn, fun k hk i hi => ?_, fun k hk i hi => (parE_ok _ _ _ _ _ (hp k hk).1).2 i (Nat.zero_le _) (by omega), fun k hk => (hp k hk).2⟩
  have := (parE_ok _ _ _ _ _ (hp k hk).1).1 i (Nat.zero_le _) (by omega)
  omega
 ·rw [if_neg hn] at h; omega
end Go.Proofs.YtikchpffkhohlaaGreat

namespace Go.Proofs.YtikchpffkhohlaaGreat
open Go.RowKit
set_option linter.unusedVariables false
theorem owns_base {W : World} {base base' : Nat} {e : TypeId} {size : Nat} {v : Value} {k : Nat} {xs : List Value} (h : W.ownsRow base e size v k xs) (hb : base' ≤ base) : W.ownsRow base' e size v k xs := by
 obtain ⟨h1, h2⟩ := h
 refine ⟨h1, ?_⟩
 rcases h2 with h2 | ⟨g, cap, cur, hv, hg, hr⟩
 ·exact Or.inl h2
 ·exact Or.inr ⟨g, cap, cur, hv, Nat.le_trans hb hg, hr⟩
def OwnL (w0 wr : World) (v : Value) (l : List Int) : Prop := wr.ownsRow w0.heap.size 3 1 v l.length (l.map (Value.int .i64)) ∧ Below w0.heap.size w0 wr
theorem map_getD (l : List Int) : ((List.range l.length).map fun j => Value.int .i64 (l.getD j 0)) = l.map (Value.int .i64) := by
 apply List.ext_getElem (by simp)
 intro j h1 h2
 have hj : j < l.length := by simpa using h1
 simp [List.getD_eq_getElem?_getD, hj]
theorem OwnL.ownI {w0 wr : World} {v : Value} {l : List Int} (h : OwnL w0 wr v l) : OwnI w0 wr v l.length (fun j => l.getD j 0) := by
 refine ⟨?_, h.2⟩
 rw [map_getD]
 exact h.1
theorem OwnL.nil (w : World) : OwnL w w (.slice none 0 0) [] := ⟨World.ownsRow_nil _ _ _ _, Below.refl _ _⟩
theorem OwnL.up {w0 wr w' : World} {v : Value} {l : List Int} (h : OwnL w0 wr v l) (hb : Below wr.heap.size wr w') : OwnL w0 w' v l := ⟨owns_below h.1 hb, h.2.trans (hb.mono h.2.size)⟩
theorem OwnL.push {w0 wr w1 : World} {v v' : Value} {l : List Int} {x : Int} {o : Obj} (h : OwnL w0 wr v l)
  (ho : w1.ownsRow w0.heap.size 3 1 v' (l.length + 1) (l.map (Value.int .i64) ++ [.int .i64 x])) (hg : (wr.alloc o).grownBy w1 v.ownBlock) : OwnL w0 w1 v' (l ++ [x]) := by
 refine ⟨?_, ?_⟩
 ·rw [List.length_append, List.map_append]
  exact ho
 ·have hbA : Below w0.heap.size w0 (wr.alloc o) := h.2.alloc h.2.size o
  exact hbA.grown hg hbA.size (fun g hgg => (h.1.lt g hgg).1)
theorem OwnL.isl {w0 wr : World} {v : Value} {l : List Int} (h : OwnL w0 wr v l) (hr : l.length * 8 ≤ 140737488351232) : IntSl wr wr.heap.size v l.length (fun j => l.getD j 0) := by
 by_cases h0 : l.length = 0
 ·obtain ⟨ad, cap, e⟩ := h.ownI.shape
  obtain ⟨_, h2⟩ := h.1
  rcases h2 with ⟨e1, _⟩ | ⟨g, cp, cur, e1, _, _, hc, _⟩
  ·rw [e1, h0]; exact ⟨none, 0, rfl, ⟨Nat.le_refl _, by omega⟩, Or.inl rfl⟩
  ·exact ⟨_, cp, e1, ⟨hc, hr⟩, Or.inl h0⟩
 ·exact h.ownI.isl (by omega) hr
def LiPost (w : World) (l : List Int) (er : Int) (e : Ending) (w' : World) : Prop :=
 Below w.heap.size w w' ∧ ∃ vo, e = .returned (.tuple #[vo, .int .i64 er]) ∧ IntSl w' w'.heap.size vo l.length (fun j => l.getD j 0)
theorem liPost_nil {w w' : World} {er : Int} (hb : Below w.heap.size w w') : LiPost w [] er (.returned (.tuple #[.slice none 0 0, .int .i64 er])) w' :=
 ⟨hb, _, rfl, none, 0, rfl, ⟨Nat.le_refl _, by simp⟩, Or.inl rfl⟩
end Go.Proofs.YtikchpffkhohlaaGreat

namespace Go.Proofs.YtikchpffkhohlaaGreat
open Go.RowKit
set_option linter.unusedVariables false
def behL (b : Bk) (f k j : Nat) : List Int := ((List.range j).filter fun old => frm b f k old).map fun (x : Nat) => (x : Int)
end Go.Proofs.YtikchpffkhohlaaGreat
