/- Several texts of one proof, in their order. -/
import Derived.Test.YtfcpmpcfbhkacaaVb6
import Derived.Test.YtfcpmpcfbhkacaaVb0
import Derived.Test.YtfcpmpcfbhkacaaVb9

/- A share's error, are two shares alike: what the reference answers, and what package share answers. -/
namespace Go.Proofs.Ytfcpmpcfbhkacaa

open Go.RowKit
set_option linter.unusedVariables false

/-- are the first n all numbers? -/
def numsB (n : Nat) (X : Nat → Int) : Bool := decide (∀ j, j < n → isNum (X j) = true)
/-- a share's error -/
def oneE (nd of sz N : Int) (L : Nat) (X : Nat → Int) : Int :=
  if planOk nd of sz = true then (if 0 ≤ N ∧ N < of then (if (L : Int) = rowsN nd sz then (if numsB L X = true then 0 else 2) else 3) else 4) else 2
def sameB (N1 N2 : Int) (n m : Nat) (X Y : Nat → Int) : Bool := decide (N1 = N2) && eqB n m X Y

/-- rows: so many are wanted, and no more -/
theorem rowsN_uniq {d n r : Nat} (hd : 1 ≤ d ∧ d ≤ 4) (h1 : n ≤ r * d) (h2 : r * d < n + d) : rowsN (d : Int) (n : Int) = r := by
  unfold rowsN
  rcases (show d = 1 ∨ d = 2 ∨ d = 3 ∨ d = 4 by omega) with rfl | rfl | rfl | rfl <;> omega

theorem rowsOf_any (nd of sz : Int) (w : World) : Calls Try.prog 20 #[planV nd of sz] w fun e w' => e = .returned (.int .i64 (longP nd of sz)) ∧ Below w.heap.size w w' := by
  have hbx := below_alloc w (.cells #[.int .i64 nd, .int .i64 of, .int .i64 sz] 23)
  have HC := hid (checkPlan_any nd of sz (w.alloc (.cells #[.int .i64 nd, .int .i64 of, .int .i64 sz] 23)))
  unfold longP
  by_cases hp : planOk nd of sz = true
  · have e : chkP nd of sz = 0 := by unfold chkP; rw [if_pos hp]
    rw [if_pos hp]
    rw [e] at HC
    obtain ⟨hnd, hof, hsz⟩ := planOk_spec hp
    obtain ⟨d, rfl⟩ : ∃ d : Nat, nd = d := ⟨nd.toNat, by omega⟩
    obtain ⟨n, rfl⟩ : ∃ n : Nat, sz = n := ⟨sz.toNat, by omega⟩
    have HBx := hid hbx
    clear hp e hbx
    unfold planV
    go_enter Try.func20, Try.ntmps20
    go_wp2_with fail
    refine HC.out.mono ?_
    rintro e w1 ⟨rfl, hb1⟩
    have p0 : w1.cell? ⟨w.heap.size, 0, none⟩ = some (.int .i64 (d : Int)) := by rw [hb1.cell (by simp)]; exact cell_at (heap_alloc_new _ _) rfl
    have p2 : w1.cell? ⟨w.heap.size, 2, none⟩ = some (.int .i64 (n : Int)) := by rw [hb1.cell (by simp)]; exact cell_at (heap_alloc_new _ _) rfl
    have HB1 := hid (HBx.out.trans (hb1.mono HBx.out.size))
    clear hb1
    go_wp2
    go_loop [3, 4] (fun a b => ∃ r h : Nat, a = .int .i64 r ∧ b = .int .i64 h ∧ Hid (h = r * d) ∧ h < n + d ∧ r ≤ h) (fun _ b => n + d - (intOf b).toNat)
    case atStart => exact ⟨0, 0, rfl, rfl, by show 0 = 0 * d; omega, by omega, by omega⟩
    case round =>
      obtain ⟨r, h, rfl, rfl, HH, hlt, hrh⟩ := hrel
      by_cases hgo : h < n
      · have hgi : (h : Int) < (n : Int) := by omega
        go_wp2
        go_round
        case rel => exact ⟨r + 1, h + d, by go_num, by go_num, by show h + d = (r + 1) * d; rw [Nat.add_mul, Nat.one_mul, HH.out], by omega, by omega⟩
        case measure => simp only [intOf]; omega
      · have hgi : (n : Int) ≤ (h : Int) := by omega
        go_wp2
        go_ret
        refine ⟨?_, HB1.out⟩
        rw [rowsN_uniq (r := r) (by omega) (by rw [← HH.out]; omega) (by rw [← HH.out]; omega)]
        rfl
  · have e : chkP nd of sz = 2 := by unfold chkP; rw [if_neg hp]
    rw [if_neg hp]
    rw [e] at HC
    have HBx := hid hbx
    clear hp e hbx
    unfold planV
    go_enter Try.func20, Try.ntmps20
    go_wp2_with (go_at_call 18; go_must (refine HC.out.mono ?_; rintro e w1 ⟨rfl, hb1⟩; have HB1 := hid (HBx.out.trans (hb1.mono HBx.out.size)); clear hb1))
    go_ret
    exact ⟨rfl, HB1.out⟩

theorem sameShare_any (N1 N2 : Int) (V1 V2 : Value) (n m : Nat) (X Y : Nat → Int) (w : World) (h1 : IntSl w w.heap.size V1 n X) (h2 : IntSl w w.heap.size V2 m Y) :
    Calls Try.prog 24 #[shareV N1 V1, shareV N2 V2] w fun e w' => e = .returned (.bool (sameB N1 N2 n m X Y)) ∧ Below w.heap.size w w' := by
  have hb := ((Below.refl w.heap.size w).alloc (Nat.le_refl _) (.cells #[.int .i64 N1, V1] 27)).alloc (by simp) (.cells #[.int .i64 N2, V2] 27)
  have HE := hid (equal_isl (h1.up hb) (h2.up hb))
  have HB := hid hb
  obtain ⟨a1, c1, rfl, _, _⟩ := h1
  obtain ⟨a2, c2, rfl, _, _⟩ := h2
  clear hb
  unfold shareV sameB
  by_cases hn : N1 = N2
  · subst hn
    rw [decide_eq_true rfl, Bool.true_and]
    go_enter Try.func24, Try.ntmps24
    go_wp2_with (go_at_call 26; go_must (refine HE.out.mono ?_; rintro e w1 ⟨rfl, q, hq⟩; have HQ := hid hq; clear hq))
    go_ret
    refine ⟨rfl, ?_⟩
    rw [HQ.out]
    exact HB.out.trans ⟨rfl, rfl, rfl, Nat.le_refl _, fun _ _ => rfl⟩
  · rw [decide_eq_false hn, Bool.false_and]
    have he : (N1 == N2) = false := by simpa using hn
    clear hn
    go_enter Try.func24, Try.ntmps24
    go_wp2
    go_ret
    exact ⟨rfl, HB.out⟩

/-- numbers from place k on, m of them -/
def numsFrom (X : Nat → Int) (n k : Nat) : Bool := decide (∀ j, j < n → k ≤ j → isNum (X j) = true)

theorem numsFrom_zero (X : Nat → Int) (n : Nat) : numsFrom X n 0 = numsB n X := by
  unfold numsFrom numsB
  rw [decide_eq_decide]
  exact ⟨fun h j hj => h j hj (Nat.zero_le _), fun h j hj _ => h j hj⟩

theorem numsFrom_bad {X : Nat → Int} {n k : Nat} {b : Bool} (hk : k < n) (h : numsFrom X n k = b) (hb : isNum (X k) = false) : b = false := by
  rw [← h]
  refine decide_eq_false fun h1 => ?_
  have := h1 k hk (Nat.le_refl _)
  rw [hb] at this
  cases this

theorem numsFrom_next {X : Nat → Int} {n k : Nat} {b : Bool} (h : numsFrom X n k = b) (hb : isNum (X k) = true) : numsFrom X n (k + 1) = b := by
  rw [← h]
  unfold numsFrom
  rw [decide_eq_decide]
  constructor
  · intro h1 j hjn hj
    by_cases e : j = k
    · rw [e]; exact hb
    · exact h1 j hjn (by omega)
  · intro h1 j hjn hj
    exact h1 j hjn (by omega)

theorem numsFrom_end {X : Nat → Int} {n : Nat} {b : Bool} (h : numsFrom X n n = b) : b = true := by
  rw [← h]
  exact decide_eq_true fun j h1 h2 => by omega

set_option maxHeartbeats 1000000 in
theorem checkShare_any (nd of sz N : Int) (V : Value) (L : Nat) (X : Nat → Int) (w : World) (h : IntSl w w.heap.size V L X) :
    Calls Try.prog 22 #[planV nd of sz, shareV N V] w fun e w' => e = .returned (.int .i64 (oneE nd of sz N L X)) ∧ Below w.heap.size w w' := by
  obtain ⟨W, hW⟩ : ∃ W, (w.alloc (.cells #[.int .i64 nd, .int .i64 of, .int .i64 sz] 23)).alloc (.cells #[.int .i64 N, V] 27) = W := ⟨_, rfl⟩
  have hb : Below w.heap.size w W := by rw [← hW]; exact ((Below.refl w.heap.size w).alloc (Nat.le_refl _) _).alloc (by simp) _
  have p0 : W.cell? ⟨w.heap.size, 0, none⟩ = some (.int .i64 nd) := by rw [← hW]; exact cell_at (heap_two_old w _ _) rfl
  have p1 : W.cell? ⟨w.heap.size, 1, none⟩ = some (.int .i64 of) := by rw [← hW]; exact cell_at (heap_two_old w _ _) rfl
  have p2 : W.cell? ⟨w.heap.size, 2, none⟩ = some (.int .i64 sz) := by rw [← hW]; exact cell_at (heap_two_old w _ _) rfl
  have s0 : W.cell? ⟨w.heap.size + 1, 0, none⟩ = some (.int .i64 N) := by rw [← hW]; exact cell_at (heap_two_new w _ _) rfl
  have s1 : W.cell? ⟨w.heap.size + 1, 1, none⟩ = some V := by rw [← hW]; exact cell_at (heap_two_new w _ _) rfl
  have KP : Hid (∀ w', Below W.heap.size W w' → (w'.cell? ⟨w.heap.size, 0, none⟩ = some (.int .i64 nd) ∧ w'.cell? ⟨w.heap.size, 1, none⟩ = some (.int .i64 of) ∧ w'.cell? ⟨w.heap.size, 2, none⟩ = some (.int .i64 sz)) ∧ w'.cell? ⟨w.heap.size + 1, 0, none⟩ = some (.int .i64 N) ∧ w'.cell? ⟨w.heap.size + 1, 1, none⟩ = some V) := fun w' hb' =>
    ⟨⟨by rw [hb'.cell (cell_lt p0)]; exact p0, by rw [hb'.cell (cell_lt p1)]; exact p1, by rw [hb'.cell (cell_lt p2)]; exact p2⟩, by rw [hb'.cell (cell_lt s0)]; exact s0, by rw [hb'.cell (cell_lt s1)]; exact s1⟩
  have HI := hid (h.up hb)
  obtain ⟨a1, c1, hv, ⟨hcap, hbig⟩, _⟩ := h
  subst hv
  have HC := hid (checkPlan_any nd of sz W)
  have HRo := hid (rowsOf_any nd of sz)
  unfold planV shareV
  obtain ⟨ans, hans⟩ : ∃ a, oneE nd of sz N L X = a := ⟨_, rfl⟩
  rw [hans]
  unfold oneE at hans
  by_cases hp : planOk nd of sz = true
  · have e : chkP nd of sz = 0 := by unfold chkP; rw [if_pos hp]
    have e2 : longP nd of sz = rowsN nd sz := by unfold longP; rw [if_pos hp]
    rw [if_pos hp] at hans
    rw [e] at HC
    simp only [e2] at HRo
    have hrw := rowsN_bd (planOk_spec hp).1 (planOk_spec hp).2.2
    have hRb : rowsN nd sz ≤ 24 := hrw.2.2.2.1
    generalize rowsN nd sz = R at *
    have HBW := hid hb
    have HPl := hid (planOk_spec hp)
    clear hp e e2 hrw hb
    by_cases hN : 0 ≤ N ∧ N < of
    · rw [if_pos hN] at hans
      have HA := hid hans
      clear hans
      go_enter Try.func22, Try.ntmps22
      go_wp2_with (go_at_call 18; go_must (refine HC.out.mono ?_; rintro e w1 ⟨rfl, hb1⟩; obtain ⟨⟨p0, p1, p2⟩, s0, s1⟩ := KP.out w1 hb1; have HB1 := hid hb1; clear hb1))
      have hne : Nonempty (Of (Below W.heap.size W)) := ⟨⟨W, Below.refl _ _⟩⟩
      have F0 : ∀ u : Of (Below W.heap.size W), u.val.cell? ⟨w.heap.size, 0, none⟩ = some (.int .i64 nd) := fun u => (KP.out u.val u.is).1.1
      have F1 : ∀ u : Of (Below W.heap.size W), u.val.cell? ⟨w.heap.size, 1, none⟩ = some (.int .i64 of) := fun u => (KP.out u.val u.is).1.2.1
      have F2 : ∀ u : Of (Below W.heap.size W), u.val.cell? ⟨w.heap.size, 2, none⟩ = some (.int .i64 sz) := fun u => (KP.out u.val u.is).1.2.2
      have F4 : ∀ u : Of (Below W.heap.size W), u.val.cell? ⟨w.heap.size + 1, 1, none⟩ = some (.slice a1 L c1) := fun u => (KP.out u.val u.is).2.2
      have HD1 : Hid (Below W.heap.size W w1.drew) := HB1.out.trans ⟨rfl, rfl, rfl, Nat.le_refl _, fun _ _ => rfl⟩
      refine region_mixed (Below W.heap.size W) [([0, 1, 2, 3], 4)] [5, 6] (by kernel_rfl) (by kernel_rfl) HD1.out ?_
      refine mixO_cons ?_
      repeat (go_big_quiet_step (fail))
      refine wpQuiet_nil ?_
      intro K hK
      go_wp2_with fail
      refine Calls.mono (HRo.out _) ?_
      rintro e w2 ⟨rfl, hb2⟩
      have HB2 : Hid (Below W.heap.size W w2) := HD1.out.trans (hb2.mono HD1.out.size)
      clear hb2
      go_wp2
      refine ⟨rfl, hK _ _ HB2.out ?_⟩
      clear hK K
      refine mixO_nil ?_
      by_cases hL : (L : Int) = (R : Int)
      · have HA2 := HA.out
        rw [if_pos hL] at HA2
        have HA3 := hid HA2
        clear HA2
        have hLb : ((L : Int) != (R : Int)) = false := by simpa using hL
        have HLR : Hid (L = R) := by show L = R; omega
        clear hL
        repeat (go_big_quiet_step (fail))
        refine wpQuiet_nil ?_
        obtain ⟨⟨p0, p1, p2⟩, s0, s1⟩ := KP.out w2 HB2.out
        go_wp2
        go_loop [35] (fun i => ∃ k : Nat, k ≤ L ∧ i = .int .i64 k ∧ Hid (numsFrom X L k = numsB L X)) (fun i => L - (intOf i).toNat)
        case atStart => exact ⟨0, Nat.zero_le _, rfl, numsFrom_zero X L⟩
        case round =>
          obtain ⟨k, hk, rfl, HF⟩ := hrel
          by_cases hlt : k < L
          · have hki : (k : Int) < (L : Int) := by omega
            have hod : ∃ bo oo, a1 = some ⟨bo, oo, none⟩ ∧ w2.cell? ⟨bo, oo + k, none⟩ = some (.int .i64 (X k)) := by
              obtain ⟨ad, cp, e, _, h2⟩ := HI.out
              injection e with e4
              subst e4
              rcases h2 with h0 | ⟨bo, oo, rfl, hb, hx⟩
              · omega
              · exact ⟨bo, oo, rfl, by rw [HB2.out.cell hb]; exact hx k hlt⟩
            obtain ⟨bo, oo, rfl, god⟩ := hod
            cases hn : isNum (X k) with
            | true =>
              go_wp2_with (go_at_call 43; go_must (refine (isNumber_any _ _).mono ?_; rintro e wq ⟨rfl, hwq⟩; subst wq; rw [hn]))
              go_round
              case rel => exact ⟨k + 1, by omega, by go_num, numsFrom_next HF.out hn⟩
              case measure => simp only [intOf]; omega
            | false =>
              have hnb := numsFrom_bad hlt HF.out hn
              have hA := HA3.out
              rw [hnb, if_neg (by decide)] at hA
              subst hA
              clear hnb
              go_wp2_with (go_at_call 43; go_must (refine (isNumber_any _ _).mono ?_; rintro e wq ⟨rfl, hwq⟩; subst wq; rw [hn]))
              go_ret
              exact ⟨rfl, HBW.out.trans (HB2.out.mono HBW.out.size)⟩
          · have hke : k = L := by omega
            subst hke
            have hnb := numsFrom_end HF.out
            have hA := HA3.out
            rw [hnb, if_pos rfl] at hA
            subst hA
            clear HF hnb
            go_wp2
            go_ret
            exact ⟨rfl, HBW.out.trans (HB2.out.mono HBW.out.size)⟩
      · have hA := HA.out
        rw [if_neg hL] at hA
        subst hA
        have hLb : ((L : Int) != (R : Int)) = true := by simpa using hL
        clear hL
        repeat (go_big_quiet_step (fail))
        refine wpQuiet_nil ?_
        go_wp2
        go_ret
        exact ⟨rfl, HBW.out.trans (HB2.out.mono HBW.out.size)⟩
    · rw [if_neg hN] at hans
      subst hans
      by_cases hN0 : N < 0
      · clear hN
        go_enter Try.func22, Try.ntmps22
        go_wp2_with (go_at_call 18; go_must (refine HC.out.mono ?_; rintro e w1 ⟨rfl, hb1⟩; obtain ⟨⟨p0, p1, p2⟩, s0, s1⟩ := KP.out w1 hb1; have HB1 := hid hb1; clear hb1))
        go_ret
        exact ⟨rfl, HBW.out.trans (HB1.out.mono HBW.out.size)⟩
      · have hN1 : of ≤ N := by omega
        clear hN
        go_enter Try.func22, Try.ntmps22
        go_wp2_with (go_at_call 18; go_must (refine HC.out.mono ?_; rintro e w1 ⟨rfl, hb1⟩; obtain ⟨⟨p0, p1, p2⟩, s0, s1⟩ := KP.out w1 hb1; have HB1 := hid hb1; clear hb1))
        go_ret
        exact ⟨rfl, HBW.out.trans (HB1.out.mono HBW.out.size)⟩
  · have e : chkP nd of sz = 2 := by unfold chkP; rw [if_neg hp]
    rw [if_neg hp] at hans
    subst hans
    rw [e] at HC
    have HBW := hid hb
    clear hp e hb
    go_enter Try.func22, Try.ntmps22
    go_wp2_with (go_at_call 18; go_must (refine HC.out.mono ?_; rintro e w1 ⟨rfl, hb1⟩; have HB1 := hid hb1; clear hb1))
    go_ret
    exact ⟨rfl, HBW.out.trans (HB1.out.mono HBW.out.size)⟩

theorem shLong (nd of sz : Int) (w : World) : Calls Try.prog 19 #[planV nd of sz] w fun e w' => e = .returned (.int .i64 (longP nd of sz)) ∧ Below w.heap.size w w' := by
  have hbx := below_alloc w (.cells #[.int .i64 nd, .int .i64 of, .int .i64 sz] 23)
  have HC := hid (shCheck nd of sz (w.alloc (.cells #[.int .i64 nd, .int .i64 of, .int .i64 sz] 23)))
  have HBx := hid hbx
  clear hbx
  unfold longP
  by_cases hp : planOk nd of sz = true
  · have e : chkP nd of sz = 0 := by unfold chkP; rw [if_pos hp]
    rw [if_pos hp]
    rw [e] at HC
    obtain ⟨hnd, hof, hsz⟩ := planOk_spec hp
    obtain ⟨r, hr⟩ : ∃ r : Int, (sz + nd - 1) / nd = r := ⟨_, rfl⟩
    have hr0 : 0 ≤ r ∧ r ≤ 27 := by
      rw [← hr]
      rcases (show nd = 1 ∨ nd = 2 ∨ nd = 3 ∨ nd = 4 by omega) with rfl | rfl | rfl | rfl <;> omega
    have hR : ((rowsN nd sz : Nat) : Int) = r := by unfold rowsN; omega
    rw [hR]
    have ht : (sz + nd - 1).tdiv nd = r := by rw [Int.tdiv_eq_ediv_of_nonneg (by omega)]; exact hr
    clear hp e hr hR
    unfold planV
    go_enter Try.func19, Try.ntmps19
    go_wp2_with fail
    refine HC.out.mono ?_
    rintro e w1 ⟨rfl, hb1⟩
    have p0 : w1.cell? ⟨w.heap.size, 0, none⟩ = some (.int .i64 nd) := by rw [hb1.cell (by simp)]; exact cell_at (heap_alloc_new _ _) rfl
    have p2 : w1.cell? ⟨w.heap.size, 2, none⟩ = some (.int .i64 sz) := by rw [hb1.cell (by simp)]; exact cell_at (heap_alloc_new _ _) rfl
    have HB1 := hid (HBx.out.trans (hb1.mono HBx.out.size))
    clear hb1
    go_wp2
    go_ret
    exact ⟨rfl, HB1.out⟩
  · have e : chkP nd of sz = 2 := by unfold chkP; rw [if_neg hp]
    rw [if_neg hp]
    rw [e] at HC
    clear hp e
    unfold planV
    go_enter Try.func19, Try.ntmps19
    go_wp2_with (go_at_call 17; go_must (refine HC.out.mono ?_; rintro e w1 ⟨rfl, hb1⟩; have HB1 := hid (HBx.out.trans (hb1.mono HBx.out.size)); clear hb1))
    go_ret
    exact ⟨rfl, HB1.out⟩

/-- what keeps a list from being that many numbers -/
def numE (n : Nat) (X : Nat → Int) (many : Int) : Int := if (n : Int) = many then (if numsB n X = true then 0 else 2) else 3

theorem shNumbers (v : Value) (n : Nat) (X : Nat → Int) (many : Int) (w : World) (h : IntSl w w.heap.size v n X) :
    Calls Try.prog 37 #[v, .int .i64 many] w fun e w' => e = .returned (.int .i64 (numE n X many)) ∧ w' = w := by
  obtain ⟨a1, c1, rfl, ⟨hcap, hbig⟩, hx⟩ := h
  obtain ⟨ans, hans⟩ : ∃ a, numE n X many = a := ⟨_, rfl⟩
  rw [hans]
  unfold numE at hans
  by_cases hm : (n : Int) = many
  · rw [if_pos hm] at hans
    subst hm
    have HA := hid hans
    clear hans
    go_enter Try.func37, Try.ntmps37
    go_wp2
    go_loop [14] (fun i => ∃ k : Nat, k ≤ n ∧ i = .int .i64 k ∧ Hid (numsFrom X n k = numsB n X)) (fun i => n - (intOf i).toNat)
    case atStart => exact ⟨0, Nat.zero_le _, rfl, numsFrom_zero X n⟩
    case round =>
      obtain ⟨k, hk, rfl, HF⟩ := hrel
      by_cases hlt : k < n
      · have hki : (k : Int) < (n : Int) := by omega
        have hod : ∃ bo oo, a1 = some ⟨bo, oo, none⟩ ∧ w.cell? ⟨bo, oo + k, none⟩ = some (.int .i64 (X k)) := by
          rcases hx with h0 | ⟨bo, oo, rfl, hb, hx⟩
          · omega
          · exact ⟨bo, oo, rfl, hx k hlt⟩
        obtain ⟨bo, oo, rfl, god⟩ := hod
        by_cases hn : 0 ≤ X k ∧ X k ≤ 30
        · have hn2 : isNum (X k) = true := (isNum_iff _).2 hn
          go_wp2_with (go_at_call 57; go_must (refine (check_ok _ hn _).mono ?_; rintro e wq ⟨rfl, hwq⟩; subst wq))
          go_round
          case rel => exact ⟨k + 1, by omega, by go_num, numsFrom_next HF.out hn2⟩
          case measure => simp only [intOf]; omega
        · have hn2 : isNum (X k) = false := decide_eq_false hn
          have hnb := numsFrom_bad hlt HF.out hn2
          have hA := HA.out
          rw [hnb, if_neg (by decide)] at hA
          subst hA
          clear hnb
          go_wp2_with (go_at_call 57; go_must (refine (check_bad _ hn _).mono ?_; rintro e wq ⟨rfl, hwq⟩; subst wq))
          go_ret
          exact ⟨rfl, rfl⟩
      · have hke : k = n := by omega
        subst hke
        have hnb := numsFrom_end HF.out
        have hA := HA.out
        rw [hnb, if_pos rfl] at hA
        subst hA
        clear HF hnb
        go_wp2
        go_ret
        exact ⟨rfl, rfl⟩
  · rw [if_neg hm] at hans
    subst hans
    have hmb : ((n : Int) != many) = true := by simpa using hm
    clear hm
    go_enter Try.func37, Try.ntmps37
    go_wp2
    go_ret
    exact ⟨rfl, rfl⟩

set_option maxHeartbeats 1000000 in
theorem shOne (nd of sz N : Int) (V : Value) (L : Nat) (X : Nat → Int) (w : World) (h : IntSl w w.heap.size V L X) :
    Calls Try.prog 21 #[planV nd of sz, shareV N V] w fun e w' => e = .returned (.int .i64 (oneE nd of sz N L X)) ∧ Below w.heap.size w w' := by
  obtain ⟨W, hW⟩ : ∃ W, (w.alloc (.cells #[.int .i64 nd, .int .i64 of, .int .i64 sz] 23)).alloc (.cells #[.int .i64 N, V] 27) = W := ⟨_, rfl⟩
  have hb : Below w.heap.size w W := by rw [← hW]; exact ((Below.refl w.heap.size w).alloc (Nat.le_refl _) _).alloc (by simp) _
  have p0 : W.cell? ⟨w.heap.size, 0, none⟩ = some (.int .i64 nd) := by rw [← hW]; exact cell_at (heap_two_old w _ _) rfl
  have p1 : W.cell? ⟨w.heap.size, 1, none⟩ = some (.int .i64 of) := by rw [← hW]; exact cell_at (heap_two_old w _ _) rfl
  have p2 : W.cell? ⟨w.heap.size, 2, none⟩ = some (.int .i64 sz) := by rw [← hW]; exact cell_at (heap_two_old w _ _) rfl
  have s0 : W.cell? ⟨w.heap.size + 1, 0, none⟩ = some (.int .i64 N) := by rw [← hW]; exact cell_at (heap_two_new w _ _) rfl
  have s1 : W.cell? ⟨w.heap.size + 1, 1, none⟩ = some V := by rw [← hW]; exact cell_at (heap_two_new w _ _) rfl
  have KP : Hid (∀ w', Below W.heap.size W w' → (w'.cell? ⟨w.heap.size, 0, none⟩ = some (.int .i64 nd) ∧ w'.cell? ⟨w.heap.size, 1, none⟩ = some (.int .i64 of) ∧ w'.cell? ⟨w.heap.size, 2, none⟩ = some (.int .i64 sz)) ∧ w'.cell? ⟨w.heap.size + 1, 0, none⟩ = some (.int .i64 N) ∧ w'.cell? ⟨w.heap.size + 1, 1, none⟩ = some V) := fun w' hb' =>
    ⟨⟨by rw [hb'.cell (cell_lt p0)]; exact p0, by rw [hb'.cell (cell_lt p1)]; exact p1, by rw [hb'.cell (cell_lt p2)]; exact p2⟩, by rw [hb'.cell (cell_lt s0)]; exact s0, by rw [hb'.cell (cell_lt s1)]; exact s1⟩
  have HI := hid (h.up hb)
  obtain ⟨a1, c1, hv, ⟨hcap, hbig⟩, _⟩ := h
  subst hv
  have HC := hid (shCheck nd of sz W)
  have HRo := hid (shLong nd of sz)
  unfold planV shareV
  obtain ⟨ans, hans⟩ : ∃ a, oneE nd of sz N L X = a := ⟨_, rfl⟩
  rw [hans]
  unfold oneE at hans
  by_cases hp : planOk nd of sz = true
  · have e : chkP nd of sz = 0 := by unfold chkP; rw [if_pos hp]
    have e2 : longP nd of sz = rowsN nd sz := by unfold longP; rw [if_pos hp]
    rw [if_pos hp] at hans
    rw [e] at HC
    simp only [e2] at HRo
    have hrw := rowsN_bd (planOk_spec hp).1 (planOk_spec hp).2.2
    have hRb : rowsN nd sz ≤ 24 := hrw.2.2.2.1
    generalize rowsN nd sz = R at *
    have HBW := hid hb
    have HPl := hid (planOk_spec hp)
    clear hp e e2 hrw hb
    by_cases hN : 0 ≤ N ∧ N < of
    · rw [if_pos hN] at hans
      have HA : Hid (numE L X (R : Int) = ans) := hans
      clear hans
      go_enter Try.func21, Try.ntmps21
      go_wp2_with (go_at_call 17; go_must (refine HC.out.mono ?_; rintro e w1 ⟨rfl, hb1⟩; obtain ⟨⟨p0, p1, p2⟩, s0, s1⟩ := KP.out w1 hb1; have HB1 := hid hb1; clear hb1))
      have hne : Nonempty (Of (Below W.heap.size W)) := ⟨⟨W, Below.refl _ _⟩⟩
      have F0 : ∀ u : Of (Below W.heap.size W), u.val.cell? ⟨w.heap.size, 0, none⟩ = some (.int .i64 nd) := fun u => (KP.out u.val u.is).1.1
      have F1 : ∀ u : Of (Below W.heap.size W), u.val.cell? ⟨w.heap.size, 1, none⟩ = some (.int .i64 of) := fun u => (KP.out u.val u.is).1.2.1
      have F2 : ∀ u : Of (Below W.heap.size W), u.val.cell? ⟨w.heap.size, 2, none⟩ = some (.int .i64 sz) := fun u => (KP.out u.val u.is).1.2.2
      have F4 : ∀ u : Of (Below W.heap.size W), u.val.cell? ⟨w.heap.size + 1, 1, none⟩ = some (.slice a1 L c1) := fun u => (KP.out u.val u.is).2.2
      have HD1 : Hid (Below W.heap.size W w1.drew) := HB1.out.trans ⟨rfl, rfl, rfl, Nat.le_refl _, fun _ _ => rfl⟩
      refine region_mixed (Below W.heap.size W) [([0, 1, 2], 3), ([], 4)] [5] (by kernel_rfl) (by kernel_rfl) HD1.out ?_
      refine mixO_cons ?_
      repeat (go_big_quiet_step (fail))
      refine wpQuiet_nil ?_
      intro K hK
      go_wp2_with fail
      refine Calls.mono (HRo.out _) ?_
      rintro e w2 ⟨rfl, hb2⟩
      have HB2 : Hid (Below W.heap.size W w2) := HD1.out.trans (hb2.mono HD1.out.size)
      clear hb2
      go_wp2
      refine ⟨rfl, hK _ _ HB2.out ?_⟩
      clear hK K
      refine mixO_cons (lq := []) ?_ rfl
      refine wpQuiet_nil ?_
      intro K hK
      have HN := hid (shNumbers _ L X (R : Int) w2 (HI.out.up HB2.out))
      rw [HA.out] at HN
      go_wp2_with fail
      refine Calls.mono HN.out ?_
      rintro e w3 ⟨rfl, hw3⟩
      subst w3
      go_wp2
      refine ⟨rfl, hK _ _ HB2.out ?_⟩
      clear hK K
      refine mixO_nil ?_
      repeat (go_big_quiet_step (fail))
      refine wpQuiet_nil ?_
      go_wp2
      go_ret
      exact ⟨rfl, HBW.out.trans (HB2.out.mono HBW.out.size)⟩
    · rw [if_neg hN] at hans
      subst hans
      by_cases hN0 : N < 0
      · clear hN
        go_enter Try.func21, Try.ntmps21
        go_wp2_with (go_at_call 17; go_must (refine HC.out.mono ?_; rintro e w1 ⟨rfl, hb1⟩; obtain ⟨⟨p0, p1, p2⟩, s0, s1⟩ := KP.out w1 hb1; have HB1 := hid hb1; clear hb1))
        go_ret
        exact ⟨rfl, HBW.out.trans (HB1.out.mono HBW.out.size)⟩
      · have hN1 : of ≤ N := by omega
        clear hN
        go_enter Try.func21, Try.ntmps21
        go_wp2_with (go_at_call 17; go_must (refine HC.out.mono ?_; rintro e w1 ⟨rfl, hb1⟩; obtain ⟨⟨p0, p1, p2⟩, s0, s1⟩ := KP.out w1 hb1; have HB1 := hid hb1; clear hb1))
        go_ret
        exact ⟨rfl, HBW.out.trans (HB1.out.mono HBW.out.size)⟩
  · have e : chkP nd of sz = 2 := by unfold chkP; rw [if_neg hp]
    rw [if_neg hp] at hans
    subst hans
    rw [e] at HC
    have HBW := hid hb
    clear hp e hb
    go_enter Try.func21, Try.ntmps21
    go_wp2_with (go_at_call 17; go_must (refine HC.out.mono ?_; rintro e w1 ⟨rfl, hb1⟩; have HB1 := hid hb1; clear hb1))
    go_ret
    exact ⟨rfl, HBW.out.trans (HB1.out.mono HBW.out.size)⟩

theorem shSame (N1 N2 : Int) (V1 V2 : Value) (n m : Nat) (X Y : Nat → Int) (w : World) (h1 : IntSl w w.heap.size V1 n X) (h2 : IntSl w w.heap.size V2 m Y) :
    Calls Try.prog 23 #[shareV N1 V1, shareV N2 V2] w fun e w' => e = .returned (.bool (sameB N1 N2 n m X Y)) ∧ Below w.heap.size w w' := by
  have hb := ((Below.refl w.heap.size w).alloc (Nat.le_refl _) (.cells #[.int .i64 N1, V1] 27)).alloc (by simp) (.cells #[.int .i64 N2, V2] 27)
  have HE := hid (equal_isl (h1.up hb) (h2.up hb))
  have HB := hid hb
  obtain ⟨a1, c1, rfl, _, _⟩ := h1
  obtain ⟨a2, c2, rfl, _, _⟩ := h2
  clear hb
  unfold shareV sameB
  by_cases hn : N1 = N2
  · subst hn
    rw [decide_eq_true rfl, Bool.true_and]
    go_enter Try.func23, Try.ntmps23
    go_wp2_with (go_at_call 26; go_must (refine HE.out.mono ?_; rintro e w1 ⟨rfl, q, hq⟩; have HQ := hid hq; clear hq))
    go_ret
    refine ⟨rfl, ?_⟩
    rw [HQ.out]
    exact HB.out.trans ⟨rfl, rfl, rfl, Nat.le_refl _, fun _ _ => rfl⟩
  · rw [decide_eq_false hn, Bool.false_and]
    have he : (N1 == N2) = false := by simpa using hn
    clear hn
    go_enter Try.func23, Try.ntmps23
    go_wp2
    go_ret
    exact ⟨rfl, HB.out⟩

end Go.Proofs.Ytfcpmpcfbhkacaa
