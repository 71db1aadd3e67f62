/- Are two peers alike: what the reference answers, and what package peer answers where it goes the same way. -/
import Derived.Test.YtokebjclbpgljadPeerRef
namespace Go.Proofs.Ytokebjclbpgljad
open Go.RowKit
set_option linter.unusedVariables false

set_option maxHeartbeats 1000000 in
theorem sameK_any (v1 v2 N1 N2 : Int) (pv qv : Value) (l m : Nat) (X Y : Nat → Int) (w : World) (h1 : IntSl w w.heap.size pv l X) (h2 : IntSl w w.heap.size qv m Y) :
    Calls Try.prog 72 #[keptV v1 N1 pv, keptV v2 N2 qv] w fun e w' => e = .returned (.bool (decide (v1 = v2) && sameB N1 N2 l m X Y)) ∧ Below w.heap.size w w' := by
  have hb := ((Below.refl w.heap.size w).alloc (Nat.le_refl _) (.cells #[.int .i64 v1, .int .i64 N1, pv] 58)).alloc (by simp) (.cells #[.int .i64 v2, .int .i64 N2, qv] 58)
  have HE := hid (sameShare_any N1 N2 _ _ l m X Y _ (h1.up hb) (h2.up hb))
  have HB := hid hb
  obtain ⟨a1, c1, rfl, _, _⟩ := h1
  obtain ⟨a2, c2, rfl, _, _⟩ := h2
  generalize sameB N1 N2 l m X Y = sb at *
  clear hb
  unfold shareV at HE
  unfold keptV
  by_cases hv : v1 = v2
  · subst hv
    rw [decide_eq_true rfl, Bool.true_and]
    go_enter Try.func72, Try.ntmps72
    go_wp2_with fail
    refine HE.out.mono ?_
    rintro e w3 ⟨rfl, hb3⟩
    have HB3 := hid (HB.out.trans (hb3.mono HB.out.size))
    clear hb3
    go_wp2
    go_ret
    exact ⟨rfl, HB3.out⟩
  · rw [decide_eq_false hv, Bool.false_and]
    have he : (v1 == v2) = false := by simpa using hv
    clear hv HE
    go_enter Try.func72, Try.ntmps72
    go_wp2
    go_ret
    exact ⟨rfl, HB.out⟩

set_option maxHeartbeats 2000000 in
theorem equalFunc_kept {w : World} {v1 v2 : Value} {n m : Nat} {PV QV : Nat → Value} {t u : Kt} (h1 : KeSl w w.heap.size v1 n PV t) (h2 : KeSl w w.heap.size v2 m QV u) :
    Calls Try.prog 70 #[v1, v2, .func (.func 72) #[] #[]] w fun e w' => e = .returned (.bool (keptB n m t u)) ∧ Below w.heap.size w w' := by
  obtain ⟨a1, c1, rfl, ⟨hc1, hr1⟩, hx⟩ := h1
  obtain ⟨a2, c2, rfl, ⟨hc2, hr2⟩, hy⟩ := h2
  obtain ⟨ans, hans⟩ : ∃ ans, keptB n m t u = ans := ⟨_, rfl⟩
  rw [hans]
  unfold keptB at hans
  by_cases hnm : n = m
  · subst hnm
    rw [decide_eq_true rfl, Bool.true_and] at hans
    have HA := hid hans
    have HX := hid hx
    have HY := hid hy
    clear hx hy hans
    go_enter Try.func70, Try.ntmps70
    go_wp2
    go_loopw [17] (fun iv wr => ∃ k : Nat, k ≤ n ∧ iv = .int .i64 k ∧ Hid (Below w.heap.size w wr) ∧ Hid (restK t u (n - k) k = ans)) (fun iv _ => n - (intOf iv).toNat)
    case atStart => exact ⟨0, Nat.zero_le _, rfl, Below.refl _ _, HA⟩
    case round =>
      obtain ⟨k, hk, rfl, HB, HS⟩ := hrel
      by_cases hlt : k < n
      · have hki : (k : Int) < (n : Int) := by omega
        rcases HX.out with h0 | ⟨b1, o1, rfl, hb1, hx⟩
        · omega
        rcases HY.out with h0 | ⟨b2, o2, rfl, hb2, hy⟩
        · omega
        have hstep := HS.out
        rw [show n - k = (n - (k + 1)) + 1 by omega] at hstep
        simp only [restK] at hstep
        have HSt := hid hstep
        obtain ⟨x0, x1, x2, x3⟩ := hx k hlt
        obtain ⟨y0, y1, y2, y3⟩ := hy k hlt
        have HI1 : Hid (∀ w', Below w.heap.size w w' → IntSl w' w'.heap.size (PV k) (t.L k) (t.X k)) := fun w' hb => x3.up hb
        have HI2 : Hid (∀ w', Below w.heap.size w w' → IntSl w' w'.heap.size (QV k) (u.L k) (u.X k)) := fun w' hb => y3.up hb
        obtain ⟨ap, cp, hpe, _, _⟩ := x3
        obtain ⟨aq, cq, hqe, _, _⟩ := y3
        rw [hpe] at x2 HI1
        rw [hqe] at y2 HI2
        have g0 : wr.cell? ⟨b1, o1 + k * 3, none⟩ = some (.int .i64 (t.V k)) := by rw [HB.out.cell hb1]; exact x0
        have g1 : wr.cell? ⟨b1, o1 + k * 3 + 1, none⟩ = some (.int .i64 (t.N k)) := by rw [HB.out.cell hb1]; exact x1
        have g2 : wr.cell? ⟨b1, o1 + k * 3 + 2, none⟩ = some (.slice ap (t.L k) cp) := by rw [HB.out.cell hb1]; exact x2
        have e0 : wr.cell? ⟨b2, o2 + k * 3, none⟩ = some (.int .i64 (u.V k)) := by rw [HB.out.cell hb2]; exact y0
        have e1 : wr.cell? ⟨b2, o2 + k * 3 + 1, none⟩ = some (.int .i64 (u.N k)) := by rw [HB.out.cell hb2]; exact y1
        have e2 : wr.cell? ⟨b2, o2 + k * 3 + 2, none⟩ = some (.slice aq (u.L k) cq) := by rw [HB.out.cell hb2]; exact y2
        have l1 : b1 < wr.heap.size := cell_lt g0
        have l2 : b2 < wr.heap.size := cell_lt e0
        clear x0 x1 x2 y0 y1 y2 hpe hqe hx hy hstep
        go_wp2_with fail
        have hbb : Below w.heap.size w ((wr.alloc (.cells #[.int .i64 (t.V k), .int .i64 (t.N k), .slice ap (t.L k) cp] 58)).alloc (.cells #[.int .i64 (u.V k), .int .i64 (u.N k), .slice aq (u.L k) cq] 58)) :=
          (HB.out.alloc HB.out.size _).alloc (by simp; exact Nat.le_succ_of_le HB.out.size) _
        refine Calls.mono (sameK_any _ _ _ _ _ _ _ _ _ _ _ (HI1.out _ hbb) (HI2.out _ hbb)) ?_
        rintro e w2 ⟨rfl, hb3⟩
        have HB3 : Hid (Below w.heap.size w w2) := hbb.trans (hb3.mono hbb.size)
        clear hb3 hbb
        have hvb : (decide (t.V k = u.V k) && sameB (t.N k) (u.N k) (t.L k) (u.L k) (t.X k) (u.X k)) = verK t u k := rfl
        rw [hvb]
        clear hvb
        cases hs : verK t u k with
        | true =>
          have hn := HSt.out
          rw [hs, Bool.true_and] at hn
          have HNx := hid hn
          clear hn
          go_wp2
          go_roundw
          case rel => exact ⟨k + 1, by omega, by go_num, HB3, HNx⟩
          case measure => simp only [intOf]; omega
        | false =>
          have hn := HSt.out
          rw [hs, Bool.false_and] at hn
          have HNx := hid hn
          clear hn
          go_wp2
          go_ret
          exact ⟨by rw [← HNx.out]; rfl, HB3.out⟩
      · have hke : n = k := by omega
        subst hke
        have hst := HS.out
        rw [Nat.sub_self] at hst
        have HFin : Hid (true = ans) := hst
        clear hst
        go_wp2
        go_ret
        exact ⟨by rw [← HFin.out]; rfl, HB.out⟩
  · rw [decide_eq_false hnm, Bool.false_and] at hans
    have HA := hid hans
    have hni : ¬ (n : Int) = (m : Int) := by omega
    clear hans
    go_enter Try.func70, Try.ntmps70
    go_wp2
    go_ret
    exact ⟨by rw [← HA.out]; rfl, Below.refl _ _⟩

theorem samePeer_any (a1 a2 : Bool) (r1 r2 : Int) {w : World} {v1 v2 : Value} {n m : Nat} {PV QV : Nat → Value} {t u : Kt} (h1 : KeSl w w.heap.size v1 n PV t) (h2 : KeSl w w.heap.size v2 m QV u) :
    Calls Try.prog 35 #[peerV a1 r1 v1, peerV a2 r2 v2] w fun e w' => e = .returned (.bool (peerB a1 a2 r1 r2 n m t u)) ∧ Below w.heap.size w w' := by
  have hb := ((Below.refl w.heap.size w).alloc (Nat.le_refl _) (.cells #[.bool a1, .int .i64 r1, v1] 54)).alloc (by simp) (.cells #[.bool a2, .int .i64 r2, v2] 54)
  have HE := hid (equalFunc_kept (h1.up hb) (h2.up hb))
  have HB := hid hb
  obtain ⟨ad1, c1, rfl, _, _⟩ := h1
  obtain ⟨ad2, c2, rfl, _, _⟩ := h2
  unfold peerB
  generalize keptB n m t u = kb at *
  clear hb
  unfold peerV
  cases ha : (a1 == a2) with
  | false =>
    rw [Bool.false_and]
    clear HE
    go_enter Try.func35, Try.ntmps35
    go_wp2
    go_ret
    exact ⟨rfl, HB.out⟩
  | true =>
    rw [Bool.true_and]
    by_cases hr : r1 = r2
    · subst hr
      rw [decide_eq_true rfl, Bool.true_and]
      go_enter Try.func35, Try.ntmps35
      go_wp2_with fail
      refine HE.out.mono ?_
      rintro e w3 ⟨rfl, hb3⟩
      have HB3 := hid (HB.out.trans (hb3.mono HB.out.size))
      clear hb3
      go_wp2
      go_ret
      exact ⟨rfl, HB3.out⟩
    · rw [decide_eq_false hr, Bool.false_and]
      have he : (r1 == r2) = false := by simpa using hr
      clear hr HE
      go_enter Try.func35, Try.ntmps35
      go_wp2
      go_ret
      exact ⟨rfl, HB.out⟩

set_option maxHeartbeats 1000000 in
theorem peSameK (v1 v2 N1 N2 : Int) (pv qv : Value) (l m : Nat) (X Y : Nat → Int) (w : World) (h1 : IntSl w w.heap.size pv l X) (h2 : IntSl w w.heap.size qv m Y) :
    Calls Try.prog 71 #[keptV v1 N1 pv, keptV v2 N2 qv] w fun e w' => e = .returned (.bool (decide (v1 = v2) && sameB N1 N2 l m X Y)) ∧ Below w.heap.size w w' := by
  have hb := ((Below.refl w.heap.size w).alloc (Nat.le_refl _) (.cells #[.int .i64 v1, .int .i64 N1, pv] 58)).alloc (by simp) (.cells #[.int .i64 v2, .int .i64 N2, qv] 58)
  have HE := hid (shSame N1 N2 _ _ l m X Y _ (h1.up hb) (h2.up hb))
  have HB := hid hb
  obtain ⟨a1, c1, rfl, _, _⟩ := h1
  obtain ⟨a2, c2, rfl, _, _⟩ := h2
  generalize sameB N1 N2 l m X Y = sb at *
  clear hb
  unfold shareV at HE
  unfold keptV
  by_cases hv : v1 = v2
  · subst hv
    rw [decide_eq_true rfl, Bool.true_and]
    go_enter Try.func71, Try.ntmps71
    go_wp2_with fail
    refine HE.out.mono ?_
    rintro e w3 ⟨rfl, hb3⟩
    have HB3 := hid (HB.out.trans (hb3.mono HB.out.size))
    clear hb3
    go_wp2
    go_ret
    exact ⟨rfl, HB3.out⟩
  · rw [decide_eq_false hv, Bool.false_and]
    have he : (v1 == v2) = false := by simpa using hv
    clear hv HE
    go_enter Try.func71, Try.ntmps71
    go_wp2
    go_ret
    exact ⟨rfl, HB.out⟩

set_option maxHeartbeats 2000000 in
theorem peEqualFunc {w : World} {v1 v2 : Value} {n m : Nat} {PV QV : Nat → Value} {t u : Kt} (h1 : KeSl w w.heap.size v1 n PV t) (h2 : KeSl w w.heap.size v2 m QV u) :
    Calls Try.prog 70 #[v1, v2, .func (.func 71) #[] #[]] w fun e w' => e = .returned (.bool (keptB n m t u)) ∧ Below w.heap.size w w' := by
  obtain ⟨a1, c1, rfl, ⟨hc1, hr1⟩, hx⟩ := h1
  obtain ⟨a2, c2, rfl, ⟨hc2, hr2⟩, hy⟩ := h2
  obtain ⟨ans, hans⟩ : ∃ ans, keptB n m t u = ans := ⟨_, rfl⟩
  rw [hans]
  unfold keptB at hans
  by_cases hnm : n = m
  · subst hnm
    rw [decide_eq_true rfl, Bool.true_and] at hans
    have HA := hid hans
    have HX := hid hx
    have HY := hid hy
    clear hx hy hans
    go_enter Try.func70, Try.ntmps70
    go_wp2
    go_loopw [17] (fun iv wr => ∃ k : Nat, k ≤ n ∧ iv = .int .i64 k ∧ Hid (Below w.heap.size w wr) ∧ Hid (restK t u (n - k) k = ans)) (fun iv _ => n - (intOf iv).toNat)
    case atStart => exact ⟨0, Nat.zero_le _, rfl, Below.refl _ _, HA⟩
    case round =>
      obtain ⟨k, hk, rfl, HB, HS⟩ := hrel
      by_cases hlt : k < n
      · have hki : (k : Int) < (n : Int) := by omega
        rcases HX.out with h0 | ⟨b1, o1, rfl, hb1, hx⟩
        · omega
        rcases HY.out with h0 | ⟨b2, o2, rfl, hb2, hy⟩
        · omega
        have hstep := HS.out
        rw [show n - k = (n - (k + 1)) + 1 by omega] at hstep
        simp only [restK] at hstep
        have HSt := hid hstep
        obtain ⟨x0, x1, x2, x3⟩ := hx k hlt
        obtain ⟨y0, y1, y2, y3⟩ := hy k hlt
        have HI1 : Hid (∀ w', Below w.heap.size w w' → IntSl w' w'.heap.size (PV k) (t.L k) (t.X k)) := fun w' hb => x3.up hb
        have HI2 : Hid (∀ w', Below w.heap.size w w' → IntSl w' w'.heap.size (QV k) (u.L k) (u.X k)) := fun w' hb => y3.up hb
        obtain ⟨ap, cp, hpe, _, _⟩ := x3
        obtain ⟨aq, cq, hqe, _, _⟩ := y3
        rw [hpe] at x2 HI1
        rw [hqe] at y2 HI2
        have g0 : wr.cell? ⟨b1, o1 + k * 3, none⟩ = some (.int .i64 (t.V k)) := by rw [HB.out.cell hb1]; exact x0
        have g1 : wr.cell? ⟨b1, o1 + k * 3 + 1, none⟩ = some (.int .i64 (t.N k)) := by rw [HB.out.cell hb1]; exact x1
        have g2 : wr.cell? ⟨b1, o1 + k * 3 + 2, none⟩ = some (.slice ap (t.L k) cp) := by rw [HB.out.cell hb1]; exact x2
        have e0 : wr.cell? ⟨b2, o2 + k * 3, none⟩ = some (.int .i64 (u.V k)) := by rw [HB.out.cell hb2]; exact y0
        have e1 : wr.cell? ⟨b2, o2 + k * 3 + 1, none⟩ = some (.int .i64 (u.N k)) := by rw [HB.out.cell hb2]; exact y1
        have e2 : wr.cell? ⟨b2, o2 + k * 3 + 2, none⟩ = some (.slice aq (u.L k) cq) := by rw [HB.out.cell hb2]; exact y2
        have l1 : b1 < wr.heap.size := cell_lt g0
        have l2 : b2 < wr.heap.size := cell_lt e0
        clear x0 x1 x2 y0 y1 y2 hpe hqe hx hy hstep
        go_wp2_with fail
        have hbb : Below w.heap.size w ((wr.alloc (.cells #[.int .i64 (t.V k), .int .i64 (t.N k), .slice ap (t.L k) cp] 58)).alloc (.cells #[.int .i64 (u.V k), .int .i64 (u.N k), .slice aq (u.L k) cq] 58)) :=
          (HB.out.alloc HB.out.size _).alloc (by simp; exact Nat.le_succ_of_le HB.out.size) _
        refine Calls.mono (peSameK _ _ _ _ _ _ _ _ _ _ _ (HI1.out _ hbb) (HI2.out _ hbb)) ?_
        rintro e w2 ⟨rfl, hb3⟩
        have HB3 : Hid (Below w.heap.size w w2) := hbb.trans (hb3.mono hbb.size)
        clear hb3 hbb
        have hvb : (decide (t.V k = u.V k) && sameB (t.N k) (u.N k) (t.L k) (u.L k) (t.X k) (u.X k)) = verK t u k := rfl
        rw [hvb]
        clear hvb
        cases hs : verK t u k with
        | true =>
          have hn := HSt.out
          rw [hs, Bool.true_and] at hn
          have HNx := hid hn
          clear hn
          go_wp2
          go_roundw
          case rel => exact ⟨k + 1, by omega, by go_num, HB3, HNx⟩
          case measure => simp only [intOf]; omega
        | false =>
          have hn := HSt.out
          rw [hs, Bool.false_and] at hn
          have HNx := hid hn
          clear hn
          go_wp2
          go_ret
          exact ⟨by rw [← HNx.out]; rfl, HB3.out⟩
      · have hke : n = k := by omega
        subst hke
        have hst := HS.out
        rw [Nat.sub_self] at hst
        have HFin : Hid (true = ans) := hst
        clear hst
        go_wp2
        go_ret
        exact ⟨by rw [← HFin.out]; rfl, HB.out⟩
  · rw [decide_eq_false hnm, Bool.false_and] at hans
    have HA := hid hans
    have hni : ¬ (n : Int) = (m : Int) := by omega
    clear hans
    go_enter Try.func70, Try.ntmps70
    go_wp2
    go_ret
    exact ⟨by rw [← HA.out]; rfl, Below.refl _ _⟩

theorem peSame (a1 a2 : Bool) (r1 r2 : Int) {w : World} {v1 v2 : Value} {n m : Nat} {PV QV : Nat → Value} {t u : Kt} (h1 : KeSl w w.heap.size v1 n PV t) (h2 : KeSl w w.heap.size v2 m QV u) :
    Calls Try.prog 34 #[peerV a1 r1 v1, peerV a2 r2 v2] w fun e w' => e = .returned (.bool (peerB a1 a2 r1 r2 n m t u)) ∧ Below w.heap.size w w' := by
  have hb := ((Below.refl w.heap.size w).alloc (Nat.le_refl _) (.cells #[.bool a1, .int .i64 r1, v1] 54)).alloc (by simp) (.cells #[.bool a2, .int .i64 r2, v2] 54)
  have HE := hid (peEqualFunc (h1.up hb) (h2.up hb))
  have HB := hid hb
  obtain ⟨ad1, c1, rfl, _, _⟩ := h1
  obtain ⟨ad2, c2, rfl, _, _⟩ := h2
  unfold peerB
  generalize keptB n m t u = kb at *
  clear hb
  unfold peerV
  cases ha : (a1 == a2) with
  | false =>
    rw [Bool.false_and]
    clear HE
    go_enter Try.func34, Try.ntmps34
    go_wp2
    go_ret
    exact ⟨rfl, HB.out⟩
  | true =>
    rw [Bool.true_and]
    by_cases hr : r1 = r2
    · subst hr
      rw [decide_eq_true rfl, Bool.true_and]
      go_enter Try.func34, Try.ntmps34
      go_wp2_with fail
      refine HE.out.mono ?_
      rintro e w3 ⟨rfl, hb3⟩
      have HB3 := hid (HB.out.trans (hb3.mono HB.out.size))
      clear hb3
      go_wp2
      go_ret
      exact ⟨rfl, HB3.out⟩
    · rw [decide_eq_false hr, Bool.false_and]
      have he : (r1 == r2) = false := by simpa using hr
      clear hr HE
      go_enter Try.func34, Try.ntmps34
      go_wp2
      go_ret
      exact ⟨rfl, HB.out⟩

end Go.Proofs.Ytokebjclbpgljad
