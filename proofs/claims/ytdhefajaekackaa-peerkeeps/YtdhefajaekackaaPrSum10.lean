/- Several texts of one proof, in their order. -/
import Derived.Test.YtdhefajaekackaaPrSum5
import Derived.Test.YtdhefajaekackaaPrSum9

/- Are two peers alike: what the reference answers, and what package peer answers where it goes the same way. -/
namespace Go.Proofs.Ytdhefajaekackaa

open Go.RowKit
set_option linter.unusedVariables false

set_option maxHeartbeats 1000000 in
theorem sameK_any (v1 v2 N1 N2 : Int) (pv qv : Value) (l m : Nat) (X Y : Nat → Int) (w : World) (h1 : IntSl w w.heap.size pv l X) (h2 : IntSl w w.heap.size qv m Y) :
    Calls Try.prog 91 #[keptV v1 N1 pv, keptV v2 N2 qv] w fun e w' => e = .returned (.bool (decide (v1 = v2) && sameB N1 N2 l m X Y)) ∧ Below w.heap.size w w' := by
  have hb := ((Below.refl w.heap.size w).alloc (Nat.le_refl _) (.cells #[.int .i64 v1, .int .i64 N1, pv] 62)).alloc (by simp) (.cells #[.int .i64 v2, .int .i64 N2, qv] 62)
  have HE := hid (sameShare_any N1 N2 _ _ l m X Y _ (h1.up hb) (h2.up hb))
  have HB := hid hb
  obtain ⟨a1, c1, rfl, _, _⟩ := h1
  obtain ⟨a2, c2, rfl, _, _⟩ := h2
  generalize sameB N1 N2 l m X Y = sb at *
  clear hb
  unfold shareV at HE
  unfold keptV
  by_cases hv : v1 = v2
  · subst hv
    rw [decide_eq_true rfl, Bool.true_and]
    go_enter Try.func91, Try.ntmps91
    go_wp2_with fail
    refine HE.out.mono ?_
    rintro e w3 ⟨rfl, hb3⟩
    have HB3 := hid (HB.out.trans (hb3.mono HB.out.size))
    clear hb3
    go_wp2
    go_ret
    exact ⟨rfl, HB3.out⟩
  · rw [decide_eq_false hv, Bool.false_and]
    have he : (v1 == v2) = false := by simpa using hv
    clear hv HE
    go_enter Try.func91, Try.ntmps91
    go_wp2
    go_ret
    exact ⟨rfl, HB.out⟩

set_option maxHeartbeats 2000000 in
theorem equalFunc_kept {w : World} {v1 v2 : Value} {n m : Nat} {PV QV : Nat → Value} {t u : Kt} (h1 : KeSl w w.heap.size v1 n PV t) (h2 : KeSl w w.heap.size v2 m QV u) :
    Calls Try.prog 89 #[v1, v2, .func (.func 91) #[] #[]] w fun e w' => e = .returned (.bool (keptB n m t u)) ∧ Below w.heap.size w w' := by
  obtain ⟨a1, c1, rfl, ⟨hc1, hr1⟩, hx⟩ := h1
  obtain ⟨a2, c2, rfl, ⟨hc2, hr2⟩, hy⟩ := h2
  obtain ⟨ans, hans⟩ : ∃ ans, keptB n m t u = ans := ⟨_, rfl⟩
  rw [hans]
  unfold keptB at hans
  by_cases hnm : n = m
  · subst hnm
    rw [decide_eq_true rfl, Bool.true_and] at hans
    have HA := hid hans
    have HX := hid hx
    have HY := hid hy
    clear hx hy hans
    go_enter Try.func89, Try.ntmps89
    go_wp2
    go_loopw [17] (fun iv wr => ∃ k : Nat, k ≤ n ∧ iv = .int .i64 k ∧ Hid (Below w.heap.size w wr) ∧ Hid (restK t u (n - k) k = ans)) (fun iv _ => n - (intOf iv).toNat)
    case atStart => exact ⟨0, Nat.zero_le _, rfl, Below.refl _ _, HA⟩
    case round =>
      obtain ⟨k, hk, rfl, HB, HS⟩ := hrel
      by_cases hlt : k < n
      · have hki : (k : Int) < (n : Int) := by omega
        rcases HX.out with h0 | ⟨b1, o1, rfl, hb1, hx⟩
        · omega
        rcases HY.out with h0 | ⟨b2, o2, rfl, hb2, hy⟩
        · omega
        have hstep := HS.out
        rw [show n - k = (n - (k + 1)) + 1 by omega] at hstep
        simp only [restK] at hstep
        have HSt := hid hstep
        obtain ⟨x0, x1, x2, x3⟩ := hx k hlt
        obtain ⟨y0, y1, y2, y3⟩ := hy k hlt
        have HI1 : Hid (∀ w', Below w.heap.size w w' → IntSl w' w'.heap.size (PV k) (t.L k) (t.X k)) := fun w' hb => x3.up hb
        have HI2 : Hid (∀ w', Below w.heap.size w w' → IntSl w' w'.heap.size (QV k) (u.L k) (u.X k)) := fun w' hb => y3.up hb
        obtain ⟨ap, cp, hpe, _, _⟩ := x3
        obtain ⟨aq, cq, hqe, _, _⟩ := y3
        rw [hpe] at x2 HI1
        rw [hqe] at y2 HI2
        have g0 : wr.cell? ⟨b1, o1 + k * 3, none⟩ = some (.int .i64 (t.V k)) := by rw [HB.out.cell hb1]; exact x0
        have g1 : wr.cell? ⟨b1, o1 + k * 3 + 1, none⟩ = some (.int .i64 (t.N k)) := by rw [HB.out.cell hb1]; exact x1
        have g2 : wr.cell? ⟨b1, o1 + k * 3 + 2, none⟩ = some (.slice ap (t.L k) cp) := by rw [HB.out.cell hb1]; exact x2
        have e0 : wr.cell? ⟨b2, o2 + k * 3, none⟩ = some (.int .i64 (u.V k)) := by rw [HB.out.cell hb2]; exact y0
        have e1 : wr.cell? ⟨b2, o2 + k * 3 + 1, none⟩ = some (.int .i64 (u.N k)) := by rw [HB.out.cell hb2]; exact y1
        have e2 : wr.cell? ⟨b2, o2 + k * 3 + 2, none⟩ = some (.slice aq (u.L k) cq) := by rw [HB.out.cell hb2]; exact y2
        have l1 : b1 < wr.heap.size := cell_lt g0
        have l2 : b2 < wr.heap.size := cell_lt e0
        clear x0 x1 x2 y0 y1 y2 hpe hqe hx hy hstep
        go_wp2_with fail
        have hbb : Below w.heap.size w ((wr.alloc (.cells #[.int .i64 (t.V k), .int .i64 (t.N k), .slice ap (t.L k) cp] 62)).alloc (.cells #[.int .i64 (u.V k), .int .i64 (u.N k), .slice aq (u.L k) cq] 62)) :=
          (HB.out.alloc HB.out.size _).alloc (by simp; exact Nat.le_succ_of_le HB.out.size) _
        refine Calls.mono (sameK_any _ _ _ _ _ _ _ _ _ _ _ (HI1.out _ hbb) (HI2.out _ hbb)) ?_
        rintro e w2 ⟨rfl, hb3⟩
        have HB3 : Hid (Below w.heap.size w w2) := hbb.trans (hb3.mono hbb.size)
        clear hb3 hbb
        have hvb : (decide (t.V k = u.V k) && sameB (t.N k) (u.N k) (t.L k) (u.L k) (t.X k) (u.X k)) = verK t u k := rfl
        rw [hvb]
        clear hvb
        cases hs : verK t u k with
        | true =>
          have hn := HSt.out
          rw [hs, Bool.true_and] at hn
          have HNx := hid hn
          clear hn
          go_wp2
          go_roundw
          case rel => exact ⟨k + 1, by omega, by go_num, HB3, HNx⟩
          case measure => simp only [intOf]; omega
        | false =>
          have hn := HSt.out
          rw [hs, Bool.false_and] at hn
          have HNx := hid hn
          clear hn
          go_wp2
          go_ret
          exact ⟨by rw [← HNx.out]; rfl, HB3.out⟩
      · have hke : n = k := by omega
        subst hke
        have hst := HS.out
        rw [Nat.sub_self] at hst
        have HFin : Hid (true = ans) := hst
        clear hst
        go_wp2
        go_ret
        exact ⟨by rw [← HFin.out]; rfl, HB.out⟩
  · rw [decide_eq_false hnm, Bool.false_and] at hans
    have HA := hid hans
    have hni : ¬ (n : Int) = (m : Int) := by omega
    clear hans
    go_enter Try.func89, Try.ntmps89
    go_wp2
    go_ret
    exact ⟨by rw [← HA.out]; rfl, Below.refl _ _⟩

theorem samePeer_any (a1 a2 : Bool) (r1 r2 : Int) {w : World} {v1 v2 : Value} {n m : Nat} {PV QV : Nat → Value} {t u : Kt} (h1 : KeSl w w.heap.size v1 n PV t) (h2 : KeSl w w.heap.size v2 m QV u) :
    Calls Try.prog 43 #[peerV a1 r1 v1, peerV a2 r2 v2] w fun e w' => e = .returned (.bool (peerB a1 a2 r1 r2 n m t u)) ∧ Below w.heap.size w w' := by
  have hb := ((Below.refl w.heap.size w).alloc (Nat.le_refl _) (.cells #[.bool a1, .int .i64 r1, v1] 58)).alloc (by simp) (.cells #[.bool a2, .int .i64 r2, v2] 58)
  have HE := hid (equalFunc_kept (h1.up hb) (h2.up hb))
  have HB := hid hb
  obtain ⟨ad1, c1, rfl, _, _⟩ := h1
  obtain ⟨ad2, c2, rfl, _, _⟩ := h2
  unfold peerB
  generalize keptB n m t u = kb at *
  clear hb
  unfold peerV
  cases ha : (a1 == a2) with
  | false =>
    rw [Bool.false_and]
    clear HE
    go_enter Try.func43, Try.ntmps43
    go_wp2
    go_ret
    exact ⟨rfl, HB.out⟩
  | true =>
    rw [Bool.true_and]
    by_cases hr : r1 = r2
    · subst hr
      rw [decide_eq_true rfl, Bool.true_and]
      go_enter Try.func43, Try.ntmps43
      go_wp2_with fail
      refine HE.out.mono ?_
      rintro e w3 ⟨rfl, hb3⟩
      have HB3 := hid (HB.out.trans (hb3.mono HB.out.size))
      clear hb3
      go_wp2
      go_ret
      exact ⟨rfl, HB3.out⟩
    · rw [decide_eq_false hr, Bool.false_and]
      have he : (r1 == r2) = false := by simpa using hr
      clear hr HE
      go_enter Try.func43, Try.ntmps43
      go_wp2
      go_ret
      exact ⟨rfl, HB.out⟩

set_option maxHeartbeats 1000000 in
theorem peSameK (v1 v2 N1 N2 : Int) (pv qv : Value) (l m : Nat) (X Y : Nat → Int) (w : World) (h1 : IntSl w w.heap.size pv l X) (h2 : IntSl w w.heap.size qv m Y) :
    Calls Try.prog 90 #[keptV v1 N1 pv, keptV v2 N2 qv] w fun e w' => e = .returned (.bool (decide (v1 = v2) && sameB N1 N2 l m X Y)) ∧ Below w.heap.size w w' := by
  have hb := ((Below.refl w.heap.size w).alloc (Nat.le_refl _) (.cells #[.int .i64 v1, .int .i64 N1, pv] 62)).alloc (by simp) (.cells #[.int .i64 v2, .int .i64 N2, qv] 62)
  have HE := hid (shSame N1 N2 _ _ l m X Y _ (h1.up hb) (h2.up hb))
  have HB := hid hb
  obtain ⟨a1, c1, rfl, _, _⟩ := h1
  obtain ⟨a2, c2, rfl, _, _⟩ := h2
  generalize sameB N1 N2 l m X Y = sb at *
  clear hb
  unfold shareV at HE
  unfold keptV
  by_cases hv : v1 = v2
  · subst hv
    rw [decide_eq_true rfl, Bool.true_and]
    go_enter Try.func90, Try.ntmps90
    go_wp2_with fail
    refine HE.out.mono ?_
    rintro e w3 ⟨rfl, hb3⟩
    have HB3 := hid (HB.out.trans (hb3.mono HB.out.size))
    clear hb3
    go_wp2
    go_ret
    exact ⟨rfl, HB3.out⟩
  · rw [decide_eq_false hv, Bool.false_and]
    have he : (v1 == v2) = false := by simpa using hv
    clear hv HE
    go_enter Try.func90, Try.ntmps90
    go_wp2
    go_ret
    exact ⟨rfl, HB.out⟩

set_option maxHeartbeats 2000000 in
theorem peEqualFunc {w : World} {v1 v2 : Value} {n m : Nat} {PV QV : Nat → Value} {t u : Kt} (h1 : KeSl w w.heap.size v1 n PV t) (h2 : KeSl w w.heap.size v2 m QV u) :
    Calls Try.prog 89 #[v1, v2, .func (.func 90) #[] #[]] w fun e w' => e = .returned (.bool (keptB n m t u)) ∧ Below w.heap.size w w' := by
  obtain ⟨a1, c1, rfl, ⟨hc1, hr1⟩, hx⟩ := h1
  obtain ⟨a2, c2, rfl, ⟨hc2, hr2⟩, hy⟩ := h2
  obtain ⟨ans, hans⟩ : ∃ ans, keptB n m t u = ans := ⟨_, rfl⟩
  rw [hans]
  unfold keptB at hans
  by_cases hnm : n = m
  · subst hnm
    rw [decide_eq_true rfl, Bool.true_and] at hans
    have HA := hid hans
    have HX := hid hx
    have HY := hid hy
    clear hx hy hans
    go_enter Try.func89, Try.ntmps89
    go_wp2
    go_loopw [17] (fun iv wr => ∃ k : Nat, k ≤ n ∧ iv = .int .i64 k ∧ Hid (Below w.heap.size w wr) ∧ Hid (restK t u (n - k) k = ans)) (fun iv _ => n - (intOf iv).toNat)
    case atStart => exact ⟨0, Nat.zero_le _, rfl, Below.refl _ _, HA⟩
    case round =>
      obtain ⟨k, hk, rfl, HB, HS⟩ := hrel
      by_cases hlt : k < n
      · have hki : (k : Int) < (n : Int) := by omega
        rcases HX.out with h0 | ⟨b1, o1, rfl, hb1, hx⟩
        · omega
        rcases HY.out with h0 | ⟨b2, o2, rfl, hb2, hy⟩
        · omega
        have hstep := HS.out
        rw [show n - k = (n - (k + 1)) + 1 by omega] at hstep
        simp only [restK] at hstep
        have HSt := hid hstep
        obtain ⟨x0, x1, x2, x3⟩ := hx k hlt
        obtain ⟨y0, y1, y2, y3⟩ := hy k hlt
        have HI1 : Hid (∀ w', Below w.heap.size w w' → IntSl w' w'.heap.size (PV k) (t.L k) (t.X k)) := fun w' hb => x3.up hb
        have HI2 : Hid (∀ w', Below w.heap.size w w' → IntSl w' w'.heap.size (QV k) (u.L k) (u.X k)) := fun w' hb => y3.up hb
        obtain ⟨ap, cp, hpe, _, _⟩ := x3
        obtain ⟨aq, cq, hqe, _, _⟩ := y3
        rw [hpe] at x2 HI1
        rw [hqe] at y2 HI2
        have g0 : wr.cell? ⟨b1, o1 + k * 3, none⟩ = some (.int .i64 (t.V k)) := by rw [HB.out.cell hb1]; exact x0
        have g1 : wr.cell? ⟨b1, o1 + k * 3 + 1, none⟩ = some (.int .i64 (t.N k)) := by rw [HB.out.cell hb1]; exact x1
        have g2 : wr.cell? ⟨b1, o1 + k * 3 + 2, none⟩ = some (.slice ap (t.L k) cp) := by rw [HB.out.cell hb1]; exact x2
        have e0 : wr.cell? ⟨b2, o2 + k * 3, none⟩ = some (.int .i64 (u.V k)) := by rw [HB.out.cell hb2]; exact y0
        have e1 : wr.cell? ⟨b2, o2 + k * 3 + 1, none⟩ = some (.int .i64 (u.N k)) := by rw [HB.out.cell hb2]; exact y1
        have e2 : wr.cell? ⟨b2, o2 + k * 3 + 2, none⟩ = some (.slice aq (u.L k) cq) := by rw [HB.out.cell hb2]; exact y2
        have l1 : b1 < wr.heap.size := cell_lt g0
        have l2 : b2 < wr.heap.size := cell_lt e0
        clear x0 x1 x2 y0 y1 y2 hpe hqe hx hy hstep
        go_wp2_with fail
        have hbb : Below w.heap.size w ((wr.alloc (.cells #[.int .i64 (t.V k), .int .i64 (t.N k), .slice ap (t.L k) cp] 62)).alloc (.cells #[.int .i64 (u.V k), .int .i64 (u.N k), .slice aq (u.L k) cq] 62)) :=
          (HB.out.alloc HB.out.size _).alloc (by simp; exact Nat.le_succ_of_le HB.out.size) _
        refine Calls.mono (peSameK _ _ _ _ _ _ _ _ _ _ _ (HI1.out _ hbb) (HI2.out _ hbb)) ?_
        rintro e w2 ⟨rfl, hb3⟩
        have HB3 : Hid (Below w.heap.size w w2) := hbb.trans (hb3.mono hbb.size)
        clear hb3 hbb
        have hvb : (decide (t.V k = u.V k) && sameB (t.N k) (u.N k) (t.L k) (u.L k) (t.X k) (u.X k)) = verK t u k := rfl
        rw [hvb]
        clear hvb
        cases hs : verK t u k with
        | true =>
          have hn := HSt.out
          rw [hs, Bool.true_and] at hn
          have HNx := hid hn
          clear hn
          go_wp2
          go_roundw
          case rel => exact ⟨k + 1, by omega, by go_num, HB3, HNx⟩
          case measure => simp only [intOf]; omega
        | false =>
          have hn := HSt.out
          rw [hs, Bool.false_and] at hn
          have HNx := hid hn
          clear hn
          go_wp2
          go_ret
          exact ⟨by rw [← HNx.out]; rfl, HB3.out⟩
      · have hke : n = k := by omega
        subst hke
        have hst := HS.out
        rw [Nat.sub_self] at hst
        have HFin : Hid (true = ans) := hst
        clear hst
        go_wp2
        go_ret
        exact ⟨by rw [← HFin.out]; rfl, HB.out⟩
  · rw [decide_eq_false hnm, Bool.false_and] at hans
    have HA := hid hans
    have hni : ¬ (n : Int) = (m : Int) := by omega
    clear hans
    go_enter Try.func89, Try.ntmps89
    go_wp2
    go_ret
    exact ⟨by rw [← HA.out]; rfl, Below.refl _ _⟩

theorem peSame (a1 a2 : Bool) (r1 r2 : Int) {w : World} {v1 v2 : Value} {n m : Nat} {PV QV : Nat → Value} {t u : Kt} (h1 : KeSl w w.heap.size v1 n PV t) (h2 : KeSl w w.heap.size v2 m QV u) :
    Calls Try.prog 42 #[peerV a1 r1 v1, peerV a2 r2 v2] w fun e w' => e = .returned (.bool (peerB a1 a2 r1 r2 n m t u)) ∧ Below w.heap.size w w' := by
  have hb := ((Below.refl w.heap.size w).alloc (Nat.le_refl _) (.cells #[.bool a1, .int .i64 r1, v1] 58)).alloc (by simp) (.cells #[.bool a2, .int .i64 r2, v2] 58)
  have HE := hid (peEqualFunc (h1.up hb) (h2.up hb))
  have HB := hid hb
  obtain ⟨ad1, c1, rfl, _, _⟩ := h1
  obtain ⟨ad2, c2, rfl, _, _⟩ := h2
  unfold peerB
  generalize keptB n m t u = kb at *
  clear hb
  unfold peerV
  cases ha : (a1 == a2) with
  | false =>
    rw [Bool.false_and]
    clear HE
    go_enter Try.func42, Try.ntmps42
    go_wp2
    go_ret
    exact ⟨rfl, HB.out⟩
  | true =>
    rw [Bool.true_and]
    by_cases hr : r1 = r2
    · subst hr
      rw [decide_eq_true rfl, Bool.true_and]
      go_enter Try.func42, Try.ntmps42
      go_wp2_with fail
      refine HE.out.mono ?_
      rintro e w3 ⟨rfl, hb3⟩
      have HB3 := hid (HB.out.trans (hb3.mono HB.out.size))
      clear hb3
      go_wp2
      go_ret
      exact ⟨rfl, HB3.out⟩
    · rw [decide_eq_false hr, Bool.false_and]
      have he : (r1 == r2) = false := by simpa using hr
      clear hr HE
      go_enter Try.func42, Try.ntmps42
      go_wp2
      go_ret
      exact ⟨rfl, HB.out⟩

end Go.Proofs.Ytdhefajaekackaa

/- What package peer owes, as plain facts of its five functions; the kept one of the closed facts; what Keep comes to is one thing. -/
namespace Go.Proofs.Ytdhefajaekackaa

open Go.RowKit
set_option linter.unusedVariables false

/-- what Drop comes to -/
def DropsTo (n : Nat) (b : Bk) (th : Bool) (room : Int) (m : Nat) (t : Kt) (ver : Int) (er : Int) (th' : Bool) (room' : Int) (m' : Nat) (t' : Kt) : Prop :=
  (peerE n b room m t ≠ 0 ∧ er = peerE n b room m t ∧ th' = false ∧ room' = 0 ∧ m' = 0) ∨
  (peerE n b room m t = 0 ∧ er = 0 ∧ th' = th ∧ room' = room ∧ m' = (butL t ver m).length ∧ t' = selT t (butL t ver m))

def DropPost (w : World) (n : Nat) (b : Bk) (th : Bool) (room : Int) (m : Nat) (t : Kt) (ver : Int) (e : Ending) (w' : World) : Prop :=
  Below w.heap.size w w' ∧ ∃ (er : Int) (th' : Bool) (room' : Int) (r : Value) (m' : Nat) (UV' : Nat → Value) (t' : Kt), e = .returned (.tuple #[peerV th' room' r, .int .i64 er]) ∧ KeSl w' w'.heap.size r m' UV' t' ∧ DropsTo n b th room m t ver er th' room' m' t'

/-- what package peer owes -/
structure PeerOwes : Prop where
  check : ∀ (vb : Value) (n : Nat) (PV : Nat → Value) (b : Bk) (th : Bool) (room : Int) (vk : Value) (m : Nat) (UV : Nat → Value) (t : Kt) (w : World), VeSl w w.heap.size vb n PV b → KeSl w w.heap.size vk m UV t →
    Calls Try.prog 39 #[bookV vb, peerV th room vk] w fun e w' => e = .returned (.int .i64 (peerE n b room m t)) ∧ Below w.heap.size w w'
  find : ∀ (th : Bool) (room : Int) (v : Value) (m : Nat) (UV : Nat → Value) (t : Kt) (ver : Int) (w : World), KeSl w w.heap.size v m UV t →
    Calls Try.prog 40 #[peerV th room v, .int .i64 ver] w fun e w' => e = .returned (.int .i64 (fstAt t.V ver m 0)) ∧ Below w.heap.size w w'
  same : ∀ (a1 a2 : Bool) (r1 r2 : Int) (w : World) (v1 v2 : Value) (n m : Nat) (PV QV : Nat → Value) (t u : Kt), KeSl w w.heap.size v1 n PV t → KeSl w w.heap.size v2 m QV u →
    Calls Try.prog 42 #[peerV a1 r1 v1, peerV a2 r2 v2] w fun e w' => e = .returned (.bool (peerB a1 a2 r1 r2 n m t u)) ∧ Below w.heap.size w w'
  keep : ∀ (vb : Value) (n : Nat) (PV : Nat → Value) (b : Bk) (th : Bool) (room : Int) (vk : Value) (m : Nat) (UV : Nat → Value) (t : Kt) (ver N : Int) (uv : Value) (L : Nat) (X : Nat → Int) (w : World), VeSl w w.heap.size vb n PV b → KeSl w w.heap.size vk m UV t → IntSl w w.heap.size uv L X →
    Calls Try.prog 34 #[bookV vb, peerV th room vk, keptV ver N uv] w (KeepPost w n b th room m t ver N L X)
  drop : ∀ (vb : Value) (n : Nat) (PV : Nat → Value) (b : Bk) (th : Bool) (room : Int) (vk : Value) (m : Nat) (UV : Nat → Value) (t : Kt) (ver : Int) (w : World), VeSl w w.heap.size vb n PV b → KeSl w w.heap.size vk m UV t →
    Calls Try.prog 35 #[bookV vb, peerV th room vk, .int .i64 ver] w (DropPost w n b th room m t ver)

theorem keptB_refl (m : Nat) (t : Kt) : keptB m m t t = true := by
  have h : ∀ f k, restK t t f k = true := by
    intro f
    induction f with
    | zero => intro k; rfl
    | succ f ih => intro k; simp only [restK, ih, Bool.and_true]; unfold verK sameB eqB; simp
  unfold keptB
  simp [h]

theorem peerB_refl (th : Bool) (room : Int) (m : Nat) (t : Kt) : peerB th th room room m m t t = true := by
  unfold peerB
  rw [keptB_refl]; simp

/-- what Keep comes to is one thing -/
theorem keepsTo_uniq {n : Nat} {b : Bk} {th : Bool} {room : Int} {m : Nat} {t : Kt} {ver N : Int} {L : Nat} {X : Nat → Int} {e1 e2 : Int} {h1 h2 : Bool} {r1 r2 : Int} {m1 m2 : Nat} {t1 t2 : Kt} (g1 : KeepsTo n b th room m t ver N L X e1 h1 r1 m1 t1) (g2 : KeepsTo n b th room m t ver N L X e2 h2 r2 m2 t2) :
    e1 = e2 ∧ h1 = h2 ∧ r1 = r2 ∧ m1 = m2 ∧ (m1 = 0 ∨ t1 = t2) := by
  unfold KeepsTo at g1 g2
  rcases g1 with ⟨a0, a1, a2, a3, a4⟩ | ⟨a0, a1, a2, a3, a4, a5⟩ | ⟨a0, a1, a2, a3, a4, a5, a6⟩ | ⟨a0, a1, a2, l, a3, a4, a5⟩
  · rcases g2 with ⟨c0, c1, c2, c3, c4⟩ | ⟨c0, _⟩ | ⟨c0, _⟩ | ⟨c0, _⟩
    · exact ⟨by rw [a1, c1], by rw [a2, c2], by rw [a3, c3], by rw [a4, c4], Or.inl a4⟩
    all_goals exact absurd c0 a0
  · rcases g2 with ⟨c0, _⟩ | ⟨c0, c1, c2, c3, c4, c5⟩ | ⟨c0, c1, _⟩ | ⟨c0, c1, _⟩
    · exact absurd a0 c0
    · exact ⟨by rw [a2, c2], by rw [a3, c3], by rw [a4, c4], by rw [a5, c5], Or.inl a5⟩
    all_goals omega
  · rcases g2 with ⟨c0, _⟩ | ⟨c0, c1, _⟩ | ⟨c0, c1, c2, c3, c4, c5, c6⟩ | ⟨c0, c1, c2, _⟩
    · exact absurd a0 c0
    · omega
    · exact ⟨by rw [a3, c3], by rw [a4, c4], by rw [a5, c5], by rw [a6, c6], Or.inl a6⟩
    · omega
  · rcases g2 with ⟨c0, _⟩ | ⟨c0, c1, _⟩ | ⟨c0, c1, c2, _⟩ | ⟨c0, c1, c2, l', c3, c4, c5⟩
    · exact absurd a0 c0
    · omega
    · omega
    · have hl := inOrder_uniq a3 c3
      subst hl
      rw [← c4] at a4
      subst a4
      rcases a5 with ⟨d0, d1, d2, d3, d4⟩ | ⟨d0, d1, d2, d3⟩
      · rcases c5 with ⟨f0, f1, f2, f3, f4⟩ | ⟨f0, _⟩
        · exact ⟨rfl, by rw [d1, f1], by rw [d2, f2], by rw [d3, f3], Or.inr (by rw [d4, f4])⟩
        · exact absurd d0 f0
      · rcases c5 with ⟨f0, _⟩ | ⟨f0, f1, f2, f3⟩
        · exact absurd f0 d0
        · exact ⟨rfl, by rw [d1, f1], by rw [d2, f2], by rw [d3, f3], Or.inl d3⟩

end Go.Proofs.Ytdhefajaekackaa
