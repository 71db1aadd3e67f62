/- Several texts of one proof, in their order. -/
import Derived.Test.YtdhefajaekackaaBkSum3
import Derived.Shelf.SlicesE.Kit
import Derived.Laws.StructEq

/- Are two books alike: what the reference answers, and what package book answers. -/
namespace Go.Proofs.Ytdhefajaekackaa

open Go.RowKit Go.Shelf
set_option linter.unusedVariables false

def encPlan (x : Int × Int × Int) : List Value := [.int .i64 x.1, .int .i64 x.2.1, .int .i64 x.2.2]

open Go.Lib in
theorem eqPlan : EqlAt Try.prog 27 (fun x => .agg (encPlan x).toArray) (fun x y => x.1 == y.1 && (x.2.1 == y.2.1 && x.2.2 == y.2.2)) := by
  refine ⟨fun x y w => ?_, GuardAt.agg _ (by kernel_rfl)⟩
  have u3 := Try.underlying3
  have a3 := Try.isAgg3
  have z3 := Try.sizeOf3
  have hS : Try.prog.underlying 27 = some (.struct (Try.prog.fieldsOf 27)) := by kernel_rfl
  have hp : Try.prog.stoodInHeld 27 = false := by kernel_rfl
  simp only [encPlan]
  rw [run_eql_struct, show (10000 : Nat) = 9999 + 1 from rfl, run_equalIn_agg w 9999 27 _ _ hS hp]
  simp only [Program.fieldsOf, Try.underlying27]
  go_simp
  by_cases h1 : x.fst = y.fst <;> by_cases h2 : x.snd.fst = y.snd.fst <;> by_cases h3 : x.snd.snd = y.snd.snd <;> simp [h1, h2, h3]

/-- are two versions alike? -/
def verB (b c : Bk) (j : Nat) : Bool := eqB (b.PL j) (c.PL j) (b.PX j) (c.PX j) && (b.nd j == c.nd j && (b.of j == c.of j && b.sz j == c.sz j))
/-- are all versions from number k on alike? -/
def restB (b c : Bk) : Nat → Nat → Bool
  | 0, _ => true
  | f + 1, k => verB b c k && restB b c f (k + 1)
def bookB (n m : Nat) (b c : Bk) : Bool := decide (n = m) && restB b c n 0

set_option maxHeartbeats 1000000 in
theorem sameV_any (pv qv : Value) (l m : Nat) (X Y : Nat → Int) (n1 o1 s1 n2 o2 s2 : Int) (w : World) (h1 : IntSl w w.heap.size pv l X) (h2 : IntSl w w.heap.size qv m Y) :
    Calls Try.prog 64 #[verV pv n1 o1 s1, verV qv n2 o2 s2] w fun e w' => e = .returned (.bool (eqB l m X Y && (n1 == n2 && (o1 == o2 && s1 == s2)))) ∧ Below w.heap.size w w' := by
  have qe : ∀ (w : World), (binOp .eql 27 (.agg #[.int .i64 n1, .int .i64 o1, .int .i64 s1]) (.agg #[.int .i64 n2, .int .i64 o2, .int .i64 s2])).run Try.prog w = .ok (.bool (n1 == n2 && (o1 == o2 && s1 == s2))) w := fun w => eqPlan.1 (n1, o1, s1) (n2, o2, s2) w
  have qg : ∀ (op : BinOp) (a b : Operand) (w : World), (eqGuard op 27 a b (.agg #[.int .i64 n1, .int .i64 o1, .int .i64 s1]) (.agg #[.int .i64 n2, .int .i64 o2, .int .i64 s2])).run Try.prog w = .ok () w := fun op a b w => eqPlan.2 op a b (n1, o1, s1) (n2, o2, s2) w
  have hb := ((Below.refl w.heap.size w).alloc (Nat.le_refl _) (.cells #[pv, .int .i64 n1, .int .i64 o1, .int .i64 s1] 29)).alloc (by simp) (.cells #[qv, .int .i64 n2, .int .i64 o2, .int .i64 s2] 29)
  have HE := hid (equal_isl (h1.up hb) (h2.up hb))
  have HB := hid hb
  obtain ⟨a1, c1, rfl, _, _⟩ := h1
  obtain ⟨a2, c2, rfl, _, _⟩ := h2
  generalize eqB l m X Y = ev at *
  generalize (n1 == n2 && (o1 == o2 && s1 == s2)) = pe at *
  clear hb
  unfold verV
  cases ev with
  | false =>
    go_enter Try.func64, Try.ntmps64
    go_wp2_with fail
    refine HE.out.mono ?_
    rintro e w3 ⟨rfl, q, hq⟩
    have HB3 : Hid (Below w.heap.size w w3) := HB.out.trans (by rw [hq]; exact ⟨rfl, rfl, rfl, Nat.le_refl _, fun _ _ => rfl⟩)
    clear hq
    go_wp2
    go_ret
    exact ⟨rfl, HB3.out⟩
  | true =>
    go_enter Try.func64, Try.ntmps64
    go_wp2_with fail
    refine HE.out.mono ?_
    rintro e w3 ⟨rfl, q, hq⟩
    subst hq
    go_wp2
    go_ret
    exact ⟨rfl, HB.out.trans ⟨rfl, rfl, rfl, Nat.le_refl _, fun _ _ => rfl⟩⟩

set_option maxHeartbeats 2000000 in
theorem equalFunc_ver {w : World} {v1 v2 : Value} {n m : Nat} {PV QV : Nat → Value} {b c : Bk} (h1 : VeSl w w.heap.size v1 n PV b) (h2 : VeSl w w.heap.size v2 m QV c) :
    Calls Try.prog 62 #[v1, v2, .func (.func 64) #[] #[]] w fun e w' => e = .returned (.bool (bookB n m b c)) ∧ Below w.heap.size w w' := by
  obtain ⟨a1, c1, rfl, ⟨hc1, hr1⟩, hx⟩ := h1
  obtain ⟨a2, c2, rfl, ⟨hc2, hr2⟩, hy⟩ := h2
  obtain ⟨ans, hans⟩ : ∃ ans, bookB n m b c = ans := ⟨_, rfl⟩
  rw [hans]
  unfold bookB at hans
  by_cases hnm : n = m
  · subst hnm
    rw [decide_eq_true rfl, Bool.true_and] at hans
    have HA := hid hans
    have HX := hid hx
    have HY := hid hy
    clear hx hy hans
    go_enter Try.func62, Try.ntmps62
    go_wp2
    go_loopw [17] (fun iv wr => ∃ k : Nat, k ≤ n ∧ iv = .int .i64 k ∧ Hid (Below w.heap.size w wr) ∧ Hid (restB b c (n - k) k = ans)) (fun iv _ => n - (intOf iv).toNat)
    case atStart => exact ⟨0, Nat.zero_le _, rfl, Below.refl _ _, HA⟩
    case round =>
      obtain ⟨k, hk, rfl, HB, HS⟩ := hrel
      by_cases hlt : k < n
      · have hki : (k : Int) < (n : Int) := by omega
        rcases HX.out with h0 | ⟨b1, o1, rfl, hb1, hx⟩
        · omega
        rcases HY.out with h0 | ⟨b2, o2, rfl, hb2, hy⟩
        · omega
        have hstep := HS.out
        rw [show n - k = (n - (k + 1)) + 1 by omega] at hstep
        simp only [restB] at hstep
        have HSt := hid hstep
        obtain ⟨x0, x1, x2, x3, x4⟩ := hx k hlt
        obtain ⟨y0, y1, y2, y3, y4⟩ := hy k hlt
        have HI1 : Hid (∀ w', Below w.heap.size w w' → IntSl w' w'.heap.size (PV k) (b.PL k) (b.PX k)) := fun w' hb => x4.up hb
        have HI2 : Hid (∀ w', Below w.heap.size w w' → IntSl w' w'.heap.size (QV k) (c.PL k) (c.PX k)) := fun w' hb => y4.up hb
        obtain ⟨ap, cp, hpe, _, _⟩ := x4
        obtain ⟨aq, cq, hqe, _, _⟩ := y4
        rw [hpe] at x0 HI1
        rw [hqe] at y0 HI2
        have g0 : wr.cell? ⟨b1, o1 + k * 4, none⟩ = some (.slice ap (b.PL k) cp) := by rw [HB.out.cell hb1]; exact x0
        have g1 : wr.cell? ⟨b1, o1 + k * 4 + 1, none⟩ = some (.int .i64 (b.nd k)) := by rw [HB.out.cell hb1]; exact x1
        have g2 : wr.cell? ⟨b1, o1 + k * 4 + 2, none⟩ = some (.int .i64 (b.of k)) := by rw [HB.out.cell hb1]; exact x2
        have g3 : wr.cell? ⟨b1, o1 + k * 4 + 3, none⟩ = some (.int .i64 (b.sz k)) := by rw [HB.out.cell hb1]; exact x3
        have e0 : wr.cell? ⟨b2, o2 + k * 4, none⟩ = some (.slice aq (c.PL k) cq) := by rw [HB.out.cell hb2]; exact y0
        have e1 : wr.cell? ⟨b2, o2 + k * 4 + 1, none⟩ = some (.int .i64 (c.nd k)) := by rw [HB.out.cell hb2]; exact y1
        have e2 : wr.cell? ⟨b2, o2 + k * 4 + 2, none⟩ = some (.int .i64 (c.of k)) := by rw [HB.out.cell hb2]; exact y2
        have e3 : wr.cell? ⟨b2, o2 + k * 4 + 3, none⟩ = some (.int .i64 (c.sz k)) := by rw [HB.out.cell hb2]; exact y3
        have l1 : b1 < wr.heap.size := cell_lt g0
        have l2 : b2 < wr.heap.size := cell_lt e0
        clear x0 x1 x2 x3 y0 y1 y2 y3 hpe hqe hx hy hstep
        go_wp2_with fail
        have hbb : Below w.heap.size w ((wr.alloc (.cells #[.slice ap (b.PL k) cp, .int .i64 (b.nd k), .int .i64 (b.of k), .int .i64 (b.sz k)] 29)).alloc (.cells #[.slice aq (c.PL k) cq, .int .i64 (c.nd k), .int .i64 (c.of k), .int .i64 (c.sz k)] 29)) :=
          (HB.out.alloc HB.out.size _).alloc (by simp; exact Nat.le_succ_of_le HB.out.size) _
        refine Calls.mono (sameV_any _ _ _ _ _ _ _ _ _ _ _ _ _ (HI1.out _ hbb) (HI2.out _ hbb)) ?_
        rintro e w2 ⟨rfl, hb3⟩
        have HB3 : Hid (Below w.heap.size w w2) := hbb.trans (hb3.mono hbb.size)
        clear hb3 hbb
        have hvb : (eqB (b.PL k) (c.PL k) (b.PX k) (c.PX k) && (b.nd k == c.nd k && (b.of k == c.of k && b.sz k == c.sz k))) = verB b c k := rfl
        rw [hvb]
        clear hvb
        cases hs : verB b c k with
        | true =>
          have hn := HSt.out
          rw [hs, Bool.true_and] at hn
          have HNx := hid hn
          clear hn
          go_wp2
          go_roundw
          case rel => exact ⟨k + 1, by omega, by go_num, HB3, HNx⟩
          case measure => simp only [intOf]; omega
        | false =>
          have hn := HSt.out
          rw [hs, Bool.false_and] at hn
          have HNx := hid hn
          clear hn
          go_wp2
          go_ret
          exact ⟨by rw [← HNx.out]; rfl, HB3.out⟩
      · have hke : n = k := by omega
        subst hke
        have hst := HS.out
        rw [Nat.sub_self] at hst
        have HFin : Hid (true = ans) := hst
        clear hst
        go_wp2
        go_ret
        exact ⟨by rw [← HFin.out]; rfl, HB.out⟩
  · rw [decide_eq_false hnm, Bool.false_and] at hans
    have HA := hid hans
    have hni : ¬ (n : Int) = (m : Int) := by omega
    clear hans
    go_enter Try.func62, Try.ntmps62
    go_wp2
    go_ret
    exact ⟨by rw [← HA.out]; rfl, Below.refl _ _⟩

theorem sameBook_any {w : World} {v1 v2 : Value} {n m : Nat} {PV QV : Nat → Value} {b c : Bk} (h1 : VeSl w w.heap.size v1 n PV b) (h2 : VeSl w w.heap.size v2 m QV c) :
    Calls Try.prog 20 #[bookV v1, bookV v2] w fun e w' => e = .returned (.bool (bookB n m b c)) ∧ Below w.heap.size w w' := by
  have hb := ((Below.refl w.heap.size w).alloc (Nat.le_refl _) (.cells #[v1] 24)).alloc (by simp) (.cells #[v2] 24)
  have HE := hid (equalFunc_ver (h1.up hb) (h2.up hb))
  have HB := hid hb
  obtain ⟨a1, c1, rfl, _, _⟩ := h1
  obtain ⟨a2, c2, rfl, _, _⟩ := h2
  clear hb
  unfold bookV
  go_enter Try.func20, Try.ntmps20
  go_wp2_with fail
  refine HE.out.mono ?_
  rintro e w3 ⟨rfl, hb3⟩
  have HB3 := hid (HB.out.trans (hb3.mono HB.out.size))
  clear hb3
  go_wp2
  go_ret
  exact ⟨rfl, HB3.out⟩

set_option maxHeartbeats 1000000 in
theorem bkSameV (pv qv : Value) (l m : Nat) (X Y : Nat → Int) (n1 o1 s1 n2 o2 s2 : Int) (w : World) (h1 : IntSl w w.heap.size pv l X) (h2 : IntSl w w.heap.size qv m Y) :
    Calls Try.prog 63 #[verV pv n1 o1 s1, verV qv n2 o2 s2] w fun e w' => e = .returned (.bool (eqB l m X Y && (n1 == n2 && (o1 == o2 && s1 == s2)))) ∧ Below w.heap.size w w' := by
  have qe : ∀ (w : World), (binOp .eql 27 (.agg #[.int .i64 n1, .int .i64 o1, .int .i64 s1]) (.agg #[.int .i64 n2, .int .i64 o2, .int .i64 s2])).run Try.prog w = .ok (.bool (n1 == n2 && (o1 == o2 && s1 == s2))) w := fun w => eqPlan.1 (n1, o1, s1) (n2, o2, s2) w
  have qg : ∀ (op : BinOp) (a b : Operand) (w : World), (eqGuard op 27 a b (.agg #[.int .i64 n1, .int .i64 o1, .int .i64 s1]) (.agg #[.int .i64 n2, .int .i64 o2, .int .i64 s2])).run Try.prog w = .ok () w := fun op a b w => eqPlan.2 op a b (n1, o1, s1) (n2, o2, s2) w
  have hb := ((Below.refl w.heap.size w).alloc (Nat.le_refl _) (.cells #[pv, .int .i64 n1, .int .i64 o1, .int .i64 s1] 29)).alloc (by simp) (.cells #[qv, .int .i64 n2, .int .i64 o2, .int .i64 s2] 29)
  have HE := hid (equal_isl (h1.up hb) (h2.up hb))
  have HB := hid hb
  obtain ⟨a1, c1, rfl, _, _⟩ := h1
  obtain ⟨a2, c2, rfl, _, _⟩ := h2
  generalize eqB l m X Y = ev at *
  generalize (n1 == n2 && (o1 == o2 && s1 == s2)) = pe at *
  clear hb
  unfold verV
  cases pe with
  | false =>
    clear HE
    go_enter Try.func63, Try.ntmps63
    go_wp2
    go_ret
    exact ⟨by rw [Bool.and_false]; rfl, HB.out⟩
  | true =>
    rw [Bool.and_true]
    go_enter Try.func63, Try.ntmps63
    go_wp2_with fail
    refine HE.out.mono ?_
    rintro e w3 ⟨rfl, q, hq⟩
    have HB3 : Hid (Below w.heap.size w w3) := HB.out.trans (by rw [hq]; exact ⟨rfl, rfl, rfl, Nat.le_refl _, fun _ _ => rfl⟩)
    clear hq
    go_wp2
    go_ret
    exact ⟨rfl, HB3.out⟩

set_option maxHeartbeats 2000000 in
theorem bkEqualFunc {w : World} {v1 v2 : Value} {n m : Nat} {PV QV : Nat → Value} {b c : Bk} (h1 : VeSl w w.heap.size v1 n PV b) (h2 : VeSl w w.heap.size v2 m QV c) :
    Calls Try.prog 62 #[v1, v2, .func (.func 63) #[] #[]] w fun e w' => e = .returned (.bool (bookB n m b c)) ∧ Below w.heap.size w w' := by
  obtain ⟨a1, c1, rfl, ⟨hc1, hr1⟩, hx⟩ := h1
  obtain ⟨a2, c2, rfl, ⟨hc2, hr2⟩, hy⟩ := h2
  obtain ⟨ans, hans⟩ : ∃ ans, bookB n m b c = ans := ⟨_, rfl⟩
  rw [hans]
  unfold bookB at hans
  by_cases hnm : n = m
  · subst hnm
    rw [decide_eq_true rfl, Bool.true_and] at hans
    have HA := hid hans
    have HX := hid hx
    have HY := hid hy
    clear hx hy hans
    go_enter Try.func62, Try.ntmps62
    go_wp2
    go_loopw [17] (fun iv wr => ∃ k : Nat, k ≤ n ∧ iv = .int .i64 k ∧ Hid (Below w.heap.size w wr) ∧ Hid (restB b c (n - k) k = ans)) (fun iv _ => n - (intOf iv).toNat)
    case atStart => exact ⟨0, Nat.zero_le _, rfl, Below.refl _ _, HA⟩
    case round =>
      obtain ⟨k, hk, rfl, HB, HS⟩ := hrel
      by_cases hlt : k < n
      · have hki : (k : Int) < (n : Int) := by omega
        rcases HX.out with h0 | ⟨b1, o1, rfl, hb1, hx⟩
        · omega
        rcases HY.out with h0 | ⟨b2, o2, rfl, hb2, hy⟩
        · omega
        have hstep := HS.out
        rw [show n - k = (n - (k + 1)) + 1 by omega] at hstep
        simp only [restB] at hstep
        have HSt := hid hstep
        obtain ⟨x0, x1, x2, x3, x4⟩ := hx k hlt
        obtain ⟨y0, y1, y2, y3, y4⟩ := hy k hlt
        have HI1 : Hid (∀ w', Below w.heap.size w w' → IntSl w' w'.heap.size (PV k) (b.PL k) (b.PX k)) := fun w' hb => x4.up hb
        have HI2 : Hid (∀ w', Below w.heap.size w w' → IntSl w' w'.heap.size (QV k) (c.PL k) (c.PX k)) := fun w' hb => y4.up hb
        obtain ⟨ap, cp, hpe, _, _⟩ := x4
        obtain ⟨aq, cq, hqe, _, _⟩ := y4
        rw [hpe] at x0 HI1
        rw [hqe] at y0 HI2
        have g0 : wr.cell? ⟨b1, o1 + k * 4, none⟩ = some (.slice ap (b.PL k) cp) := by rw [HB.out.cell hb1]; exact x0
        have g1 : wr.cell? ⟨b1, o1 + k * 4 + 1, none⟩ = some (.int .i64 (b.nd k)) := by rw [HB.out.cell hb1]; exact x1
        have g2 : wr.cell? ⟨b1, o1 + k * 4 + 2, none⟩ = some (.int .i64 (b.of k)) := by rw [HB.out.cell hb1]; exact x2
        have g3 : wr.cell? ⟨b1, o1 + k * 4 + 3, none⟩ = some (.int .i64 (b.sz k)) := by rw [HB.out.cell hb1]; exact x3
        have e0 : wr.cell? ⟨b2, o2 + k * 4, none⟩ = some (.slice aq (c.PL k) cq) := by rw [HB.out.cell hb2]; exact y0
        have e1 : wr.cell? ⟨b2, o2 + k * 4 + 1, none⟩ = some (.int .i64 (c.nd k)) := by rw [HB.out.cell hb2]; exact y1
        have e2 : wr.cell? ⟨b2, o2 + k * 4 + 2, none⟩ = some (.int .i64 (c.of k)) := by rw [HB.out.cell hb2]; exact y2
        have e3 : wr.cell? ⟨b2, o2 + k * 4 + 3, none⟩ = some (.int .i64 (c.sz k)) := by rw [HB.out.cell hb2]; exact y3
        have l1 : b1 < wr.heap.size := cell_lt g0
        have l2 : b2 < wr.heap.size := cell_lt e0
        clear x0 x1 x2 x3 y0 y1 y2 y3 hpe hqe hx hy hstep
        go_wp2_with fail
        have hbb : Below w.heap.size w ((wr.alloc (.cells #[.slice ap (b.PL k) cp, .int .i64 (b.nd k), .int .i64 (b.of k), .int .i64 (b.sz k)] 29)).alloc (.cells #[.slice aq (c.PL k) cq, .int .i64 (c.nd k), .int .i64 (c.of k), .int .i64 (c.sz k)] 29)) :=
          (HB.out.alloc HB.out.size _).alloc (by simp; exact Nat.le_succ_of_le HB.out.size) _
        refine Calls.mono (bkSameV _ _ _ _ _ _ _ _ _ _ _ _ _ (HI1.out _ hbb) (HI2.out _ hbb)) ?_
        rintro e w2 ⟨rfl, hb3⟩
        have HB3 : Hid (Below w.heap.size w w2) := hbb.trans (hb3.mono hbb.size)
        clear hb3 hbb
        have hvb : (eqB (b.PL k) (c.PL k) (b.PX k) (c.PX k) && (b.nd k == c.nd k && (b.of k == c.of k && b.sz k == c.sz k))) = verB b c k := rfl
        rw [hvb]
        clear hvb
        cases hs : verB b c k with
        | true =>
          have hn := HSt.out
          rw [hs, Bool.true_and] at hn
          have HNx := hid hn
          clear hn
          go_wp2
          go_roundw
          case rel => exact ⟨k + 1, by omega, by go_num, HB3, HNx⟩
          case measure => simp only [intOf]; omega
        | false =>
          have hn := HSt.out
          rw [hs, Bool.false_and] at hn
          have HNx := hid hn
          clear hn
          go_wp2
          go_ret
          exact ⟨by rw [← HNx.out]; rfl, HB3.out⟩
      · have hke : n = k := by omega
        subst hke
        have hst := HS.out
        rw [Nat.sub_self] at hst
        have HFin : Hid (true = ans) := hst
        clear hst
        go_wp2
        go_ret
        exact ⟨by rw [← HFin.out]; rfl, HB.out⟩
  · rw [decide_eq_false hnm, Bool.false_and] at hans
    have HA := hid hans
    have hni : ¬ (n : Int) = (m : Int) := by omega
    clear hans
    go_enter Try.func62, Try.ntmps62
    go_wp2
    go_ret
    exact ⟨by rw [← HA.out]; rfl, Below.refl _ _⟩

theorem bkSame {w : World} {v1 v2 : Value} {n m : Nat} {PV QV : Nat → Value} {b c : Bk} (h1 : VeSl w w.heap.size v1 n PV b) (h2 : VeSl w w.heap.size v2 m QV c) :
    Calls Try.prog 19 #[bookV v1, bookV v2] w fun e w' => e = .returned (.bool (bookB n m b c)) ∧ Below w.heap.size w w' := by
  have hb := ((Below.refl w.heap.size w).alloc (Nat.le_refl _) (.cells #[v1] 24)).alloc (by simp) (.cells #[v2] 24)
  have HE := hid (bkEqualFunc (h1.up hb) (h2.up hb))
  have HB := hid hb
  obtain ⟨a1, c1, rfl, _, _⟩ := h1
  obtain ⟨a2, c2, rfl, _, _⟩ := h2
  clear hb
  unfold bookV
  go_enter Try.func19, Try.ntmps19
  go_wp2_with fail
  refine HE.out.mono ?_
  rintro e w3 ⟨rfl, hb3⟩
  have HB3 := hid (HB.out.trans (hb3.mono HB.out.size))
  clear hb3
  go_wp2
  go_ret
  exact ⟨rfl, HB3.out⟩

end Go.Proofs.Ytdhefajaekackaa
