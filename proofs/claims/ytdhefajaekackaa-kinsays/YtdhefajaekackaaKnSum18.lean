/- Several texts of one proof, in their order. -/
import Derived.Test.YtdhefajaekackaaKnSum17

/- What package kin owes, of the landed code. -/
namespace Go.Proofs.Ytdhefajaekackaa

open Go.RowKit
set_option linter.unusedVariables false

set_option maxHeartbeats 1000000 in
theorem kinThoseA (bx : Nat) (v : Value) (l : List Int) (hl : l.length ≤ 1000) (p : Int → Bool) (w : World) (h : IntSl w w.heap.size v l.length (fun t => l.getD t 0))
    (hp : ∀ x, x ∈ l → ∀ w', Below w.heap.size w w' → Calls Try.prog 71 #[.int .i64 x, .pointer (some ⟨bx, 0, none⟩)] w' fun e w'' => e = .returned (.bool (p x)) ∧ Below w'.heap.size w' w'') :
    Calls Try.prog 70 #[v, .func (.func 71) #[] #[.pointer (some ⟨bx, 0, none⟩)]] w fun e w' => Below w.heap.size w w' ∧ ∃ vo, e = .returned vo ∧ OwnL w w' vo (l.filter p) := by
  obtain ⟨ad, cap, rfl, ⟨hc, hr⟩, hx⟩ := h
  obtain ⟨ii, hii, hzz0, hzz1, hzz2⟩ := info_parts Try.infoInt
  have HX := hid hx
  have HP := hid hp
  clear hx hp
  go_enter Try.func70, Try.ntmps70
  go_wp2
  go_loopw [5, 10] (fun vo iv wr => ∃ j : Nat, j ≤ l.length ∧ iv = .int .i64 j ∧ Hid (OwnL w wr vo ((l.take j).filter p))) (fun _ iv _ => l.length - (intOf iv).toNat)
  case atStart => exact ⟨0, Nat.zero_le _, rfl, OwnL.nil _⟩
  case round =>
    obtain ⟨j, hj, rfl, OW⟩ := hrel
    by_cases hlt : j < l.length
    · have hji : (j : Int) < (l.length : Int) := by omega
      rcases HX.out with h0 | ⟨b1, o1, rfl, hb1, hx⟩
      · omega
      obtain ⟨x, hxx⟩ : ∃ x, l.getD j 0 = x := ⟨_, rfl⟩
      have g0 : wr.cell? ⟨b1, o1 + j, none⟩ = some (.int .i64 x) := by rw [OW.out.2.cell hb1]; exact (hx j hlt).trans (by rw [hxx])
      have hsc := filt_next p l hlt hxx
      have hll := filt_len p l j
      have HAk := hid (HP.out x (getD_mem.1 ((hasB_iff _ _ _).2 ⟨j, hlt, hxx⟩)) wr OW.out.2)
      clear hx hxx
      cases hf : p x with
      | true =>
        rw [hf, if_pos rfl] at hsc
        rw [hf] at HAk
        have HSc := hid hsc
        clear hsc hf
        go_wp2_with fail
        refine Calls.mono HAk.out ?_
        rintro e w2 ⟨rfl, hb2⟩
        have O2 := hid (OW.out.up hb2)
        have hge : w.heap.size ≤ w2.heap.size := O2.out.2.size
        clear hb2
        go_wp2_with (at_builtin; go_must (refine wpList_append_own _ rfl (.tmp 17) (.tmp 19) 25 rfl w.heap.size 3 ii (.int .i64 0) 1 8 Try.underlying25 hii hzz0 hzz1 hzz2 rfl (by decide) _ _ _ rfl (World.ownsRow.alloc O2.out.1 _) ⟨_, 0, none⟩ 1 1 [.int .i64 x] rfl rfl (newCell _ _ _) (oneCell _) (by unfold maxLen; omega) (by omega) (by simp; omega) ?_; intro v1 w6 ho6 hg6 _; have O6 := hid (O2.out.push ho6 hg6); clear ho6 hg6))
        go_roundw
        case rel => exact ⟨j + 1, by omega, by go_num, by rw [HSc.out]; exact O6.out⟩
        case measure => simp only [intOf]; omega
      | false =>
        rw [hf, if_neg (by decide), List.append_nil] at hsc
        rw [hf] at HAk
        have HSc := hid hsc
        clear hsc hf
        go_wp2_with fail
        refine Calls.mono HAk.out ?_
        rintro e w2 ⟨rfl, hb2⟩
        have O2 := hid (OW.out.up hb2)
        clear hb2
        go_wp2
        go_roundw
        case rel => exact ⟨j + 1, by omega, by go_num, by rw [HSc.out]; exact O2.out⟩
        case measure => simp only [intOf]; omega
    · have hje : l.length = j := by omega
      have hfin : (l.take j).filter p = l.filter p := by rw [← hje, List.take_length]
      have HFi := hid hfin
      clear hfin
      have hjn : ¬ (j : Int) < (l.length : Int) := by omega
      go_wp2
      go_ret
      refine ⟨OW.out.2, _, rfl, by rw [← HFi.out]; exact OW.out⟩

set_option maxHeartbeats 1000000 in
theorem kinThoseB (bx bz : Nat) (v : Value) (l : List Int) (hl : l.length ≤ 1000) (p : Int → Bool) (w : World) (h : IntSl w w.heap.size v l.length (fun t => l.getD t 0))
    (hp : ∀ x, x ∈ l → ∀ w', Below w.heap.size w w' → Calls Try.prog 72 #[.int .i64 x, .pointer (some ⟨bx, 0, none⟩), .pointer (some ⟨bz, 0, none⟩)] w' fun e w'' => e = .returned (.bool (p x)) ∧ Below w'.heap.size w' w'') :
    Calls Try.prog 70 #[v, .func (.func 72) #[] #[.pointer (some ⟨bx, 0, none⟩), .pointer (some ⟨bz, 0, none⟩)]] w fun e w' => Below w.heap.size w w' ∧ ∃ vo, e = .returned vo ∧ OwnL w w' vo (l.filter p) := by
  obtain ⟨ad, cap, rfl, ⟨hc, hr⟩, hx⟩ := h
  obtain ⟨ii, hii, hzz0, hzz1, hzz2⟩ := info_parts Try.infoInt
  have HX := hid hx
  have HP := hid hp
  clear hx hp
  go_enter Try.func70, Try.ntmps70
  go_wp2
  go_loopw [5, 10] (fun vo iv wr => ∃ j : Nat, j ≤ l.length ∧ iv = .int .i64 j ∧ Hid (OwnL w wr vo ((l.take j).filter p))) (fun _ iv _ => l.length - (intOf iv).toNat)
  case atStart => exact ⟨0, Nat.zero_le _, rfl, OwnL.nil _⟩
  case round =>
    obtain ⟨j, hj, rfl, OW⟩ := hrel
    by_cases hlt : j < l.length
    · have hji : (j : Int) < (l.length : Int) := by omega
      rcases HX.out with h0 | ⟨b1, o1, rfl, hb1, hx⟩
      · omega
      obtain ⟨x, hxx⟩ : ∃ x, l.getD j 0 = x := ⟨_, rfl⟩
      have g0 : wr.cell? ⟨b1, o1 + j, none⟩ = some (.int .i64 x) := by rw [OW.out.2.cell hb1]; exact (hx j hlt).trans (by rw [hxx])
      have hsc := filt_next p l hlt hxx
      have hll := filt_len p l j
      have HAk := hid (HP.out x (getD_mem.1 ((hasB_iff _ _ _).2 ⟨j, hlt, hxx⟩)) wr OW.out.2)
      clear hx hxx
      cases hf : p x with
      | true =>
        rw [hf, if_pos rfl] at hsc
        rw [hf] at HAk
        have HSc := hid hsc
        clear hsc hf
        go_wp2_with fail
        refine Calls.mono HAk.out ?_
        rintro e w2 ⟨rfl, hb2⟩
        have O2 := hid (OW.out.up hb2)
        have hge : w.heap.size ≤ w2.heap.size := O2.out.2.size
        clear hb2
        go_wp2_with (at_builtin; go_must (refine wpList_append_own _ rfl (.tmp 17) (.tmp 19) 25 rfl w.heap.size 3 ii (.int .i64 0) 1 8 Try.underlying25 hii hzz0 hzz1 hzz2 rfl (by decide) _ _ _ rfl (World.ownsRow.alloc O2.out.1 _) ⟨_, 0, none⟩ 1 1 [.int .i64 x] rfl rfl (newCell _ _ _) (oneCell _) (by unfold maxLen; omega) (by omega) (by simp; omega) ?_; intro v1 w6 ho6 hg6 _; have O6 := hid (O2.out.push ho6 hg6); clear ho6 hg6))
        go_roundw
        case rel => exact ⟨j + 1, by omega, by go_num, by rw [HSc.out]; exact O6.out⟩
        case measure => simp only [intOf]; omega
      | false =>
        rw [hf, if_neg (by decide), List.append_nil] at hsc
        rw [hf] at HAk
        have HSc := hid hsc
        clear hsc hf
        go_wp2_with fail
        refine Calls.mono HAk.out ?_
        rintro e w2 ⟨rfl, hb2⟩
        have O2 := hid (OW.out.up hb2)
        clear hb2
        go_wp2
        go_roundw
        case rel => exact ⟨j + 1, by omega, by go_num, by rw [HSc.out]; exact O2.out⟩
        case measure => simp only [intOf]; omega
    · have hje : l.length = j := by omega
      have hfin : (l.take j).filter p = l.filter p := by rw [← hje, List.take_length]
      have HFi := hid hfin
      clear hfin
      have hjn : ¬ (j : Int) < (l.length : Int) := by omega
      go_wp2
      go_ret
      refine ⟨OW.out.2, _, rfl, by rw [← HFi.out]; exact OW.out⟩

set_option maxHeartbeats 1000000 in
theorem indexFunc_kin (bx bo : Nat) (v : Value) (m : Nat) (X : Nat → Int) (p : Nat → Bool) (w : World) (h : IntSl w w.heap.size v m X)
    (hp : ∀ i, i < m → ∀ w', Below w.heap.size w w' → Calls Try.prog 103 #[.int .i64 (X i), .pointer (some ⟨bx, 0, none⟩), .pointer (some ⟨bo, 0, none⟩)] w' fun e w'' => e = .returned (.bool (p i)) ∧ Below w'.heap.size w' w'') :
    Calls Try.prog 69 #[v, .func (.func 103) #[] #[.pointer (some ⟨bx, 0, none⟩), .pointer (some ⟨bo, 0, none⟩)]] w fun e w' => ∃ r : Int, e = .returned (.int .i64 r) ∧ decide (0 ≤ r) = anyB p m 0 ∧ Below w.heap.size w w' := by
  obtain ⟨ad, cap, rfl, ⟨hc, hr⟩, hx⟩ := h
  obtain ⟨ans, hans⟩ : ∃ ans, anyB p m 0 = ans := ⟨_, rfl⟩
  rw [hans]
  have HA := hid hans
  have HX := hid hx
  have HP := hid hp
  clear hans hx hp
  go_enter Try.func69, Try.ntmps69
  go_wp2
  go_loopw [8] (fun iv wr => ∃ i : Nat, i ≤ m ∧ iv = .int .i64 i ∧ Hid (Below w.heap.size w wr) ∧ Hid (anyB p (m - i) i = ans)) (fun iv _ => m - (intOf iv).toNat)
  case atStart => exact ⟨0, Nat.zero_le _, rfl, Below.refl _ _, HA⟩
  case round =>
    obtain ⟨i, hi, rfl, HB, HS⟩ := hrel
    by_cases hlt : i < m
    · have hii : (i : Int) < (m : Int) := by omega
      rcases HX.out with h0 | ⟨b1, o1, rfl, hb1, hx⟩
      · omega
      have g0 : wr.cell? ⟨b1, o1 + i, none⟩ = some (.int .i64 (X i)) := by rw [HB.out.cell hb1]; exact hx i hlt
      have hstep := HS.out
      rw [show m - i = (m - (i + 1)) + 1 by omega] at hstep
      simp only [anyB] at hstep
      have HC := hid (HP.out i hlt wr HB.out)
      clear hx
      cases hpi : p i with
      | true =>
        rw [hpi, Bool.true_or] at hstep
        rw [hpi] at HC
        have HSt := hid hstep
        clear hstep hpi
        go_wp2_with fail
        refine Calls.mono HC.out ?_
        rintro e w2 ⟨rfl, hb2⟩
        have HB2 := hid (HB.out.trans (hb2.mono HB.out.size))
        clear hb2
        go_wp2
        go_ret
        exact ⟨_, rfl, by rw [← HSt.out]; exact decide_eq_true (by omega), HB2.out⟩
      | false =>
        rw [hpi, Bool.false_or] at hstep
        rw [hpi] at HC
        have HSt := hid hstep
        clear hstep hpi
        go_wp2_with fail
        refine Calls.mono HC.out ?_
        rintro e w2 ⟨rfl, hb2⟩
        have HB2 := hid (HB.out.trans (hb2.mono HB.out.size))
        clear hb2
        go_wp2
        go_roundw
        case rel => exact ⟨i + 1, by omega, by go_num, HB2, HSt⟩
        case measure => simp only [intOf]; omega
    · have hie : m = i := by omega
      subst hie
      have hst := HS.out
      rw [Nat.sub_self] at hst
      have HFin : Hid (false = ans) := hst
      clear hst
      go_wp2
      go_ret
      exact ⟨_, rfl, by rw [← HFin.out]; decide, HB.out⟩

theorem containsFunc_kin (bx bo : Nat) (v : Value) (m : Nat) (X : Nat → Int) (p : Nat → Bool) (w : World) (h : IntSl w w.heap.size v m X)
    (hp : ∀ i, i < m → ∀ w', Below w.heap.size w w' → Calls Try.prog 103 #[.int .i64 (X i), .pointer (some ⟨bx, 0, none⟩), .pointer (some ⟨bo, 0, none⟩)] w' fun e w'' => e = .returned (.bool (p i)) ∧ Below w'.heap.size w' w'') :
    Calls Try.prog 26 #[v, .func (.func 103) #[] #[.pointer (some ⟨bx, 0, none⟩), .pointer (some ⟨bo, 0, none⟩)]] w fun e w' => e = .returned (.bool (anyB p m 0)) ∧ Below w.heap.size w w' := by
  have HI := hid (indexFunc_kin bx bo v m X p w h hp)
  obtain ⟨ad, cap, rfl, _, _⟩ := h
  clear hp
  go_enter Try.func26, Try.ntmps26
  go_wp2_with fail
  refine HI.out.mono ?_
  rintro e w2 ⟨r, rfl, hd, hb⟩
  have HB := hid hb
  have HD := hid hd
  clear hb hd
  go_wp2
  go_ret
  exact ⟨by rw [← HD.out]; simp, HB.out⟩

/-- does version k come from old, as package kin asks it? -/
theorem kinComes (v : Value) (n : Nat) (PV : Nat → Value) (b : Bk) (k old : Nat) (w : World) (h : VeSl w w.heap.size v n PV b) (hb : bookE n b = 0) (hk : k < n) :
    Calls Try.prog 104 #[bookV v, .int .i64 (k : Int), .int .i64 (old : Int)] w fun e w' => e = .returned (.bool (fR b k old)) ∧ Below w.heap.size w w' := by
  have hR := right_of hb
  have hbx := below_alloc w (.cells #[v] 24)
  have HBx := hid hbx
  have HB := hid (bkBehind v n PV b (k : Int) _ (h.up hbx))
  rw [show behE n b (k : Int) = 0 by unfold behE; rw [if_pos hb, if_pos (by omega)], if_pos rfl, Int.toNat_natCast] at HB
  have hm : amB (bhL b k) (old : Int) = fR b k old := by
    rw [Bool.eq_iff_iff, amB_iff, mem_bhL hR.elder hk, fR_iff hR.elder hk]
    constructor
    · rintro ⟨y, e, h⟩
      obtain rfl : old = y := by omega
      exact h
    · intro h; exact ⟨old, rfl, h⟩
  have HM := hid hm
  clear hm hR hb hbx
  obtain ⟨ad, cap, rfl, _, _⟩ := h
  unfold bookV at *
  go_enter Try.func104, Try.ntmps104
  go_wp2_with fail
  refine Calls.mono HB.out ?_
  rintro e w2 ⟨hb2, vl, rfl, hl⟩
  have HB2 := hid (HBx.out.trans (hb2.mono HBx.out.size))
  have HC := hid (contains_sl hl (old : Int))
  have hE : hasB (fun t => (bhL b k).getD t 0) (bhL b k).length (old : Int) = fR b k old := HM.out
  rw [hE] at HC
  obtain ⟨al, cl, rfl, _, _⟩ := hl
  clear hb2 hE HB
  go_wp2_with fail
  refine Calls.mono HC.out ?_
  rintro e w3 ⟨rfl, hw3⟩
  subst hw3
  go_wp2
  go_ret
  exact ⟨rfl, HB2.out⟩

/-- what package kin asks of each of them -/
theorem kinPassF (v : Value) (n : Nat) (PV : Nat → Value) (b : Bk) (bk bb q x : Nat) (w : World) (h : VeSl w w.heap.size v n PV b) (hb : bookE n b = 0) (hq : q < n)
    (hk : w.cell? ⟨bk, 0, none⟩ = some (.int .i64 (x : Int))) (hv : w.cell? ⟨bb, 0, none⟩ = some v) :
    Calls Try.prog 103 #[.int .i64 (q : Int), .pointer (some ⟨bk, 0, none⟩), .pointer (some ⟨bb, 0, none⟩)] w fun e w' => e = .returned (.bool (decide ((q : Int) ≠ (x : Int)) && fR b q x)) ∧ Below w.heap.size w w' := by
  have HC := hid (kinComes v n PV b q x w h hb hq)
  obtain ⟨ad, cap, rfl, _, _⟩ := h
  unfold bookV at HC
  by_cases he : q = x
  · have hz : (decide ((q : Int) ≠ (x : Int)) && fR b q x) = false := by rw [he]; simp
    rw [hz]
    clear hz
    have hei : ((q : Int) != (x : Int)) = false := by rw [bne_eq_false_iff_eq]; omega
    clear he
    go_enter Try.func103, Try.ntmps103
    go_wp2
    go_ret
    exact ⟨rfl, Below.refl _ _⟩
  · have hz : (decide ((q : Int) ≠ (x : Int)) && fR b q x) = fR b q x := by rw [decide_eq_true (by omega), Bool.true_and]
    rw [hz]
    clear hz
    have hei : ((q : Int) != (x : Int)) = true := by rw [bne_iff_ne]; omega
    clear he
    go_enter Try.func103, Try.ntmps103
    go_wp2_with fail
    refine Calls.mono HC.out ?_
    rintro e w2 ⟨rfl, hb2⟩
    have HB2 := hid hb2
    clear hb2
    go_wp2
    go_ret
    exact ⟨rfl, HB2.out⟩

/-- does another one of these come from it, as package kin asks it? -/
theorem kinPassed (v : Value) (n : Nat) (PV : Nat → Value) (b : Bk) (vl : Value) (l : List Int) (x : Nat) (w : World) (h : VeSl w w.heap.size v n PV b) (hb : bookE n b = 0)
    (hl : IntSl w w.heap.size vl l.length (fun t => l.getD t 0)) (hm : ∀ y, y ∈ l → ∃ q : Nat, y = q ∧ q < n) :
    Calls Try.prog 73 #[bookV v, vl, .int .i64 (x : Int)] w fun e w' => e = .returned (.bool (pasB b l (x : Int))) ∧ Below w.heap.size w w' := by
  have hbw := ((Below.refl w.heap.size w).alloc (Nat.le_refl _) (.cells #[v] 24)).alloc (by simp) (.cells #[.int .i64 (x : Int)] 3)
  have k1 := cell_at (i := 0) (heap_two_old w (.cells #[v] 24) (.cells #[.int .i64 (x : Int)] 3)) rfl
  have k2 := cell_at (i := 0) (heap_two_new w (.cells #[v] 24) (.cells #[.int .i64 (x : Int)] 3)) rfl
  obtain ⟨W, hW⟩ : ∃ W, (w.alloc (.cells #[v] 24)).alloc (.cells #[.int .i64 (x : Int)] 3) = W := ⟨_, rfl⟩
  rw [hW] at hbw k1 k2
  have HC := hid (containsFunc_kin (w.heap.size + 1) w.heap.size vl l.length (fun t => l.getD t 0) (fun t => decide (l.getD t 0 ≠ (x : Int)) && fR b (l.getD t 0).toNat (x : Int).toNat) W (hl.up hbw) (fun i hi w' hb' => by
    obtain ⟨q, hq, hqn⟩ := hm _ (getD_mem.1 ((hasB_iff _ _ _).2 ⟨i, hi, rfl⟩))
    have hq2 : l.getD i 0 = (q : Int) := hq
    simp only [hq2, Int.toNat_natCast]
    exact kinPassF v n PV b _ _ q x w' ((h.up hbw).up hb') hb hqn (by rw [hb'.cell (cell_lt k2)]; exact k2) (by rw [hb'.cell (cell_lt k1)]; exact k1)))
  have HB := hid hbw
  have hps : anyB (fun t => decide (l.getD t 0 ≠ (x : Int)) && fR b (l.getD t 0).toNat (x : Int).toNat) l.length 0 = pasB b l (x : Int) := rfl
  rw [hps] at HC
  generalize pasB b l (x : Int) = ans at *
  obtain ⟨ad, cap, rfl, _, _⟩ := h
  obtain ⟨al, cl, rfl, _, _⟩ := hl
  clear hps hm hbw k1 k2
  have hmf : ∀ (fn : Fn) (first cap : Array Value) (w : World), (Instr.makeFunc fn first cap).run Try.prog w = .ok (.func fn first cap) w := fun _ _ _ _ => rfl
  unfold bookV
  go_enter Try.func73, Try.ntmps73
  go_wp2_with fail
  refine Calls.mono HC.out ?_
  rintro e w2 ⟨rfl, hb2⟩
  have HB2 := hid (HB.out.trans (hb2.mono HB.out.size))
  clear hb2
  go_wp2
  go_ret
  exact ⟨rfl, HB2.out⟩

end Go.Proofs.Ytdhefajaekackaa
