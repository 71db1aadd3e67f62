/- Several texts of one proof, in their order. -/
import Derived.Test.YtdhefajaekackaaBkSum3

/- What chapter 5's reference answers: a book's error. -/
namespace Go.Proofs.Ytdhefajaekackaa

open Go.RowKit
set_option linter.unusedVariables false

set_option maxHeartbeats 2000000 in
set_option maxRecDepth 10000 in
theorem checkBook_any (v : Value) (n : Nat) (PV : Nat → Value) (b : Bk) (w : World) (h : VeSl w w.heap.size v n PV b) :
    Calls Try.prog 16 #[bookV v] w fun e w' => e = .returned (.int .i64 (bookE n b)) ∧ Below w.heap.size w w' := by
  obtain ⟨ad, cap, rfl, ⟨hcap, hbig⟩, hx⟩ := h
  have hbx := below_alloc w (.cells #[.slice ad n cap] 24)
  have HBx := hid hbx
  have HX := hid hx
  obtain ⟨ans, hans⟩ : ∃ a, bookE n b = a := ⟨_, rfl⟩
  rw [hans]
  unfold bookE at hans
  have HCp := hid (fun nd of sz w => checkPlan_any nd of sz w)
  clear hbx hx
  unfold bookV
  by_cases hn : n ≤ 12
  · rw [if_pos hn] at hans
    have HA := hid hans
    have hni : (n : Int) ≤ 12 := by omega
    clear hans
    go_enter Try.func16, Try.ntmps16
    go_wp2
    go_loopw [16] (fun iv wr => ∃ k : Nat, k ≤ n ∧ iv = .int .i64 k ∧ Hid (Below w.heap.size w wr) ∧ Hid (scanV b (n - k) k = ans)) (fun iv _ => n - (intOf iv).toNat)
    case atStart => exact ⟨0, Nat.zero_le _, rfl, HBx, HA⟩
    case round =>
      obtain ⟨k, hk, rfl, HB, HS⟩ := hrel
      by_cases hlt : k < n
      · have hki : (k : Int) < (n : Int) := by omega
        rcases HX.out with h0 | ⟨bl, off, rfl, hbl, hx⟩
        · omega
        obtain ⟨x0, x1, x2, x3, x4⟩ := hx k hlt
        have hstep := HS.out
        rw [show n - k = (n - (k + 1)) + 1 by omega] at hstep
        simp only [scanV] at hstep
        obtain ⟨ap, cp, hpe, hpl, hpc⟩ := x4
        obtain ⟨m, hm⟩ : ∃ m, b.PL k = m := ⟨_, rfl⟩
        rw [hm] at hpe hpl hpc
        have g0 : wr.cell? ⟨bl, off + k * 4, none⟩ = some (.slice ap m cp) := by rw [HB.out.cell hbl, x0, hpe]
        have g1 : wr.cell? ⟨bl, off + k * 4 + 1, none⟩ = some (.int .i64 (b.nd k)) := by rw [HB.out.cell hbl]; exact x1
        have g2 : wr.cell? ⟨bl, off + k * 4 + 2, none⟩ = some (.int .i64 (b.of k)) := by rw [HB.out.cell hbl]; exact x2
        have g3 : wr.cell? ⟨bl, off + k * 4 + 3, none⟩ = some (.int .i64 (b.sz k)) := by rw [HB.out.cell hbl]; exact x3
        obtain ⟨nd, hnd⟩ : ∃ nd, b.nd k = nd := ⟨_, rfl⟩
        obtain ⟨of, hof⟩ : ∃ of, b.of k = of := ⟨_, rfl⟩
        obtain ⟨sz, hsz⟩ : ∃ sz, b.sz k = sz := ⟨_, rfl⟩
        rw [hnd] at g1
        rw [hof] at g2
        rw [hsz] at g3
        have hbA := below_alloc wr (.cells #[.slice ap m cp, .int .i64 nd, .int .i64 of, .int .i64 sz] 29)
        obtain ⟨W, hW⟩ : ∃ W, wr.alloc (.cells #[.slice ap m cp, .int .i64 nd, .int .i64 of, .int .i64 sz] 29) = W := ⟨_, rfl⟩
        rw [hW] at hbA
        have s0 : W.cell? ⟨wr.heap.size, 0, none⟩ = some (.slice ap m cp) := by rw [← hW]; exact cell_at (heap_alloc_new _ _) rfl
        have s1 : W.cell? ⟨wr.heap.size, 1, none⟩ = some (.int .i64 nd) := by rw [← hW]; exact cell_at (heap_alloc_new _ _) rfl
        have s2 : W.cell? ⟨wr.heap.size, 2, none⟩ = some (.int .i64 of) := by rw [← hW]; exact cell_at (heap_alloc_new _ _) rfl
        have s3 : W.cell? ⟨wr.heap.size, 3, none⟩ = some (.int .i64 sz) := by rw [← hW]; exact cell_at (heap_alloc_new _ _) rfl
        have HBW := hid (HB.out.trans (hbA.mono HB.out.size))
        have HPc := hid hpc
        have HSt := hid hstep
        have HNd := hid hnd
        have HOf := hid hof
        have HSz := hid hsz
        have HM := hid hm
        clear x0 x1 x2 x3 hx hpe hbA hpc hstep hnd hof hsz hm
        go_wp2
        go_loopw [5, 24] (fun lv iv wz => ∃ (i : Nat) (last : Int), i ≤ m ∧ iv = .int .i64 i ∧ lv = .int .i64 last ∧ wz = W ∧ Hid (parE k (b.PX k) (m - i) i last = parE k (b.PX k) m 0 (-1))) (fun _ iv _ => m - (intOf iv).toNat)
        case atStart => exact ⟨0, -1, Nat.zero_le _, rfl, rfl, rfl, rfl⟩
        case round =>
          obtain ⟨i, last, hi, rfl, rfl, hwz, HP⟩ := hrel
          subst hwz
          by_cases him : i < m
          · have himi : (i : Int) < (m : Int) := by omega
            rcases HPc.out with h0 | ⟨bp, op, rfl, hbp, hpx⟩
            · omega
            have e0 : wr.cell? ⟨bp, op + i, none⟩ = some (.int .i64 (b.PX k i)) := by rw [HBW.out.cell hbp]; exact hpx i him
            have hp := HP.out
            rw [show m - i = (m - (i + 1)) + 1 by omega] at hp
            simp only [parE] at hp
            obtain ⟨x, hxx⟩ : ∃ x, b.PX k i = x := ⟨_, rfl⟩
            rw [hxx] at e0 hp
            clear hpx hxx
            by_cases c1 : x < 0 ∨ (k : Int) ≤ x
            · rw [if_pos c1] at hp
              have hst := HSt.out
              have hv : verE b k = 4 := by unfold verE; rw [HM.out, ← hp, if_neg (by decide)]
              rw [hv, if_neg (by decide)] at hst
              have HFin := hid hst
              clear hp hst hv
              by_cases c2 : x < 0
              · go_wp2
                go_ret
                exact ⟨by rw [← HFin.out]; rfl, HBW.out⟩
              · have c3 : (k : Int) ≤ x := by omega
                go_wp2
                go_ret
                exact ⟨by rw [← HFin.out]; rfl, HBW.out⟩
            · rw [if_neg c1] at hp
              have c2 : ¬ x < 0 := fun h => c1 (Or.inl h)
              have c3 : ¬ (k : Int) ≤ x := fun h => c1 (Or.inr h)
              by_cases c4 : x ≤ last
              · rw [if_pos c4] at hp
                have hst := HSt.out
                have hv : verE b k = 5 := by unfold verE; rw [HM.out, ← hp, if_neg (by decide)]
                rw [hv, if_neg (by decide)] at hst
                have HFin := hid hst
                clear hp hst hv c1
                go_wp2
                go_ret
                exact ⟨by rw [← HFin.out]; rfl, HBW.out⟩
              · rw [if_neg c4] at hp
                have HP2 := hid hp
                clear hp c1
                go_wp2
                go_roundw
                case rel => exact ⟨i + 1, x, by omega, by go_num, rfl, trivial, HP2⟩
                case measure => simp only [intOf]; omega
          · have hie : m = i := by omega
            subst hie
            have hp := HP.out
            rw [Nat.sub_self] at hp
            have hp0 : parE k (b.PX k) m 0 (-1) = 0 := hp.symm
            have hst := HSt.out
            have hv : verE b k = chkP nd of sz := by unfold verE; rw [HM.out, hp0, if_pos rfl, HNd.out, HOf.out, HSz.out]
            rw [hv] at hst
            have HCk := hid (HCp.out nd of sz wr)
            obtain ⟨c, hcc⟩ : ∃ c, chkP nd of sz = c := ⟨_, rfl⟩
            rw [hcc] at hst HCk
            clear hp hp0 hv hcc
            unfold planV at HCk
            by_cases hc0 : c = 0
            · subst hc0
              rw [if_pos rfl] at hst
              have HNx := hid hst
              clear hst
              go_wp2_with fail
              refine Calls.mono HCk.out ?_
              rintro e w5 ⟨rfl, hb5⟩
              have HB5 := hid (HBW.out.trans (hb5.mono HBW.out.size))
              clear hb5
              go_wp2
              go_roundw
              case rel => exact ⟨k + 1, by omega, by go_num, HB5, HNx⟩
              case measure => simp only [intOf]; omega
            · rw [if_neg hc0] at hst
              have HFin := hid hst
              have hcb : (c != 0) = true := by simpa using hc0
              clear hst hc0
              go_wp2_with fail
              refine Calls.mono HCk.out ?_
              rintro e w5 ⟨rfl, hb5⟩
              have HB5 := hid (HBW.out.trans (hb5.mono HBW.out.size))
              clear hb5
              go_wp2
              go_ret
              exact ⟨by rw [← HFin.out]; rfl, HB5.out⟩
      · have hke : n = k := by omega
        subst hke
        have hst := HS.out
        rw [Nat.sub_self] at hst
        have HFin : Hid ((0 : Int) = ans) := hst
        clear hst
        go_wp2
        go_ret
        exact ⟨by rw [← HFin.out]; rfl, HB.out⟩
  · rw [if_neg hn] at hans
    have HA := hid hans
    have hni : ¬ (n : Int) ≤ 12 := by omega
    clear hans
    go_enter Try.func16, Try.ntmps16
    go_wp2
    go_ret
    exact ⟨by rw [← HA.out]; rfl, HBx.out⟩

end Go.Proofs.Ytdhefajaekackaa
