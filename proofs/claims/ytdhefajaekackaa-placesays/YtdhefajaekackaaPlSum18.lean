/- Several texts of one proof, in their order. -/
import Derived.Test.YtdhefajaekackaaPlSum8
import Derived.Test.YtdhefajaekackaaPlSum9

/- Where a peer keeps a version, asked by slices.IndexFunc with a function value that holds the version (peer.Find$1). -/
namespace Go.Proofs.Ytdhefajaekackaa

open Go.RowKit
set_option linter.unusedVariables false

theorem peFindF (bx : Nat) (ver V N : Int) (uv : Value) (w : World) (hx : w.cell? ⟨bx, 0, none⟩ = some (.int .i64 ver)) (hu : ∃ a l c, uv = .slice a l c) :
    Calls Try.prog 88 #[keptV V N uv, .pointer (some ⟨bx, 0, none⟩)] w fun e w' => e = .returned (.bool (decide (V = ver))) ∧ Below w.heap.size w w' := by
  obtain ⟨a, l, c, rfl⟩ := hu
  have hb := below_alloc w (.cells #[.int .i64 V, .int .i64 N, .slice a l c] 62)
  have HB := hid hb
  have c1 : (w.alloc (.cells #[.int .i64 V, .int .i64 N, .slice a l c] 62)).cell? ⟨bx, 0, none⟩ = some (.int .i64 ver) := by rw [hb.cell (cell_lt hx)]; exact hx
  clear hb
  have he : (V == ver) = decide (V = ver) := by by_cases h : V = ver <;> simp [h]
  unfold keptV
  go_enter Try.func88, Try.ntmps88
  go_wp2
  go_ret
  exact ⟨by first | rfl | rw [← he], HB.out⟩

set_option maxHeartbeats 1000000 in
theorem peIndex (bx : Nat) (ver : Int) (v : Value) (m : Nat) (UV : Nat → Value) (t : Kt) (w : World) (h : KeSl w w.heap.size v m UV t) (hx : w.cell? ⟨bx, 0, none⟩ = some (.int .i64 ver)) :
    Calls Try.prog 87 #[v, .func (.func 88) #[] #[.pointer (some ⟨bx, 0, none⟩)]] w fun e w' => e = .returned (.int .i64 (fstAt t.V ver m 0)) ∧ Below w.heap.size w w' := by
  obtain ⟨ad, cap, rfl, ⟨hc, hr⟩, hk⟩ := h
  obtain ⟨ans, hans⟩ : ∃ a, fstAt t.V ver m 0 = a := ⟨_, rfl⟩
  rw [hans]
  have HA := hid hans
  have HX := hid hk
  have HBx := hid hx
  clear hans hk hx
  go_enter Try.func87, Try.ntmps87
  go_wp2
  go_loopw [8] (fun iv wr => ∃ i : Nat, i ≤ m ∧ iv = .int .i64 i ∧ Hid (Below w.heap.size w wr) ∧ Hid (fstAt t.V ver (m - i) i = ans)) (fun iv _ => m - (intOf iv).toNat)
  case atStart => exact ⟨0, Nat.zero_le _, rfl, Below.refl _ _, HA⟩
  case round =>
    obtain ⟨i, hi, rfl, HB, HS⟩ := hrel
    by_cases hlt : i < m
    · have hii : (i : Int) < (m : Int) := by omega
      rcases HX.out with h0 | ⟨b1, o1, rfl, hb1, hk⟩
      · omega
      obtain ⟨x0, x1, x2, x3⟩ := hk i hlt
      obtain ⟨au, cu, hue, _, _⟩ := x3
      rw [hue] at x2
      have g0 : wr.cell? ⟨b1, o1 + i * 3, none⟩ = some (.int .i64 (t.V i)) := by rw [HB.out.cell hb1]; exact x0
      have g1 : wr.cell? ⟨b1, o1 + i * 3 + 1, none⟩ = some (.int .i64 (t.N i)) := by rw [HB.out.cell hb1]; exact x1
      have g2 : wr.cell? ⟨b1, o1 + i * 3 + 2, none⟩ = some (.slice au (t.L i) cu) := by rw [HB.out.cell hb1]; exact x2
      have hstep := HS.out
      rw [show m - i = (m - (i + 1)) + 1 by omega] at hstep
      simp only [fstAt] at hstep
      obtain ⟨x, hxx⟩ : ∃ x, t.V i = x := ⟨_, rfl⟩
      rw [hxx] at g0 hstep
      have HC := hid (peFindF bx ver x (t.N i) (.slice au (t.L i) cu) wr (by rw [HB.out.cell (cell_lt HBx.out)]; exact HBx.out) ⟨_, _, _, rfl⟩)
      unfold keptV at HC
      clear x0 x1 x2 hk hue hxx
      by_cases hv : ver = x
      · rw [if_pos hv] at hstep
        rw [decide_eq_true hv.symm] at HC
        have HF := hid hstep
        clear hstep hv
        go_wp2_with fail
        refine Calls.mono HC.out ?_
        rintro e w2 ⟨rfl, hb2⟩
        have HB2 := hid (HB.out.trans (hb2.mono HB.out.size))
        clear hb2
        go_wp2
        go_ret
        exact ⟨by rw [← HF.out]; rfl, HB2.out⟩
      · rw [if_neg hv] at hstep
        rw [decide_eq_false (fun h => hv h.symm)] at HC
        have HF := hid hstep
        clear hstep hv
        go_wp2_with fail
        refine Calls.mono HC.out ?_
        rintro e w2 ⟨rfl, hb2⟩
        have HB2 := hid (HB.out.trans (hb2.mono HB.out.size))
        clear hb2
        go_wp2
        go_roundw
        case rel => exact ⟨i + 1, by omega, by go_num, HB2, HF⟩
        case measure => simp only [intOf]; omega
    · have hie : m = i := by omega
      subst hie
      have hst := HS.out
      rw [Nat.sub_self] at hst
      have HFin : Hid ((-1 : Int) = ans) := hst
      clear hst
      go_wp2
      go_ret
      exact ⟨by rw [← HFin.out]; rfl, HB.out⟩

theorem peFind (th : Bool) (room : Int) (v : Value) (m : Nat) (UV : Nat → Value) (t : Kt) (ver : Int) (w : World) (h : KeSl w w.heap.size v m UV t) :
    Calls Try.prog 40 #[peerV th room v, .int .i64 ver] w fun e w' => e = .returned (.int .i64 (fstAt t.V ver m 0)) ∧ Below w.heap.size w w' := by
  have hb := ((Below.refl w.heap.size w).alloc (Nat.le_refl _) (.cells #[.bool th, .int .i64 room, v] 58)).alloc (by simp) (.cells #[.int .i64 ver] 3)
  have k2 := heap_two_new w (.cells #[.bool th, .int .i64 room, v] 58) (.cells #[.int .i64 ver] 3)
  have HI := hid (peIndex (w.heap.size + 1) ver v m UV t _ (h.up hb) (cell_at k2 rfl))
  have HB := hid hb
  obtain ⟨ad, cap, rfl, _, _⟩ := h
  clear hb k2
  generalize fstAt t.V ver m 0 = ans at *
  have hmf : ∀ (fn : Fn) (first cap : Array Value) (w : World), (Instr.makeFunc fn first cap).run Try.prog w = .ok (.func fn first cap) w := fun _ _ _ _ => rfl
  unfold peerV
  go_enter Try.func40, Try.ntmps40
  go_wp2_with fail
  refine Calls.mono HI.out ?_
  rintro e w2 ⟨rfl, hb2⟩
  have HB2 := hid (HB.out.trans (hb2.mono HB.out.size))
  clear hb2
  go_wp2
  go_ret
  exact ⟨rfl, HB2.out⟩

end Go.Proofs.Ytdhefajaekackaa
