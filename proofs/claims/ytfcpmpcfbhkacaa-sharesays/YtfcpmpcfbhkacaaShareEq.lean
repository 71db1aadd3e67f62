/- slices.EqualFunc over two lists of shares, by a function that tells whether two shares are alike. -/
import Derived.Test.YtfcpmpcfbhkacaaShareSpec
namespace Go.Proofs.Ytfcpmpcfbhkacaa
open Go.RowKit CurveMath
set_option linter.unusedVariables false

def eqShB (n m : Nat) (N1 N2 : Nat → Int) (L1 L2 : Nat → Nat) (X1 X2 : Nat → Nat → Int) : Bool := decide (n = m ∧ ∀ j, j < n → sameB (N1 j) (N2 j) (L1 j) (L2 j) (X1 j) (X2 j) = true)

/-- from place k on -/
def eqFrom (N1 N2 : Nat → Int) (L1 L2 : Nat → Nat) (X1 X2 : Nat → Nat → Int) (n k : Nat) : Bool := decide (∀ j, j < n → k ≤ j → sameB (N1 j) (N2 j) (L1 j) (L2 j) (X1 j) (X2 j) = true)

theorem eqFrom_bad {N1 N2 : Nat → Int} {L1 L2 : Nat → Nat} {X1 X2 : Nat → Nat → Int} {n k : Nat} {b : Bool} (hk : k < n) (h : eqFrom N1 N2 L1 L2 X1 X2 n k = b) (hb : sameB (N1 k) (N2 k) (L1 k) (L2 k) (X1 k) (X2 k) = false) : b = false := by
  rw [← h]
  refine decide_eq_false fun h1 => ?_
  have := h1 k hk (Nat.le_refl _)
  rw [hb] at this
  cases this

theorem eqFrom_next {N1 N2 : Nat → Int} {L1 L2 : Nat → Nat} {X1 X2 : Nat → Nat → Int} {n k : Nat} {b : Bool} (h : eqFrom N1 N2 L1 L2 X1 X2 n k = b) (hb : sameB (N1 k) (N2 k) (L1 k) (L2 k) (X1 k) (X2 k) = true) : eqFrom N1 N2 L1 L2 X1 X2 n (k + 1) = b := by
  rw [← h]
  unfold eqFrom
  rw [decide_eq_decide]
  constructor
  · intro h1 j hjn hj
    by_cases e : j = k
    · rw [e]; exact hb
    · exact h1 j hjn (by omega)
  · intro h1 j hjn hj
    exact h1 j hjn (by omega)

theorem eqFrom_end {N1 N2 : Nat → Int} {L1 L2 : Nat → Nat} {X1 X2 : Nat → Nat → Int} {n : Nat} {b : Bool} (h : eqFrom N1 N2 L1 L2 X1 X2 n n = b) : b = true := by
  rw [← h]
  exact decide_eq_true fun j h1 h2 => by omega

theorem eqFrom_start {N1 N2 : Nat → Int} {L1 L2 : Nat → Nat} {X1 X2 : Nat → Nat → Int} {n : Nat} : eqFrom N1 N2 L1 L2 X1 X2 n 0 = eqShB n n N1 N2 L1 L2 X1 X2 := by
  unfold eqFrom eqShB
  rw [decide_eq_decide]
  exact ⟨fun h => ⟨rfl, fun j hj => h j hj (Nat.zero_le _)⟩, fun h j hj _ => h.2 j hj⟩

theorem equalFunc_Same {w : World} {v1 v2 : Value} {n m : Nat} {N1 N2 : Nat → Int} {V1 V2 : Nat → Value} {L1 L2 : Nat → Nat} {X1 X2 : Nat → Nat → Int}
    (hf : ∀ (N1 N2 : Int) (V1 V2 : Value) (n m : Nat) (X Y : Nat → Int) (w : World), IntSl w w.heap.size V1 n X → IntSl w w.heap.size V2 m Y →
      Calls Try.prog 23 #[shareV N1 V1, shareV N2 V2] w fun e w' => e = .returned (.bool (sameB N1 N2 n m X Y)) ∧ Below w.heap.size w w')
    (h1 : ShSl w w.heap.size v1 n N1 V1 L1 X1) (h2 : ShSl w w.heap.size v2 m N2 V2 L2 X2) :
    Calls Try.prog 25 #[v1, v2, .func (.func 23) #[] #[]] w fun e w' => e = .returned (.bool (eqShB n m N1 N2 L1 L2 X1 X2)) ∧ Below w.heap.size w w' := by
  have s1 := h1
  have s2 := h2
  obtain ⟨a1, c1, rfl, ⟨hc1, hr1⟩, hx⟩ := h1
  obtain ⟨a2, c2, rfl, ⟨hc2, hr2⟩, hy⟩ := h2
  by_cases hnm : n = m
  · subst hnm
    by_cases h0 : n = 0
    · subst h0
      have e : eqShB 0 0 N1 N2 L1 L2 X1 X2 = true := decide_eq_true ⟨rfl, fun j hj => by omega⟩
      rw [e]
      clear hf s1 s2 hx hy e
      go_enter Try.func25, Try.ntmps25
      go_wp2
      refine wp_loop_rounds 1 ?_
      rw [rounds_succ]
      go_wp2
      go_ret
      exact ⟨rfl, Below.refl _ _⟩
    · rcases hx with h | ⟨b1, o1, rfl, hb1, hx⟩
      · omega
      rcases hy with h | ⟨b2, o2, rfl, hb2, hy⟩
      · omega
      have HX := hid hx
      have HY := hid hy
      have HFn := hid hf
      clear hx hy hf s1 s2
      go_enter Try.func25, Try.ntmps25
      go_wp2
      go_loopw [17] (fun i wr => ∃ k : Nat, k ≤ n ∧ i = .int .i64 k ∧ Hid (Below w.heap.size w wr) ∧ Hid (eqFrom N1 N2 L1 L2 X1 X2 n k = eqShB n n N1 N2 L1 L2 X1 X2)) (fun i _ => n - (intOf i).toNat)
      case atStart => exact ⟨0, Nat.zero_le _, rfl, Below.refl _ _, eqFrom_start⟩
      case round =>
        obtain ⟨k, hk, rfl, HB, HE⟩ := hrel
        by_cases hlt : k < n
        · have hki : (k : Int) < (n : Int) := by omega
          obtain ⟨x1, x2, x3⟩ := HX.out k hlt
          obtain ⟨y1, y2, y3⟩ := HY.out k hlt
          have g1 : wr.cell? ⟨b1, o1 + k * 2, none⟩ = some (.int .i64 (N1 k)) := by rw [HB.out.cell hb1]; exact x1
          have g2 : wr.cell? ⟨b1, o1 + k * 2 + 1, none⟩ = some (V1 k) := by rw [HB.out.cell hb1]; exact x2
          have g3 : wr.cell? ⟨b2, o2 + k * 2, none⟩ = some (.int .i64 (N2 k)) := by rw [HB.out.cell hb2]; exact y1
          have g4 : wr.cell? ⟨b2, o2 + k * 2 + 1, none⟩ = some (V2 k) := by rw [HB.out.cell hb2]; exact y2
          have HI1 : Hid (∀ w', Below w.heap.size w w' → IntSl w' w'.heap.size (V1 k) (L1 k) (X1 k)) := fun w' hb => x3.up hb
          have HI2 : Hid (∀ w', Below w.heap.size w w' → IntSl w' w'.heap.size (V2 k) (L2 k) (X2 k)) := fun w' hb => y3.up hb
          obtain ⟨a1, c1', hv1, _, _⟩ := x3
          obtain ⟨a2, c2', hv2, _, _⟩ := y3
          rw [hv1] at g2 HI1
          rw [hv2] at g4 HI2
          have l1 : b1 < wr.heap.size := cell_lt g1
          have l2 : b2 < wr.heap.size := cell_lt g3
          clear x1 x2 y1 y2 hv1 hv2
          go_wp2_with fail
          have hbb : Below w.heap.size w ((wr.alloc (.cells #[.int .i64 (N1 k), .slice a1 (L1 k) c1'] 27)).alloc (.cells #[.int .i64 (N2 k), .slice a2 (L2 k) c2'] 27)) :=
            (HB.out.alloc HB.out.size _).alloc (by simp; exact Nat.le_succ_of_le HB.out.size) _
          refine Calls.mono (HFn.out _ _ _ _ _ _ _ _ _ (HI1.out _ hbb) (HI2.out _ hbb)) ?_
          rintro e w2 ⟨rfl, hb3⟩
          have HB3 : Hid (Below w.heap.size w w2) := hbb.trans (hb3.mono hbb.size)
          clear hb3 hbb
          cases hs : sameB (N1 k) (N2 k) (L1 k) (L2 k) (X1 k) (X2 k) with
          | true =>
            go_wp2
            go_roundw
            case rel => exact ⟨k + 1, by omega, by go_num, HB3, eqFrom_next HE.out hs⟩
            case measure => simp only [intOf]; omega
          | false =>
            go_wp2
            go_ret
            exact ⟨by rw [eqFrom_bad hlt HE.out hs]; rfl, HB3.out⟩
        · have he : k = n := by omega
          subst he
          go_wp2
          go_ret
          exact ⟨by rw [eqFrom_end HE.out]; rfl, HB.out⟩
  · have e : eqShB n m N1 N2 L1 L2 X1 X2 = false := decide_eq_false fun h => hnm h.1
    rw [e]
    have hb : ((n : Int) != (m : Int)) = true := by simp; omega
    clear hf s1 s2 hx hy e
    go_enter Try.func25, Try.ntmps25
    go_wp2
    go_ret
    exact ⟨rfl, Below.refl _ _⟩

theorem equalFunc_SameShare {w : World} {v1 v2 : Value} {n m : Nat} {N1 N2 : Nat → Int} {V1 V2 : Nat → Value} {L1 L2 : Nat → Nat} {X1 X2 : Nat → Nat → Int}
    (hf : ∀ (N1 N2 : Int) (V1 V2 : Value) (n m : Nat) (X Y : Nat → Int) (w : World), IntSl w w.heap.size V1 n X → IntSl w w.heap.size V2 m Y →
      Calls Try.prog 24 #[shareV N1 V1, shareV N2 V2] w fun e w' => e = .returned (.bool (sameB N1 N2 n m X Y)) ∧ Below w.heap.size w w')
    (h1 : ShSl w w.heap.size v1 n N1 V1 L1 X1) (h2 : ShSl w w.heap.size v2 m N2 V2 L2 X2) :
    Calls Try.prog 25 #[v1, v2, .func (.func 24) #[] #[]] w fun e w' => e = .returned (.bool (eqShB n m N1 N2 L1 L2 X1 X2)) ∧ Below w.heap.size w w' := by
  have s1 := h1
  have s2 := h2
  obtain ⟨a1, c1, rfl, ⟨hc1, hr1⟩, hx⟩ := h1
  obtain ⟨a2, c2, rfl, ⟨hc2, hr2⟩, hy⟩ := h2
  by_cases hnm : n = m
  · subst hnm
    by_cases h0 : n = 0
    · subst h0
      have e : eqShB 0 0 N1 N2 L1 L2 X1 X2 = true := decide_eq_true ⟨rfl, fun j hj => by omega⟩
      rw [e]
      clear hf s1 s2 hx hy e
      go_enter Try.func25, Try.ntmps25
      go_wp2
      refine wp_loop_rounds 1 ?_
      rw [rounds_succ]
      go_wp2
      go_ret
      exact ⟨rfl, Below.refl _ _⟩
    · rcases hx with h | ⟨b1, o1, rfl, hb1, hx⟩
      · omega
      rcases hy with h | ⟨b2, o2, rfl, hb2, hy⟩
      · omega
      have HX := hid hx
      have HY := hid hy
      have HFn := hid hf
      clear hx hy hf s1 s2
      go_enter Try.func25, Try.ntmps25
      go_wp2
      go_loopw [17] (fun i wr => ∃ k : Nat, k ≤ n ∧ i = .int .i64 k ∧ Hid (Below w.heap.size w wr) ∧ Hid (eqFrom N1 N2 L1 L2 X1 X2 n k = eqShB n n N1 N2 L1 L2 X1 X2)) (fun i _ => n - (intOf i).toNat)
      case atStart => exact ⟨0, Nat.zero_le _, rfl, Below.refl _ _, eqFrom_start⟩
      case round =>
        obtain ⟨k, hk, rfl, HB, HE⟩ := hrel
        by_cases hlt : k < n
        · have hki : (k : Int) < (n : Int) := by omega
          obtain ⟨x1, x2, x3⟩ := HX.out k hlt
          obtain ⟨y1, y2, y3⟩ := HY.out k hlt
          have g1 : wr.cell? ⟨b1, o1 + k * 2, none⟩ = some (.int .i64 (N1 k)) := by rw [HB.out.cell hb1]; exact x1
          have g2 : wr.cell? ⟨b1, o1 + k * 2 + 1, none⟩ = some (V1 k) := by rw [HB.out.cell hb1]; exact x2
          have g3 : wr.cell? ⟨b2, o2 + k * 2, none⟩ = some (.int .i64 (N2 k)) := by rw [HB.out.cell hb2]; exact y1
          have g4 : wr.cell? ⟨b2, o2 + k * 2 + 1, none⟩ = some (V2 k) := by rw [HB.out.cell hb2]; exact y2
          have HI1 : Hid (∀ w', Below w.heap.size w w' → IntSl w' w'.heap.size (V1 k) (L1 k) (X1 k)) := fun w' hb => x3.up hb
          have HI2 : Hid (∀ w', Below w.heap.size w w' → IntSl w' w'.heap.size (V2 k) (L2 k) (X2 k)) := fun w' hb => y3.up hb
          obtain ⟨a1, c1', hv1, _, _⟩ := x3
          obtain ⟨a2, c2', hv2, _, _⟩ := y3
          rw [hv1] at g2 HI1
          rw [hv2] at g4 HI2
          have l1 : b1 < wr.heap.size := cell_lt g1
          have l2 : b2 < wr.heap.size := cell_lt g3
          clear x1 x2 y1 y2 hv1 hv2
          go_wp2_with fail
          have hbb : Below w.heap.size w ((wr.alloc (.cells #[.int .i64 (N1 k), .slice a1 (L1 k) c1'] 27)).alloc (.cells #[.int .i64 (N2 k), .slice a2 (L2 k) c2'] 27)) :=
            (HB.out.alloc HB.out.size _).alloc (by simp; exact Nat.le_succ_of_le HB.out.size) _
          refine Calls.mono (HFn.out _ _ _ _ _ _ _ _ _ (HI1.out _ hbb) (HI2.out _ hbb)) ?_
          rintro e w2 ⟨rfl, hb3⟩
          have HB3 : Hid (Below w.heap.size w w2) := hbb.trans (hb3.mono hbb.size)
          clear hb3 hbb
          cases hs : sameB (N1 k) (N2 k) (L1 k) (L2 k) (X1 k) (X2 k) with
          | true =>
            go_wp2
            go_roundw
            case rel => exact ⟨k + 1, by omega, by go_num, HB3, eqFrom_next HE.out hs⟩
            case measure => simp only [intOf]; omega
          | false =>
            go_wp2
            go_ret
            exact ⟨by rw [eqFrom_bad hlt HE.out hs]; rfl, HB3.out⟩
        · have he : k = n := by omega
          subst he
          go_wp2
          go_ret
          exact ⟨by rw [eqFrom_end HE.out]; rfl, HB.out⟩
  · have e : eqShB n m N1 N2 L1 L2 X1 X2 = false := decide_eq_false fun h => hnm h.1
    rw [e]
    have hb : ((n : Int) != (m : Int)) = true := by simp; omega
    clear hf s1 s2 hx hy e
    go_enter Try.func25, Try.ntmps25
    go_wp2
    go_ret
    exact ⟨rfl, Below.refl _ _⟩

end Go.Proofs.Ytfcpmpcfbhkacaa
