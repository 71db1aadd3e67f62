/- The value of a curve by differences, as the reference reckons it: the answer of ValueAt is the value of the one curve through the points. -/
import Derived.Test.YtcdaknionmffgacCurveRef
import Derived.Test.YtcdaknionmffgacShelf
namespace Go.Proofs.Ytcdaknionmffgac
open Go.RowKit CurveMath
set_option linter.unusedVariables false

/-- a row of n ints of the call's own, at the head of block g -/
structure Row (w0 wr : World) (g n : Nat) (C : Nat → Int) : Prop where
  below : Below w0.heap.size w0 wr
  ge : w0.heap.size ≤ g
  cell : ∀ j, j < n → wr.cell? ⟨g, j, none⟩ = some (.int .i64 (C j))
  free : ∀ j, j < n → wr.frozen? ⟨g, j, none⟩ = false

theorem Row.drewN {w0 wr : World} {g n : Nat} {C : Nat → Int} (h : Row w0 wr g n C) (m : Nat) : Row w0 (wr.drewN m) g n C :=
  ⟨h.below.trans ⟨rfl, rfl, rfl, Nat.le_refl _, fun _ _ => rfl⟩, h.ge, h.cell, h.free⟩

theorem Row.set {w0 wr : World} {g n : Nat} {C : Nat → Int} (h : Row w0 wr g n C) (i : Nat) (hi : i < n) (v : Int) : Row w0 (wr.setCell ⟨g, i, none⟩ (.int .i64 v)) g n (fun j => if j = i then v else C j) := by
  refine ⟨Below.setCell h.below h.ge _, h.ge, fun j hj => ?_, fun j hj => by rw [World.frozen?_setCell]; exact h.free j hj⟩
  by_cases hji : j = i
  · subst hji
    simp only [if_true]
    exact World.cell?_setCell_same _ _ _ (h.cell j hj)
  · simp only [if_neg hji]
    rw [World.cell?_setCell_other _ _ _ _ (by intro e; injection e with _ e2; exact hji e2.symm)]
    exact h.cell j hj

/-- a row that was made and filled is such a row -/
theorem Row.of_owns {w0 wr : World} {e : TypeId} {v : Value} {n : Nat} {xs : List Value} {C : Nat → Int} (hn : 1 ≤ n) (h : wr.ownsRow w0.heap.size e 1 v n xs) (hb : Below w0.heap.size w0 wr)
    (hx : ∀ j, j < n → xs[j]? = some (.int .i64 (C j))) : ∃ g cap, v = .slice (some ⟨g, 0, none⟩) n cap ∧ n ≤ cap ∧ Row w0 wr g n C := by
  obtain ⟨hl, h2⟩ := h
  rcases h2 with ⟨_, h0⟩ | ⟨g, cap, cur, hv, hg, hh, hc1, hc2, hsz, hcur⟩
  · omega
  · refine ⟨g, cap, hv, hc1, hb, hg, fun j hj => ?_, fun j hj => ?_⟩
    · have h3 := hx j hj
      rw [← hcur] at h3
      have h4 : cur[j]? = some (.int .i64 (C j)) := by
        rw [List.getElem?_take] at h3
        rw [if_pos (by omega)] at h3
        simpa using h3
      simp [World.cell?, hh, h4]
    · simp [World.frozen?, hh]

/-- the value at t of the curve through n points, by differences -/
def crvF (n : Nat) (X Y : Nat → Int) (t : Int) : F := newt (fun i => toF (X i)) (fun i => dd (fun i => toF (X i)) (fun i => toF (Y i)) i i) n (toF t)
def crv (n : Nat) (X Y : Nat → Int) (t : Int) : Int := ((crvF n X Y t).val : Int)

theorem crv_num (n : Nat) (X Y : Nat → Int) (t : Int) : 0 ≤ crv n X Y t ∧ crv n X Y t ≤ 30 := by
  unfold crv
  have := (crvF n X Y t).isLt
  omega

theorem toF_crv (n : Nat) (X Y : Nat → Int) (t : Int) : toF (crv n X Y t) = crvF n X Y t := by
  apply Fin.ext
  have h := toF_val (crv n X Y t)
  have h2 := crv_num n X Y t
  have h3 : crv n X Y t = ((crvF n X Y t).val : Int) := rfl
  omega

theorem crv_of (n : Nat) (X Y : Nat → Int) (t v : Int) (hv : 0 ≤ v ∧ v ≤ 30) (h : toF v = crvF n X Y t) : v = crv n X Y t :=
  toF_num hv (crv_num n X Y t) (by rw [h, toF_crv])

theorem pw_toF (b : Int) (k : Nat) : toF (pw b k) = toF b ^ k := by
  induction k with
  | zero => simp only [pw, toF_one]; grind
  | succ k ih => simp only [pw, toF_mod, toF_mul, ih]; grind

theorem toF_dv (a b : Int) : toF (dv a b) = toF a * inv (toF b) := by
  unfold dv inv
  rw [toF_mod, toF_mul, pw_toF]

theorem toF_less (a b : Int) : toF ((a + 31 - b) % 31) = toF a - toF b := by
  rw [toF_mod, toF_sub, toF_add, toF_p]
  grind

/-- what the row holds behind round k, at place i' and above done -/
def State (X Y C : Nat → Int) (n k i' : Nat) : Prop := ∀ j, j < n → (0 ≤ C j ∧ C j ≤ 30) ∧ toF (C j) = dd (fun i => toF (X i)) (fun i => toF (Y i)) j (if i' ≤ j then min j k else min j (k - 1))

theorem State.start {X Y : Nat → Int} {n : Nat} (hy : ∀ j, j < n → 0 ≤ Y j ∧ Y j ≤ 30) : State X Y Y n 1 n := by
  intro j hj
  refine ⟨hy j hj, ?_⟩
  rw [if_neg (by omega), show min j (1 - 1) = 0 by omega]
  rfl

theorem State.step {X Y C : Nat → Int} {n k i : Nat} (h : State X Y C n k (i + 1)) (hk : 1 ≤ k) (hki : k ≤ i) (hi : i < n) :
    State X Y (fun j => if j = i then dv ((C i + 31 - C (i - 1)) % 31) ((X i + 31 - X (i - k)) % 31) else C j) n k i := by
  intro j hj
  by_cases hji : j = i
  · subst hji
    simp only [if_true]
    refine ⟨dv_bd _ _, ?_⟩
    rw [toF_dv, toF_less, toF_less]
    have h1 := (h j hj).2
    have h2 := (h (j - 1) (by omega)).2
    rw [if_neg (by omega), show min j (k - 1) = k - 1 by omega] at h1
    rw [if_neg (by omega), show min (j - 1) (k - 1) = k - 1 by omega] at h2
    rw [h1, h2, if_pos (Nat.le_refl j), show min j k = (k - 1) + 1 by omega]
    simp only [dd]
    rw [show k - 1 + 1 = k by omega]
  · simp only [if_neg hji]
    have h1 := h j hj
    refine ⟨h1.1, ?_⟩
    rw [h1.2]
    by_cases h2 : i + 1 ≤ j
    · rw [if_pos h2, if_pos (by omega)]
    · rw [if_neg h2, if_neg (by omega)]

theorem State.next {X Y C : Nat → Int} {n k : Nat} (h : State X Y C n k k) (hk : 1 ≤ k) : State X Y C n (k + 1) n := by
  intro j hj
  have h1 := h j hj
  refine ⟨h1.1, ?_⟩
  rw [h1.2, if_neg (by omega : ¬ n ≤ j)]
  by_cases h2 : k ≤ j
  · rw [if_pos h2]; rfl
  · rw [if_neg h2, show min j (k - 1) = j by omega, show min j (k + 1 - 1) = j by omega]

theorem less_pos {a b : Int} (ha : 0 ≤ a ∧ a ≤ 30) (hb : 0 ≤ b ∧ b ≤ 30) (h : a ≠ b) : 1 ≤ (a + 31 - b) % 31 ∧ (a + 31 - b) % 31 ≤ 30 := by omega

end Go.Proofs.Ytcdaknionmffgac
