/- Several texts of one proof, in their order. -/
import Derived.Test.YtfcpmpcfbhkacaaVb7
import Derived.Test.YtfcpmpcfbhkacaaVb0
import Derived.Laws.OwnMore
import Derived.OwnWalk

/- What package curve owes, in plain words, and what follows of the check of points. -/
namespace Go.Proofs.Ytfcpmpcfbhkacaa

open Go.RowKit CurveMath
set_option linter.unusedVariables false

/-- the error, and the value, of At -/
def atE (nx ny : Nat) (X Y : Nat → Int) (t : Int) : Int := if chk nx ny X Y = 0 then (if isNum t = true then 0 else 2) else chk nx ny X Y
def atV (nx ny : Nat) (X Y : Nat → Int) (t : Int) : Int := if atE nx ny X Y t = 0 then crv nx X Y t else 0

/-- what Check owes -/
def CheckSpec : Prop := ∀ (v1 v2 : Value) (n1 n2 : Nat) (X Y : Nat → Int) (w : World), IntSl w w.heap.size v1 n1 X → IntSl w w.heap.size v2 n2 Y →
  Calls Try.prog 76 #[v1, v2] w fun e w' => e = .returned (.int .i64 (chk n1 n2 X Y)) ∧ Below w.heap.size w w'

/-- what At owes -/
def AtSpec : Prop := ∀ (v1 v2 : Value) (n1 n2 : Nat) (X Y : Nat → Int) (t : Int) (w : World), IntSl w w.heap.size v1 n1 X → IntSl w w.heap.size v2 n2 Y →
  Calls Try.prog 59 #[v1, v2, .int .i64 t] w fun e w' => e = .returned (.tuple #[.int .i64 (atV n1 n2 X Y t), .int .i64 (atE n1 n2 X Y t)]) ∧ Below w.heap.size w w'

theorem scan_ok (X Y : Nat → Int) (m : Nat) : ∀ k, scan X Y m k = 0 → ∀ j, k ≤ j → j < k + m → (isNum (X j) = true ∧ isNum (Y j) = true ∧ hasB X j (X j) = false) := by
  induction m with
  | zero => intro k _ j h1 h2; omega
  | succ m ih =>
    intro k h j h1 h2
    simp only [scan] at h
    by_cases hb : (isNum (X k) && isNum (Y k)) = false
    · rw [if_pos hb] at h; omega
    · rw [if_neg hb] at h
      by_cases hd : hasB X k (X k) = true
      · rw [if_pos hd] at h; omega
      · rw [if_neg hd] at h
        by_cases hjk : j = k
        · subst hjk
          have hb' : (isNum (X j) && isNum (Y j)) = true := by simpa using hb
          rw [Bool.and_eq_true] at hb'
          exact ⟨hb'.1, hb'.2, by simpa using hd⟩
        · exact ih (k + 1) h j (by omega) (by omega)

theorem scan_mk (X Y : Nat → Int) (m : Nat) : ∀ k, (∀ j, k ≤ j → j < k + m → (isNum (X j) = true ∧ isNum (Y j) = true ∧ hasB X j (X j) = false)) → scan X Y m k = 0 := by
  induction m with
  | zero => intro k _; rfl
  | succ m ih =>
    intro k h
    obtain ⟨h1, h2, h3⟩ := h k (by omega) (by omega)
    simp only [scan]
    rw [if_neg (by rw [h1, h2]; simp), if_neg (by rw [h3]; simp)]
    exact ih (k + 1) (fun j hj1 hj2 => h j (by omega) (by omega))

/-- points that are in order -/
structure Good (n m : Nat) (X Y : Nat → Int) : Prop where
  same : n = m
  len : 1 ≤ n ∧ n ≤ 8
  xs : ∀ j, j < n → 0 ≤ X j ∧ X j ≤ 30
  ys : ∀ j, j < n → 0 ≤ Y j ∧ Y j ≤ 30
  inj : ∀ i j, i < n → j < n → X i = X j → i = j

theorem chk_ok {n m : Nat} {X Y : Nat → Int} (h : chk n m X Y = 0) : Good n m X Y := by
  unfold chk at h
  by_cases h1 : n = m
  · rw [if_neg (by omega)] at h
    by_cases h2 : 1 ≤ n ∧ n ≤ 8
    · rw [if_pos h2] at h
      have h3 := scan_ok X Y n 0 h
      have key : ∀ i j, i < j → j < n → X i ≠ X j := fun i j hij hj e => by
        have h4 := (h3 j (by omega) (by omega)).2.2
        have h5 : hasB X j (X j) = true := (hasB_iff X j (X j)).2 ⟨i, hij, e⟩
        rw [h5] at h4
        cases h4
      refine ⟨h1, h2, fun j hj => (isNum_iff _).1 (h3 j (by omega) (by omega)).1, fun j hj => (isNum_iff _).1 (h3 j (by omega) (by omega)).2.1, fun i j hi hj e => ?_⟩
      rcases Nat.lt_trichotomy i j with hlt | heq | hgt
      · exact absurd e (key i j hlt hj)
      · exact heq
      · exact absurd e.symm (key j i hgt hi)
    · rw [if_neg h2] at h; omega
  · rw [if_pos h1] at h; omega

theorem chk_mk {n m : Nat} {X Y : Nat → Int} (h : Good n m X Y) : chk n m X Y = 0 := by
  unfold chk
  rw [if_neg (by have := h.same; omega), if_pos h.len]
  refine scan_mk X Y n 0 fun j _ hj => ⟨(isNum_iff _).2 (h.xs j (by omega)), (isNum_iff _).2 (h.ys j (by omega)), ?_⟩
  by_cases hb : hasB X j (X j) = true
  · obtain ⟨i, hi, e⟩ := (hasB_iff X j (X j)).1 hb
    have := h.inj i j (by omega) (by omega) e
    omega
  · simpa using hb

theorem Good.injF {n m : Nat} {X Y : Nat → Int} (h : Good n m X Y) : Inj n (fun i => toF (X i)) := fun i j hi hj e => h.inj i j hi hj (toF_num (h.xs i hi) (h.xs j hj) e)

theorem atE_ok {n m : Nat} {X Y : Nat → Int} {t : Int} (h : chk n m X Y = 0) (ht : isNum t = true) : atE n m X Y t = 0 ∧ atV n m X Y t = crv n X Y t := by
  have e : atE n m X Y t = 0 := by unfold atE; rw [if_pos h, if_pos ht]
  exact ⟨e, by unfold atV; rw [if_pos e]⟩

/-- ValueAt of points that are in order -/
theorem valueAt_good (v1 v2 : Value) (n : Nat) (X Y : Nat → Int) (t : Int) (w : World) (h1 : IntSl w w.heap.size v1 n X) (h2 : IntSl w w.heap.size v2 n Y) (hg : Good n n X Y) (ht : 0 ≤ t ∧ t ≤ 30) :
    Calls Try.prog 60 #[v1, v2, .int .i64 t] w fun e w' => e = .returned (.int .i64 (crv n X Y t)) ∧ Below w.heap.size w w' := by
  obtain ⟨a1, c1, rfl, ⟨hc1, hr1⟩, hx⟩ := h1
  obtain ⟨a2, c2, rfl, ⟨hc2, hr2⟩, hy⟩ := h2
  have hl := hg.len
  rcases hx with h0 | ⟨b1, o1, rfl, hb1, hx⟩
  · omega
  rcases hy with h0 | ⟨b2, o2, rfl, _, hy⟩
  · omega
  exact valueAt_any b1 o1 c1 b2 o2 c2 n X Y t w hg.len hg.xs hg.ys ht hg.inj hb1 hx hy

end Go.Proofs.Ytfcpmpcfbhkacaa

/- Slices of ints that a call makes itself: made whole, or grown one by one. -/
namespace Go.Proofs.Ytfcpmpcfbhkacaa

open Go.RowKit CurveMath
set_option linter.unusedVariables false

/-- one curve alone goes through points in order -/
theorem crvF_uniq {n m : Nat} {X Y : Nat → Int} (h : Good n m X Y) (f : F → F) (hf : Deg n f) (hp : ∀ j, j < n → f (toF (X j)) = toF (Y j)) (t : Int) : crvF n X Y t = f (toF t) := by
  unfold crvF
  exact Deg.uniq (newt_deg _ _ n h.injF) hf h.injF (fun i hi => by rw [newt_at _ _ n h.injF i hi]; exact (hp i hi).symm) (toF t)

theorem crv_uniq {n m : Nat} {X Y : Nat → Int} (h : Good n m X Y) (f : F → F) (hf : Deg n f) (hp : ∀ j, j < n → f (toF (X j)) = toF (Y j)) (t v : Int) (hv : 0 ≤ v ∧ v ≤ 30) (e : toF v = f (toF t)) : crv n X Y t = v :=
  (crv_of n X Y t v hv (by rw [crvF_uniq h f hf hp t]; exact e)).symm

end Go.Proofs.Ytfcpmpcfbhkacaa

/- The closed fact that chapter 2's laws ask first, of a package that does what it owes. -/
namespace Go.Proofs.Ytfcpmpcfbhkacaa

open Go.RowKit CurveMath
set_option linter.unusedVariables false

end Go.Proofs.Ytfcpmpcfbhkacaa

/- What the laws of chapter 2 take of a package that does what it owes: calls made in later worlds; sums, lines, and points in another order. -/
namespace Go.Proofs.Ytfcpmpcfbhkacaa

open Go.RowKit CurveMath
set_option linter.unusedVariables false

/-- At, of points that are in order, at a number -/
theorem at_up (hA : AtSpec) {w0 : World} {v1 v2 : Value} {n1 n2 : Nat} {X Y : Nat → Int} (h1 : IntSl w0 w0.heap.size v1 n1 X) (h2 : IntSl w0 w0.heap.size v2 n2 Y) (hg : chk n1 n2 X Y = 0) (t : Int) (ht : 0 ≤ t ∧ t ≤ 30) (w' : World) (hb : Below w0.heap.size w0 w') :
    Calls Try.prog 59 #[v1, v2, .int .i64 t] w' fun e w'' => e = .returned (.tuple #[.int .i64 (crv n1 X Y t), .int .i64 0]) ∧ Below w0.heap.size w0 w'' := by
  obtain ⟨e1, e2⟩ := atE_ok (t := t) hg ((isNum_iff t).2 ht)
  have h := hA _ _ n1 n2 X Y t w' (h1.up hb) (h2.up hb)
  rw [e1, e2] at h
  exact h.mono fun e w'' ⟨he, hb2⟩ => ⟨he, hb.trans (hb2.mono hb.size)⟩

end Go.Proofs.Ytfcpmpcfbhkacaa
