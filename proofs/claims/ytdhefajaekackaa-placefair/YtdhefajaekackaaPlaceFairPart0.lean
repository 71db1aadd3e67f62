/- Several texts of one proof, in their order. -/
import Derived.Test.YtdhefajaekackaaPlSum8
import Derived.Test.YtdhefajaekackaaPlSum7
import Derived.Maps.Own
import Derived.Maps.OwnOps
import Derived.Maps.OwnSet
import Derived.Maps.AppendAt

/- A map of ints that a call makes itself and counts in. -/
namespace Go.Proofs.Ytdhefajaekackaa

open Go.RowKit Go.Maps
set_option linter.unusedVariables false

theorem keyedInt : Keyed Try.prog 3 := int_keyed Try.underlying3

/-- block g is a map of at most m entries that tells c of each number -/
def CntM (w : World) (g m : Nat) (c : Int → Int) : Prop := ∃ D : DataW Empty, w.ownsMap Try.prog 3 (plainElem Try.prog 3) g m D ∧ ∀ x : Int, D.atKey (.int .i64 x) (.lit (.int .i64 0)) = .lit (.int .i64 (c x))

theorem CntM.kept {w w' : World} {g m : Nat} {c : Int → Int} {row : Option Nat} (h : CntM w g m c) (hg : w.grownBy w' row) (hne : some g ≠ row) : CntM w' g m c := by
  obtain ⟨D, h1, h2⟩ := h
  exact ⟨D, h1.kept hg hne, h2⟩

theorem CntM.up {w w' : World} {g m : Nat} {c : Int → Int} (h : CntM w g m c) (hb : Below w.heap.size w w') : CntM w' g m c := h.kept (grown_of_below hb none) (by intro e; cases e)

theorem CntM.lt {w : World} {g m : Nat} {c : Int → Int} (h : CntM w g m c) : g < w.heap.size := by
  obtain ⟨D, h1, _⟩ := h
  exact h1.lt

/-- a cell lies in no map -/
theorem CntM.ne {w : World} {g m : Nat} {c : Int → Int} (h : CntM w g m c) {a : Addr} {u : Value} (ha : w.cell? a = some u) : a.block ≠ g := by
  obtain ⟨D, ⟨es, clock, hb, _⟩, _⟩ := h
  intro e
  rw [World.cell?, e, hb] at ha
  simp at ha

theorem keyInt {x : Int} (h : 0 ≤ x ∧ x ≤ 1000) : keyOf Try.prog 3 (.int .i64 x) = some (.int .i64 x) := keyOf_int_mk Try.underlying3 (WalkArith.wf_i64 (by omega))

/-- what 'count' has done to the map behind i of the numbers -/
def Cnted (c ci : Int → Int) (X : Nat → Int) (M i : Nat) : Prop := (∀ x, 0 ≤ ci x ∧ ci x ≤ (M : Int) + i) ∧ ∀ x, ci x = 0 ↔ c x = 0 ∧ ∀ j, j < i → X j ≠ x

theorem Cnted.step {c ci : Int → Int} {X : Nat → Int} {M i : Nat} (h : Cnted c ci X M i) {x : Int} (hx : X i = x) : Cnted c (fun y => if y = x then ci x + 1 else ci y) X M (i + 1) := by
  obtain ⟨h1, h2⟩ := h
  have h3 := h1 x
  refine ⟨fun y => ?_, fun y => ?_⟩
  · have h4 := h1 y
    by_cases e : y = x
    · simp only [if_pos e]; omega
    · simp only [if_neg e]; omega
  · by_cases e : y = x
    · simp only [if_pos e]
      constructor
      · intro h; omega
      · rintro ⟨_, hh⟩; exact absurd (by rw [hx, e]) (hh i (by omega))
    · simp only [if_neg e]
      rw [h2 y]
      constructor
      · rintro ⟨g1, g2⟩
        refine ⟨g1, fun j hj => ?_⟩
        by_cases ej : j = i
        · subst ej; rw [hx]; exact fun h => e h.symm
        · exact g2 j (by omega)
      · rintro ⟨g1, g2⟩; exact ⟨g1, fun j hj => g2 j (by omega)⟩

end Go.Proofs.Ytdhefajaekackaa
