/- A map of the numbers that were seen: has it this one? Plain: it speaks of no program. -/
import Derived.Test.YtfcpmpcfbhkacaaInts
import Derived.Maps.Own
import Derived.Maps.OwnOps
import Derived.Maps.OwnSet
namespace Go.Proofs.Ytfcpmpcfbhkacaa
open Go.RowKit Go.Maps
set_option linter.unusedVariables false

/-- the first k of X, each with u -/
def setX {H : Type} (u : DataW H) (X : Nat → Int) (k : Nat) : DataW H := setOf u ((List.range k).map fun j => Lit.int .i64 (X j))

theorem setX_zero {H : Type} (u : DataW H) (X : Nat → Int) : setX u X 0 = .map [] := rfl

theorem setX_succ {H : Type} (u : DataW H) (X : Nat → Int) (k : Nat) : setX u X (k + 1) = (setX u X k).put (.int .i64 (X k)) u := by
  unfold setX
  rw [List.range_succ, List.map_append]
  exact setOf_snoc u _ _

theorem has_setX {H : Type} (u : DataW H) (X : Nat → Int) (k : Nat) (v : Int) : Maps.has (setX u X k) (.int .i64 v) = hasB X k v := by
  unfold setX
  rw [has_setOf u _ _ (fun x hx => by obtain ⟨j, _, rfl⟩ := List.mem_map.1 hx; simp [WideAt.IsKeyLit])]
  rw [Bool.eq_iff_iff, hasB_iff, List.any_eq_true]
  constructor
  · rintro ⟨x, hx, hs⟩
    obtain ⟨j, hj, rfl⟩ := List.mem_map.1 hx
    refine ⟨j, List.mem_range.1 hj, ?_⟩
    by_cases he : X j = v
    · exact he
    · have := sameKey_ne (a := Lit.int .i64 (X j)) (b := Lit.int .i64 v) (fun h => he (by injection h))
      rw [this] at hs
      cases hs
  · rintro ⟨j, hj, e⟩
    refine ⟨_, List.mem_map.2 ⟨j, List.mem_range.2 hj, rfl⟩, ?_⟩
    rw [e]
    simp [Lit.sameKey]

theorem isMap_setX {H : Type} (u : DataW H) (X : Nat → Int) (k : Nat) : IsMap (setX u X k) := by
  induction k with
  | zero => rw [setX_zero]; exact isMap_empty
  | succ k ih => rw [setX_succ]; exact ih.put _ _

theorem hasB_succ (X : Nat → Int) (k : Nat) (v : Int) (h : X k ≠ v) : hasB X (k + 1) v = hasB X k v := by
  rw [Bool.eq_iff_iff, hasB_iff, hasB_iff]
  constructor
  · rintro ⟨j, hj, e⟩
    by_cases hjk : j = k
    · subst hjk; exact absurd e h
    · exact ⟨j, by omega, e⟩
  · rintro ⟨j, hj, e⟩; exact ⟨j, by omega, e⟩

theorem atKey_setX {H : Type} (u : DataW H) (X : Nat → Int) (k : Nat) (v : Int) (z : DataW H) : (setX u X k).atKey (.int .i64 v) z = if hasB X k v = true then u else z := by
  induction k with
  | zero => rfl
  | succ k ih =>
    rw [setX_succ]
    by_cases h : X k = v
    · subst h
      rw [atKey_put_same (isMap_setX u X k) (by simp [WideAt.IsKeyLit]), if_pos ((hasB_iff X (k + 1) (X k)).2 ⟨k, by omega, rfl⟩)]
    · rw [atKey_put_other (fun e => h (by injection e with _ e2; exact e2.symm)), ih, hasB_succ X k v h]

end Go.Proofs.Ytfcpmpcfbhkacaa
