/- Slices of ints that a call makes itself: made whole, or grown one by one. -/
import Derived.Test.YtfcpmpcfbhkacaaCurveSpec
import Derived.Laws.OwnMore
import Derived.OwnWalk
namespace Go.Proofs.Ytfcpmpcfbhkacaa
open Go.RowKit CurveMath
set_option linter.unusedVariables false

/-- one curve alone goes through points in order -/
theorem crvF_uniq {n m : Nat} {X Y : Nat → Int} (h : Good n m X Y) (f : F → F) (hf : Deg n f) (hp : ∀ j, j < n → f (toF (X j)) = toF (Y j)) (t : Int) : crvF n X Y t = f (toF t) := by
  unfold crvF
  exact Deg.uniq (newt_deg _ _ n h.injF) hf h.injF (fun i hi => by rw [newt_at _ _ n h.injF i hi]; exact (hp i hi).symm) (toF t)

theorem crv_uniq {n m : Nat} {X Y : Nat → Int} (h : Good n m X Y) (f : F → F) (hf : Deg n f) (hp : ∀ j, j < n → f (toF (X j)) = toF (Y j)) (t v : Int) (hv : 0 ≤ v ∧ v ≤ 30) (e : toF v = f (toF t)) : crv n X Y t = v :=
  (crv_of n X Y t v hv (by rw [crvF_uniq h f hf hp t]; exact e)).symm

end Go.Proofs.Ytfcpmpcfbhkacaa
