/- As MixedTree and MixedTreeLast, where what all orders come to is told once, and the rest is walked once. Plain: it speaks of no program. -/
import Derived.Test.YtokebjclbpgljadMixedTreeLast
namespace Go.Proofs.Ytokebjclbpgljad
set_option linter.unusedVariables false

variable {P : Program} {D : World → Prop}

theorem anyL_mono {md : Region.Mode} {ops : Array Oper} {sE : Array Bool} {R R' : Act → World → Prop} (hR : ∀ a w, R a w → R' a w) : ∀ (f : Nat) (seen : Array Bool) (a : Act) (w : World), anyL P md ops D sE R f seen a w → anyL P md ops D sE R' f seen a w := by
  intro f
  induction f with
  | zero => intro seen a w h; exact ⟨h.1, hR _ _ h.2⟩
  | succ f ih => intro seen a w h; exact ⟨h.1, fun i hi => wpOp_ends (fun a' w' h' => ⟨h'.1, ih _ a' w' h'.2⟩) (h.2 i hi)⟩

theorem anyM_mono {md : Region.Mode} {ops : Array Oper} {R R' : Act → World → Prop} (hR : ∀ a w, R a w → R' a w) : ∀ (f : Nat) (seen : Array Bool) (a : Act) (w : World), anyM P md ops D R f seen a w → anyM P md ops D R' f seen a w := by
  intro f
  induction f with
  | zero => intro seen a w h; exact ⟨h.1, hR _ _ h.2⟩
  | succ f ih => intro seen a w h; exact ⟨fun h0 => hR _ _ (h.1 h0), fun i hi => wpOp_ends (fun a' w' h' => ⟨h'.1, ih _ a' w' h'.2⟩) (h.2 i hi)⟩

/-- what all orders come to ahead of the last operation, R; the rest from there -/
theorem region_tree_to {id : Nat} {Q : Exit → Act → World → Prop} {a : Act} {w : World} {l lc : List Oper} (D : World → Prop) (c : Nat) (sE : Array Bool) (f : Nat) (R : Act → World → Prop) (hm : P.follows .mixedOrders = true) (hE : Region.ready .any l.toArray sE = [c]) (hE2 : Region.ready .any l.toArray (sE.setIfInBounds c true) = []) (hf : f + 1 = l.length) (hc : pickO l [c] = lc) (hcs : (l[c]?).isSome = true)
    (h : anyL P .any l.toArray D sE R f (Array.replicate l.length false) a w.drew) (hR : ∀ a' w', R a' w' → wpList P l.toArray Q lc a' w') : (Code.region id l.toArray true).wp P Q a w :=
  region_tree_last D c sE f hm hE hE2 hf hc hcs (anyL_mono hR _ _ _ _ h)

end Go.Proofs.Ytokebjclbpgljad
