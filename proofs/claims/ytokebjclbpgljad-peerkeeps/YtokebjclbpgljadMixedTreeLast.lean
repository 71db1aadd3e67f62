/- As MixedTree, where one operation waits for all others and comes last (a store of what was reckoned): behind it nothing need stay as it was. Plain: it speaks of no program. -/
import Derived.Test.YtokebjclbpgljadMixedTree
import Derived.Test.YtokebjclbpgljadMixedLast
namespace Go.Proofs.Ytokebjclbpgljad
set_option linter.unusedVariables false

variable {P : Program} {D : World → Prop}

/-- one of those that are ready comes up -/
theorem anyL_pick {l : List Oper} {md : Region.Mode} {R : Act → World → Prop} {f : Nat} {seen sE : Array Bool} {a : Act} {w : World} (rs : List Nat) (hr : Region.ready md l.toArray seen = rs) (hne : rs ≠ [])
    (h : ∀ i ∈ rs, ∃ o, l[i]? = some o ∧ ∀ K : Act → World → Prop, (∀ a'' w'', D w'' → anyL P md l.toArray D sE R f (seen.setIfInBounds i true) a'' w'' → K a'' w'') → wpList P l.toArray (endN K) [o] a w) :
    anyL P md l.toArray D sE R (f + 1) seen a w := by
  refine ⟨by rw [hr]; exact hne, fun i hi => ?_⟩
  rw [hr] at hi
  obtain ⟨o, ho, hK⟩ := h i hi
  have h0 : l.toArray[i]? = some o := by simpa using ho
  have hw := hK (fun a'' w'' => D w'' ∧ anyL P md l.toArray D sE R f (seen.setIfInBounds i true) a'' w'') (fun a'' w'' g1 g2 => ⟨g1, g2⟩)
  simp only [wpList] at hw
  unfold wpOp
  simp only [h0]
  split
  · rename_i hwt
    simp only [hwt, if_true] at hw
    rcases hw with hw | hw
    · exact Or.inl (upon_ends (fun v w1 hh => hh.2) (fun d w1 hh => hh.2) hw)
    · exact absurd hw.2 letsOut_endN
  · rename_i hwt
    simp only [hwt] at hw
    exact hw.2

/-- the one that comes last waits for each of these -/
def waitsB (md : Region.Mode) (ops : Array Oper) (c : Nat) (q : List Nat) : Bool :=
  match ops[c]? with
  | some o => q.all fun i => o.after.any fun e => Region.binds md e && e.on == i
  | none => false

/-- what only reads, in between -/
theorem anyL_reads {l : List Oper} {md : Region.Mode} {R : Act → World → Prop} {f : Nat} {sE : Array Bool} {w : World} {c : Nat} (hs : Region.noSelect l.toArray = true) (hE : Region.ready md l.toArray sE = [c]) (hD : D w) : ∀ (q : List Nat) (seen : Array Bool) (a : Act), waitsB md l.toArray c q = true → ordQ md l.toArray q seen = true →
    (q.all (fun i => match l[i]? with | some o => plainB o | none => false)) = true →
    wpQuiet P l.toArray (fun w' => ∃ u : Of D, w' = u.val) (fun a' => anyL P md l.toArray D sE R f (seenQ q seen) a' w) (pickO l q) a → anyL P md l.toArray D sE R (f + q.length) seen a w
  | [], seen, a, _, _, _, h => h
  | i :: q, seen, a, hw, ho, hq, h => by
    simp only [List.all_cons, Bool.and_eq_true] at hq
    obtain ⟨h1, h2⟩ := hq
    simp only [ordQ, Bool.and_eq_true] at ho
    obtain ⟨⟨hr, hf⟩, ho'⟩ := ho
    unfold waitsB at hw
    cases hoc : l.toArray[c]? with
    | none => simp only [hoc] at hw; cases hw
    | some oc =>
      simp only [hoc, List.all_cons, Bool.and_eq_true] at hw
      obtain ⟨hw1, hw2⟩ := hw
      obtain ⟨x, hx, hb⟩ := Array.any_eq_true.1 hw1
      simp only [Bool.and_eq_true, beq_iff_eq] at hb
      cases hoi : l[i]? with
      | none => simp [hoi] at h1
      | some o =>
        simp only [hoi] at h1
        simp only [pickO, hoi] at h
        have h0 : l.toArray[i]? = some o := by simpa using hoi
        have hst : qOp P l.toArray (fun w' => ∃ u : Of D, w' = u.val) i (wpQuiet P l.toArray (fun w' => ∃ u : Of D, w' = u.val) (fun a' => anyL P md l.toArray D sE R f (seenQ (i :: q) seen) a' w) (pickO l q)) a := by unfold qOp; simp only [h0]; exact h
        obtain ⟨v, hy, hK⟩ := yieldsIn_of_qOp h0 hst
        exact anyL_first hE hoc ⟨oc.after[x], Array.getElem_mem hx, hb.1, hb.2⟩ h0 (Region.noSelect_spec hs) (f + q.length) seen a w hD (Region.free_spec h0 hf) (by simpa using hr) (still_of_yields h1 hy) (anyL_reads hs hE hD q _ _ (by unfold waitsB; simp only [hoc]; exact hw2) ho' h2 hK)

theorem anyL_end {l : List Oper} {md : Region.Mode} {R : Act → World → Prop} {seen sE : Array Bool} {a : Act} {w : World} (hs : seen = sE) (h : R a w) : anyL P md l.toArray D sE R 0 seen a w := ⟨hs, h⟩

/-- a region that draws its order, one operation behind all others -/
theorem region_tree_last {id : Nat} {Q : Exit → Act → World → Prop} {a : Act} {w : World} {l lc : List Oper} (D : World → Prop) (c : Nat) (sE : Array Bool) (f : Nat) (hm : P.follows .mixedOrders = true) (hE : Region.ready .any l.toArray sE = [c]) (hE2 : Region.ready .any l.toArray (sE.setIfInBounds c true) = []) (hf : f + 1 = l.length) (hc : pickO l [c] = lc) (hcs : (l[c]?).isSome = true)
    (h : anyL P .any l.toArray D sE (fun a' w' => wpList P l.toArray Q lc a' w') f (Array.replicate l.length false) a w.drew) : (Code.region id l.toArray true).wp P Q a w := by
  obtain ⟨oc, hoc⟩ := Option.isSome_iff_exists.1 hcs
  refine wp_region_any hm ?_
  have h2 := any_of_anyL (Q := Q) hE hE2 (fun a' w' h' => by
    have h0 : l.toArray[c]? = some oc := by simpa using hoc
    rw [← hc] at h'
    simp only [pickO, hoc, wpList] at h'
    unfold wpOp
    simp only [h0]
    exact h') _ _ _ _ h
  rw [hf] at h2
  simpa using h2

end Go.Proofs.Ytokebjclbpgljad
