/- Several texts of one proof, in their order. -/
import Derived.Test.YtdhefajaekackaaBkSum7

/- A region that draws its order, in which, behind what only reads, two operations can come up in either order; then one at a time alone. Plain: it speaks of no program. -/
namespace Go.Proofs.Ytdhefajaekackaa

set_option linter.unusedVariables false

variable {P : Program} {ops : Array Oper} {md : Region.Mode} {D : World → Prop}

def ordQ (md : Region.Mode) (ops : Array Oper) : List Nat → Array Bool → Bool
  | [], _ => true
  | i :: r, seen => (Region.ready md ops seen).contains i && Region.free md ops seen i && ordQ md ops r (seen.setIfInBounds i true)

def seenQ : List Nat → Array Bool → Array Bool
  | [], seen => seen
  | i :: r, seen => seenQ r (seen.setIfInBounds i true)

theorem anyM_quiet {l : List Oper} {R G : Act → World → Prop} {f : Nat} {w : World} (hs : Region.noSelect l.toArray = true) (hD : D w) : ∀ (q : List Nat) (seen : Array Bool) (a : Act), ordQ md l.toArray q seen = true →
    (q.all (fun i => match l[i]? with | some o => plainB o | none => false)) = true → (∀ a, G a w → anyM P md l.toArray D R f (seenQ q seen) a w) →
    wpQuiet P l.toArray (fun w' => ∃ u : Of D, w' = u.val) (fun a' => G a' w) (pickO l q) a → anyM P md l.toArray D R (f + q.length) seen a w
  | [], seen, a, _, _, hG, h => hG a h
  | i :: q, seen, a, ho, hq, hG, h => by
    simp only [List.all_cons, Bool.and_eq_true] at hq
    obtain ⟨h1, h2⟩ := hq
    simp only [ordQ, Bool.and_eq_true] at ho
    obtain ⟨⟨hr, hf⟩, ho'⟩ := ho
    cases hoi : l[i]? with
    | none => simp [hoi] at h1
    | some o =>
      simp only [hoi] at h1
      simp only [pickO, hoi] at h
      have h0 : l.toArray[i]? = some o := by simpa using hoi
      have hst : qOp P l.toArray (fun w' => ∃ u : Of D, w' = u.val) i (wpQuiet P l.toArray (fun w' => ∃ u : Of D, w' = u.val) (fun a' => G a' w) (pickO l q)) a := by unfold qOp; simp only [h0]; exact h
      obtain ⟨v, hy, hK⟩ := yieldsIn_of_qOp h0 hst
      exact anyM_first h0 (Region.noSelect_spec hs) (f + q.length) seen a w hD (Region.free_spec h0 hf) (by simpa using hr) (still_of_yields h1 hy) (anyM_quiet hs hD q _ _ ho' h2 hG hK)

end Go.Proofs.Ytdhefajaekackaa

/- A region that draws its order, walked through all orders of what lays memory or calls, what only reads taken first. Plain: it speaks of no program. -/
namespace Go.Proofs.Ytdhefajaekackaa

set_option linter.unusedVariables false

variable {P : Program} {D : World → Prop}

/-- one of those that are ready comes up -/
theorem anyM_pick {l : List Oper} {md : Region.Mode} {R : Act → World → Prop} {f : Nat} {seen : Array Bool} {a : Act} {w : World} (rs : List Nat) (hr : Region.ready md l.toArray seen = rs) (hne : rs ≠ [])
    (h : ∀ i ∈ rs, ∃ o, l[i]? = some o ∧ ∀ K : Act → World → Prop, (∀ a'' w'', D w'' → anyM P md l.toArray D R f (seen.setIfInBounds i true) a'' w'' → K a'' w'') → wpList P l.toArray (endN K) [o] a w) :
    anyM P md l.toArray D R (f + 1) seen a w := by
  refine ⟨fun h0 => absurd (hr.symm.trans h0) hne, fun i hi => ?_⟩
  rw [hr] at hi
  obtain ⟨o, ho, hK⟩ := h i hi
  have h0 : l.toArray[i]? = some o := by simpa using ho
  have hw := hK (fun a'' w'' => D w'' ∧ anyM P md l.toArray D R f (seen.setIfInBounds i true) a'' w'') (fun a'' w'' g1 g2 => ⟨g1, g2⟩)
  simp only [wpList] at hw
  unfold wpOp
  simp only [h0]
  split
  · rename_i hwt
    simp only [hwt, if_true] at hw
    rcases hw with hw | hw
    · exact Or.inl (upon_ends (fun v w1 hh => hh.2) (fun d w1 hh => hh.2) hw)
    · exact absurd hw.2 letsOut_endN
  · rename_i hwt
    simp only [hwt] at hw
    exact hw.2

/-- what only reads, in between -/
theorem anyM_reads {l lq : List Oper} {md : Region.Mode} {R : Act → World → Prop} {f g : Nat} {seen : Array Bool} {a : Act} {w : World} (q : List Nat) (hs : Region.noSelect l.toArray = true) (hD : D w) (hg : g = f + q.length) (ho : ordQ md l.toArray q seen = true)
    (hq : (q.all (fun i => match l[i]? with | some o => plainB o | none => false)) = true) (hl : pickO l q = lq)
    (h : wpQuiet P l.toArray (fun w' => ∃ u : Of D, w' = u.val) (fun a' => anyM P md l.toArray D R f (seenQ q seen) a' w) lq a) : anyM P md l.toArray D R g seen a w := by
  subst hg hl
  exact anyM_quiet (G := fun a' w => anyM P md l.toArray D R f (seenQ q seen) a' w) hs hD q seen a ho hq (fun a h => h) h

theorem anyM_end {l : List Oper} {md : Region.Mode} {R : Act → World → Prop} {seen : Array Bool} {a : Act} {w : World} (hr : Region.ready md l.toArray seen = []) (h : R a w) : anyM P md l.toArray D R 0 seen a w := ⟨hr, h⟩

/-- a region that draws its order -/
theorem region_tree {id : Nat} {Q : Exit → Act → World → Prop} {a : Act} {w : World} {l : List Oper} (D : World → Prop) (hm : P.follows .mixedOrders = true)
    (h : anyM P .any l.toArray D (fun a' w' => Q .normal a' w') l.length (Array.replicate l.length false) a w.drew) : (Code.region id l.toArray true).wp P Q a w := by
  refine wp_region_any hm ?_
  have h2 := any_of_anyM (Q := Q) (fun _ _ h => h) _ _ _ _ h
  simpa using h2

end Go.Proofs.Ytdhefajaekackaa
