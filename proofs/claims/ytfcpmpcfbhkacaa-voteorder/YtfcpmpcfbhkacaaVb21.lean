/- Several texts of one proof, in their order. -/
import Derived.Test.YtfcpmpcfbhkacaaVb9
import Derived.Test.YtfcpmpcfbhkacaaVb12
import Derived.Test.YtfcpmpcfbhkacaaVb0
import Derived.Maps.Own
import Derived.Maps.OwnOps
import Derived.Maps.OwnSet

/- A region that draws its order, in which, behind what only reads, two operations can come up in either order; then one at a time alone. Plain: it speaks of no program. -/
namespace Go.Proofs.Ytfcpmpcfbhkacaa

set_option linter.unusedVariables false

variable {P : Program} {ops : Array Oper} {md : Region.Mode} {D : World → Prop}

theorem anyM_fork {R : Act → World → Prop} (hs : Region.noSelect ops = true) {c1 c2 : Nat} {rA rB : List (Nat × Bool)} {seen : Array Bool} {a : Act} {w : World} (hr : Region.ready md ops seen = [c1, c2]) (hl : rA.length = rB.length)
    (hA : ordB md ops rA (seen.setIfInBounds c1 true) = true) (hB : ordB md ops rB (seen.setIfInBounds c2 true) = true)
    (h1 : wpOp P ops (endN R) c1 (fun a' w' => D w' ∧ walkF P ops D R rA a' w') a w) (h2 : wpOp P ops (endN R) c2 (fun a' w' => D w' ∧ walkF P ops D R rB a' w') a w) :
    anyM P md ops D R (rA.length + 1) seen a w := by
  refine ⟨fun h0 => (by rw [h0] at hr; cases hr), fun j hj => ?_⟩
  rw [hr] at hj
  rcases List.mem_cons.1 hj with rfl | hj
  · exact wpOp_mono (fun a' w' h' => ⟨h'.1, anyM_of_walk hs rA _ a' w' h'.1 hA h'.2⟩) h1
  · obtain rfl : j = c2 := by simpa using hj
    rw [hl]
    exact wpOp_mono (fun a' w' h' => ⟨h'.1, anyM_of_walk hs rB _ a' w' h'.1 hB h'.2⟩) h2

def ordQ (md : Region.Mode) (ops : Array Oper) : List Nat → Array Bool → Bool
  | [], _ => true
  | i :: r, seen => (Region.ready md ops seen).contains i && Region.free md ops seen i && ordQ md ops r (seen.setIfInBounds i true)

def seenQ : List Nat → Array Bool → Array Bool
  | [], seen => seen
  | i :: r, seen => seenQ r (seen.setIfInBounds i true)

theorem anyM_quiet {l : List Oper} {R G : Act → World → Prop} {f : Nat} {w : World} (hs : Region.noSelect l.toArray = true) (hD : D w) : ∀ (q : List Nat) (seen : Array Bool) (a : Act), ordQ md l.toArray q seen = true →
    (q.all (fun i => match l[i]? with | some o => plainB o | none => false)) = true → (∀ a, G a w → anyM P md l.toArray D R f (seenQ q seen) a w) →
    wpQuiet P l.toArray (fun w' => ∃ u : Of D, w' = u.val) (fun a' => G a' w) (pickO l q) a → anyM P md l.toArray D R (f + q.length) seen a w
  | [], seen, a, _, _, hG, h => hG a h
  | i :: q, seen, a, ho, hq, hG, h => by
    simp only [List.all_cons, Bool.and_eq_true] at hq
    obtain ⟨h1, h2⟩ := hq
    simp only [ordQ, Bool.and_eq_true] at ho
    obtain ⟨⟨hr, hf⟩, ho'⟩ := ho
    cases hoi : l[i]? with
    | none => simp [hoi] at h1
    | some o =>
      simp only [hoi] at h1
      simp only [pickO, hoi] at h
      have h0 : l.toArray[i]? = some o := by simpa using hoi
      have hst : qOp P l.toArray (fun w' => ∃ u : Of D, w' = u.val) i (wpQuiet P l.toArray (fun w' => ∃ u : Of D, w' = u.val) (fun a' => G a' w) (pickO l q)) a := by unfold qOp; simp only [h0]; exact h
      obtain ⟨v, hy, hK⟩ := yieldsIn_of_qOp h0 hst
      exact anyM_first h0 (Region.noSelect_spec hs) (f + q.length) seen a w hD (Region.free_spec h0 hf) (by simpa using hr) (still_of_yields h1 hy) (anyM_quiet hs hD q _ _ ho' h2 hG hK)

theorem wpOp_of_mix {l : List Oper} {R : Act → World → Prop} {c : Nat} {r : List (List Nat × Nat)} {last : List Nat} {a : Act} {w : World} (hc : (l[c]?).isSome = true) (hf : fitB l r last = true)
    (h : wpList P l.toArray (endN fun a'' w'' => D w'' ∧ mixO P l D R r last a'' w'') (pickO l [c]) a w) : wpOp P l.toArray (endN R) c (fun a' w' => D w' ∧ walkF P l.toArray D R (flatO r last) a' w') a w := by
  obtain ⟨o, ho⟩ := Option.isSome_iff_exists.1 hc
  have h0 : l.toArray[c]? = some o := by simpa using ho
  simp only [pickO, ho, wpList] at h
  unfold wpOp
  simp only [h0]
  have hk : ∀ a'' w'', endN (fun a'' w'' => D w'' ∧ mixO P l D R r last a'' w'') .normal a'' w'' → D w'' ∧ walkF P l.toArray D R (flatO r last) a'' w'' := fun a'' w'' hh => ⟨hh.2.1, walk_of_mix last r a'' w'' hf hh.2.2⟩
  split
  · rename_i hw
    simp only [hw, if_true] at h
    rcases h with h | h
    · exact Or.inl (upon_ends (fun v w1 hh => hk _ _ hh) (fun d w1 hh => hk _ _ hh) h)
    · exact absurd h.2 letsOut_endN
  · rename_i hw
    simp only [hw] at h
    exact hk _ _ h

/-- a region that draws its order, with one fork -/
theorem region_fork {id : Nat} {Q : Exit → Act → World → Prop} {a : Act} {w : World} {l lq l1 l2 : List Oper} (D : World → Prop) (q : List Nat) (c1 c2 : Nat) (rA rB : List (List Nat × Nat)) (last : List Nat) (hm : P.follows .mixedOrders = true)
    (hB : (Region.noSelect l.toArray && q.all (fun i => match l[i]? with | some o => plainB o | none => false) && (l[c1]?).isSome && (l[c2]?).isSome && fitB l rA last && fitB l rB last && decide ((flatO rA last).length + 1 + q.length = l.length) && decide ((flatO rA last).length = (flatO rB last).length)
      && ordQ .any l.toArray q (Array.replicate l.length false) && (Region.ready .any l.toArray (seenQ q (Array.replicate l.length false)) == [c1, c2])
      && ordB .any l.toArray (flatO rA last) ((seenQ q (Array.replicate l.length false)).setIfInBounds c1 true) && ordB .any l.toArray (flatO rB last) ((seenQ q (Array.replicate l.length false)).setIfInBounds c2 true)) = true) (hD : D w.drew)
    (hq : pickO l q = lq) (h1 : pickO l [c1] = l1) (h2 : pickO l [c2] = l2)
    (h : wpQuiet P l.toArray (fun w' => ∃ u : Of D, w' = u.val) (fun a' =>
      (∀ K : Act → World → Prop, (∀ a'' w'', D w'' → mixO P l D (fun a' w' => Q .normal a' w') rA last a'' w'' → K a'' w'') → wpList P l.toArray (endN K) l1 a' w.drew) ∧
      (∀ K : Act → World → Prop, (∀ a'' w'', D w'' → mixO P l D (fun a' w' => Q .normal a' w') rB last a'' w'' → K a'' w'') → wpList P l.toArray (endN K) l2 a' w.drew)) lq a) : (Code.region id l.toArray true).wp P Q a w := by
  subst hq h1 h2
  simp only [Bool.and_eq_true, decide_eq_true_eq, beq_iff_eq] at hB
  obtain ⟨⟨⟨⟨⟨⟨⟨⟨⟨⟨⟨hsel, hq⟩, hc1⟩, hc2⟩, hfA⟩, hfB⟩, hlen⟩, hll⟩, hoq⟩, hrd⟩, hoA⟩, hoB⟩ := hB
  refine wp_region_any hm ?_
  have h3 := anyM_quiet (md := .any) (f := (flatO rA last).length + 1) (R := fun a' w' => Q .normal a' w') (w := w.drew)
    (G := fun a' w => (∀ K : Act → World → Prop, (∀ a'' w'', D w'' → mixO P l D (fun a' w' => Q .normal a' w') rA last a'' w'' → K a'' w'') → wpList P l.toArray (endN K) (pickO l [c1]) a' w) ∧
      (∀ K : Act → World → Prop, (∀ a'' w'', D w'' → mixO P l D (fun a' w' => Q .normal a' w') rB last a'' w'' → K a'' w'') → wpList P l.toArray (endN K) (pickO l [c2]) a' w)) hsel hD q _ a hoq hq
    (fun a' ha => anyM_fork hsel hrd hll hoA hoB (wpOp_of_mix hc1 hfA (ha.1 _ fun a'' w'' g1 g2 => ⟨g1, g2⟩)) (wpOp_of_mix hc2 hfB (ha.2 _ fun a'' w'' g1 g2 => ⟨g1, g2⟩))) h
  rw [hlen] at h3
  have h4 := any_of_anyM (Q := Q) (fun _ _ h => h) _ _ _ _ h3
  simpa using h4

end Go.Proofs.Ytfcpmpcfbhkacaa

/- What package share answers of a plan, of a share, and of two: Check, Long, One, Same. -/
namespace Go.Proofs.Ytfcpmpcfbhkacaa

open Go.RowKit CurveMath
set_option linter.unusedVariables false

end Go.Proofs.Ytfcpmpcfbhkacaa

/- A map of the numbers that were seen: has it this one? Plain: it speaks of no program. -/
namespace Go.Proofs.Ytfcpmpcfbhkacaa

open Go.RowKit Go.Maps
set_option linter.unusedVariables false

/-- the first k of X, each with u -/
def setX {H : Type} (u : DataW H) (X : Nat → Int) (k : Nat) : DataW H := setOf u ((List.range k).map fun j => Lit.int .i64 (X j))

theorem setX_zero {H : Type} (u : DataW H) (X : Nat → Int) : setX u X 0 = .map [] := rfl

theorem setX_succ {H : Type} (u : DataW H) (X : Nat → Int) (k : Nat) : setX u X (k + 1) = (setX u X k).put (.int .i64 (X k)) u := by
  unfold setX
  rw [List.range_succ, List.map_append]
  exact setOf_snoc u _ _

theorem isMap_setX {H : Type} (u : DataW H) (X : Nat → Int) (k : Nat) : IsMap (setX u X k) := by
  induction k with
  | zero => rw [setX_zero]; exact isMap_empty
  | succ k ih => rw [setX_succ]; exact ih.put _ _

theorem hasB_succ (X : Nat → Int) (k : Nat) (v : Int) (h : X k ≠ v) : hasB X (k + 1) v = hasB X k v := by
  rw [Bool.eq_iff_iff, hasB_iff, hasB_iff]
  constructor
  · rintro ⟨j, hj, e⟩
    by_cases hjk : j = k
    · subst hjk; exact absurd e h
    · exact ⟨j, by omega, e⟩
  · rintro ⟨j, hj, e⟩; exact ⟨j, by omega, e⟩

theorem atKey_setX {H : Type} (u : DataW H) (X : Nat → Int) (k : Nat) (v : Int) (z : DataW H) : (setX u X k).atKey (.int .i64 v) z = if hasB X k v = true then u else z := by
  induction k with
  | zero => rfl
  | succ k ih =>
    rw [setX_succ]
    by_cases h : X k = v
    · subst h
      rw [atKey_put_same (isMap_setX u X k) (by simp [WideAt.IsKeyLit]), if_pos ((hasB_iff X (k + 1) (X k)).2 ⟨k, by omega, rfl⟩)]
    · rw [atKey_put_other (fun e => h (by injection e with _ e2; exact e2.symm)), ih, hasB_succ X k v h]

end Go.Proofs.Ytfcpmpcfbhkacaa
