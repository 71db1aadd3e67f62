/- Several texts of one proof, in their order. -/
import Derived.Test.YtfcpmpcfbhkacaaVb3

/- A region that draws its order, in which some operations only read what stays as it is (they may come up at any time) and the others (calls, what lays new memory) can come up one at a time alone: one walk in one order serves every order. Plain: it speaks of no program. -/
namespace Go.Proofs.Ytfcpmpcfbhkacaa

set_option linter.unusedVariables false

variable {P : Program} {ops : Array Oper} {md : Region.Mode} {D : World → Prop}

/-- an end in one way alone -/
def endN (R : Act → World → Prop) : Exit → Act → World → Prop := fun ex a w => ex = .normal ∧ R a w

theorem letsOut_endN {R : Act → World → Prop} : ¬ LetsOut (endN R) := fun ⟨_, _, h, _⟩ => by cases h

theorem upon_ends {o : Oper} {a a' : Act} {K K' : Act → World → Prop} {R : Act → World → Prop} {Q : Exit → Act → World → Prop} {r : Result Next} (hv : ∀ v w, K (a.put o.dst v) w → K' (a'.put o.dst v) w)
    (hd : ∀ d w, K ({ a with defers := d :: a.defers }.put o.dst undef) w → K' ({ a' with defers := d :: a'.defers }.put o.dst undef) w) (h : o.upon P a K (endN R) r) : o.upon P a' K' Q r := by
  cases r with
  | ok n w' =>
    cases n with
    | value v => exact hv v w' h
    | skip => exact hv undef w' h
    | defer d => exact hd d w' h
    | enter f args =>
      refine Calls.mono (P := P) h ?_
      intro e w'' he
      cases e with
      | returned v => exact hv v w'' he
      | panicked c => exact absurd he.1 (by intro e; cases e)
      | outgrown => exact absurd he letsOut_endN
    | row row args => exact Rows.mono (P := P) h fun v w'' he => hv v w'' he
    | _ => exact h
  | halt x w' =>
    cases x with
    | panic v => exact absurd h.1 (by intro e; cases e)
    | _ => exact h

/-- in every world of the class the operation yields v, and leaves the world as it was -/
def StillIn (P : Program) (ops : Array Oper) (D : World → Prop) (o : Oper) (v : Value) (a : Act) : Prop :=
  (Region.wanted o (yielded ops a.tmps) = true ∧ ∀ w, D w → (execOp a.eval o).run P w = .ok (.value v) w ∨ ((execOp a.eval o).run P w = .ok .skip w ∧ v = undef)) ∨
  (Region.wanted o (yielded ops a.tmps) = false ∧ v = undef)

theorem StillIn.of_same {o : Oper} {v : Value} {a a' : Act} (hy : StillIn P ops D o v a) (he : execOp a'.eval o = execOp a.eval o)
    (hw : Region.wanted o (yielded ops a'.tmps) = Region.wanted o (yielded ops a.tmps)) : StillIn P ops D o v a' := by
  unfold StillIn at *
  rw [he, hw]
  exact hy

theorem StillIn.wpOp {i : Nat} {o : Oper} {v : Value} {a : Act} {w : World} {Q : Exit → Act → World → Prop} {K : Act → World → Prop} (hi : ops[i]? = some o) (hD : D w) (hy : StillIn P ops D o v a) (h : K (a.put o.dst v) w) : wpOp P ops Q i K a w := by
  unfold Go.wpOp
  simp only [hi]
  rcases hy with ⟨hw, hv⟩ | ⟨hw, rfl⟩
  · simp only [hw, if_true]
    refine Or.inl ?_
    unfold Oper.wp
    rcases hv w hD with e | ⟨e, rfl⟩
    · rw [e]; exact h
    · rw [e]; exact h
  · simp only [hw, Bool.false_eq_true, if_false]; exact h

/-- whatever order is picked from here on, each world of the class -/
def anyM (P : Program) (md : Region.Mode) (ops : Array Oper) (D : World → Prop) (R : Act → World → Prop) : Nat → Array Bool → Act → World → Prop
  | 0, seen, a, w => Region.ready md ops seen = [] ∧ R a w
  | f + 1, seen, a, w => (Region.ready md ops seen = [] → R a w) ∧ ∀ i ∈ Region.ready md ops seen, wpOp P ops (endN R) i (fun a' w' => D w' ∧ anyM P md ops D R f (seen.setIfInBounds i true) a' w') a w

theorem wpOp_ends {i : Nat} {a : Act} {w : World} {K K' : Act → World → Prop} {R : Act → World → Prop} {Q : Exit → Act → World → Prop} (h : ∀ a w, K a w → K' a w) (hh : wpOp P ops (endN R) i K a w) : wpOp P ops Q i K' a w := by
  unfold wpOp at *
  split
  · rename_i ho; simp only [ho] at hh; exact h _ _ hh
  · rename_i o ho
    simp only [ho] at hh
    split
    · rename_i hw
      simp only [hw, if_true] at hh
      rcases hh with hh | hh
      · exact Or.inl (upon_ends (fun v w => h _ w) (fun d w => h _ w) hh)
      · exact absurd hh.2 letsOut_endN
    · rename_i hw; simp only [hw] at hh; exact h _ _ hh

theorem any_of_anyM {R : Act → World → Prop} {Q : Exit → Act → World → Prop} (hR : ∀ a w, R a w → Q .normal a w) (f : Nat) : ∀ (seen : Array Bool) (a : Act) (w : World), anyM P md ops D R f seen a w → wpAny P md ops Q f seen a w := by
  induction f with
  | zero => intro seen a w h; exact ⟨h.1, hR _ _ h.2⟩
  | succ f ih => intro seen a w h; exact ⟨fun h0 => hR _ _ (h.1 h0), fun i hi => wpOp_ends (fun a' w' h' => ih _ a' w' h'.2) (h.2 i hi)⟩

theorem wpOp_put {j : Nat} {oi oj : Oper} {v : Value} {R : Act → World → Prop} (hj : ops[j]? = some oj) (hap : oi.apart ops oj = true)
    (hsi : ∀ cs b, oi.op ≠ .select cs b) (hsj : ∀ cs b, oj.op ≠ .select cs b) {K : Act → World → Prop} {a : Act} {w : World}
    (hy : StillIn P ops D oi v a) (h : wpOp P ops (endN R) j K (a.put oi.dst v) w) :
    wpOp P ops (endN R) j (fun a' w' => StillIn P ops D oi v a' ∧ K (a'.put oi.dst v) w') a w := by
  obtain ⟨h1, h2, h3⟩ := Oper.apart_spec hap
  have keep : ∀ (a : Act), StillIn P ops D oi v a → ∀ u, StillIn P ops D oi v (a.put oj.dst u) := fun a hy u =>
    hy.of_same (execOp_put oi hsi a oj.dst u h3) (wanted_put oi a oj.dst u h3)
  have keepd : ∀ d, StillIn P ops D oi v { a with defers := d :: a.defers } := fun d => hy.of_same rfl rfl
  unfold wpOp at *
  simp only [hj] at *
  rw [wanted_put oj a oi.dst v h1] at h
  split
  · rename_i hw
    simp only [hw, if_true] at h
    rcases h with h | h
    · refine Or.inl ?_
      unfold Oper.wp at *
      rw [execOp_put oj hsj a oi.dst v h1] at h
      refine upon_ends (fun u w' hk => ⟨keep a hy u, ?_⟩) (fun d w' hk => ⟨keep _ (keepd d) _, ?_⟩) h
      · rw [← Act.put_comm a v u h2]; exact hk
      · rw [← Act.put_comm _ v undef h2]
        exact (by
          have e : ({ (a.put oi.dst v) with defers := d :: (a.put oi.dst v).defers } : Act) = ({ a with defers := d :: a.defers } : Act).put oi.dst v := by
            cases oi.dst <;> simp [Act.put]
          rw [e] at hk
          exact hk)
    · exact absurd h.2 letsOut_endN
  · rename_i hw
    simp only [hw] at h
    exact ⟨keep a hy _, by rw [← Act.put_comm a v undef h2]; exact h⟩

/-- what only reads may be taken first -/
theorem anyM_first {R : Act → World → Prop} {i : Nat} {oi : Oper} {v : Value} (hi : ops[i]? = some oi) (hsel : ∀ (j : Nat) (o : Oper) cs b, ops[j]? = some o → o.op ≠ .select cs b) (f : Nat) :
    ∀ (seen : Array Bool) (a : Act) (w : World), D w →
      (∀ j oj, ops[j]? = some oj → j ≠ i → seen.getD j true = false → (∀ e ∈ oj.after, Region.binds md e = true → e.on ≠ i) → oi.apart ops oj = true) →
      i ∈ Region.ready md ops seen → StillIn P ops D oi v a →
      anyM P md ops D R f (seen.setIfInBounds i true) (a.put oi.dst v) w → anyM P md ops D R (f + 1) seen a w := by
  induction f with
  | zero =>
    intro seen a w hD _ hr hy H
    refine ⟨fun h => (by rw [h] at hr; cases hr), fun j hj => ?_⟩
    by_cases hji : j = i
    · subst hji; exact hy.wpOp hi hD ⟨hD, H⟩
    · have := ready_mono hj hji
      rw [H.1] at this
      cases this
  | succ f ih =>
    intro seen a w hD hfree hr hy H
    refine ⟨fun h => (by rw [h] at hr; cases hr), fun j hj => ?_⟩
    by_cases hji : j = i
    · subst hji; exact hy.wpOp hi hD ⟨hD, H⟩
    · have h1 := H.2 j (ready_mono hj hji)
      obtain ⟨hjun, oj, hoj, hall⟩ := mem_ready.1 hj
      have hun := (mem_ready.1 hr).1
      have hnot : ∀ e ∈ oj.after, Region.binds md e = true → e.on ≠ i := by
        intro e he hb heq
        have h2 := hall e he hb
        rw [heq, getD_both hun] at h2
        cases h2
      have h2 := wpOp_put hoj (hfree j oj hoj hji hjun hnot) (fun cs b => hsel i oi cs b hi) (fun cs b => hsel j oj cs b hoj) hy h1
      refine wpOp_mono (fun a' w' h3 => ⟨h3.2.1, ih (seen.setIfInBounds j true) a' w' h3.2.1 ?_ (ready_mono hr (Ne.symm hji)) h3.1 ?_⟩) h2
      · intro k ok hk hki hunk hno
        refine hfree k ok hk hki ?_ hno
        by_cases hjk : j = k
        · subst hjk
          exact hjun
        · rw [getD_set_ne true hjk] at hunk
          exact hunk
      · rw [Array.setIfInBounds_comm _ _ hji]
        exact h3.2.2

/-- one order: true, what only reads; false, what comes up alone -/
def walkF (P : Program) (ops : Array Oper) (D : World → Prop) (R : Act → World → Prop) : List (Nat × Bool) → Act → World → Prop
  | [], a, w => R a w
  | (i, true) :: r, a, w => ∃ o v, ops[i]? = some o ∧ StillIn P ops D o v a ∧ walkF P ops D R r (a.put o.dst v) w
  | (i, false) :: r, a, w => wpOp P ops (endN R) i (fun a' w' => D w' ∧ walkF P ops D R r a' w') a w

def ordB (md : Region.Mode) (ops : Array Oper) : List (Nat × Bool) → Array Bool → Bool
  | [], seen => (Region.ready md ops seen).isEmpty
  | (i, true) :: r, seen => (Region.ready md ops seen).contains i && Region.free md ops seen i && ordB md ops r (seen.setIfInBounds i true)
  | (i, false) :: r, seen => (Region.ready md ops seen == [i]) && ordB md ops r (seen.setIfInBounds i true)

theorem anyM_of_walk {R : Act → World → Prop} (hs : Region.noSelect ops = true) : ∀ (l : List (Nat × Bool)) (seen : Array Bool) (a : Act) (w : World), D w →
    ordB md ops l seen = true → walkF P ops D R l a w → anyM P md ops D R l.length seen a w
  | [], _, _, _, _, hB, h => ⟨by simpa [ordB] using hB, h⟩
  | (i, true) :: r, seen, a, w, hD, hB, h => by
    simp only [ordB, Bool.and_eq_true] at hB
    obtain ⟨⟨hr, hf⟩, hB'⟩ := hB
    obtain ⟨o, v, ho, hy, hK⟩ := h
    exact anyM_first ho (Region.noSelect_spec hs) r.length seen a w hD (Region.free_spec ho hf) (by simpa using hr) hy (anyM_of_walk hs r _ _ w hD hB' hK)
  | (i, false) :: r, seen, a, w, hD, hB, h => by
    simp only [ordB, Bool.and_eq_true, beq_iff_eq] at hB
    obtain ⟨hr, hB'⟩ := hB
    refine ⟨fun h0 => (by rw [h0] at hr; cases hr), fun j hj => ?_⟩
    rw [hr] at hj
    obtain rfl : j = i := by simpa using hj
    exact wpOp_mono (fun a' w' h' => ⟨h'.1, anyM_of_walk hs r _ a' w' h'.1 hB' h'.2⟩) h

/-- operations that call nothing -/
def plainB (o : Oper) : Bool :=
  match o.op with
  | .move _ | .assign _ | .pick _ _ _ | .build _ _ | .load _ _ | .binOp _ _ _ _ _ | .unOp _ _ _ | .convert _ _ _ | .slice _ _ _ _ _ | .fieldAddr _ _ _ | .field _ _ _ | .indexAddr _ _ _ | .index _ _ _ | .lookup _ _ _ _ | .extract _ _ => true
  | .call ⟨.builtin .len, _, _⟩ => true
  | _ => false

theorem value_run (s : Sem Value) (w w' : World) (f : FuncId) (args : Array Value) : (do pure (Next.value (← s)) : Sem Next).run P w ≠ .ok (.enter f args) w' := by
  rw [Sem.run_bind]
  cases s.run P w with
  | ok v w1 => simp only [Result.andThen, Sem.run_pure]; intro h; injection h with h1; cases h1
  | halt x w1 => simp only [Result.andThen]; intro h; cases h

theorem plain_run {o : Oper} {ρ : Operand → Value} (h : plainB o = true) (w w' : World) (f : FuncId) (args : Array Value) : (execOp ρ o).run P w ≠ .ok (.enter f args) w' := by
  obtain ⟨dst, op, ty, pos, after, guard⟩ := o
  unfold plainB at h
  split at h
  · rename_i x; simp only at *; subst_vars; simp only [execOp, Sem.run_pure]; intro h; injection h with h1; cases h1
  · rename_i x; simp only at *; subst_vars; simp only [execOp, Sem.run_pure]; intro h; injection h with h1; cases h1
  · rename_i c a b e
    simp only at e
    subst e
    simp only [execOp]
    rw [Sem.run_bind]
    cases (asBool (ρ c)).run P w with
    | ok v w1 => simp only [Result.andThen, Sem.run_pure]; intro h; injection h with h1; cases h1
    | halt x w1 => simp only [Result.andThen]; intro h; cases h
  all_goals first
    | (cases h; done)
    | (rename_i e; simp only at e; subst e; simp only [execOp, resolve, invoke, builtin, pure_bind]; exact value_run _ w w' f args)

/-- a world of the class -/
structure Of (D : World → Prop) where
  val : World
  is : D val

/-- the worlds of the class, one by one -/
def inD (D : World → Prop) : World → Prop := fun w => ∃ u : Of D, w = u.val

theorem still_of_yields {o : Oper} {v : Value} {a : Act} (hp : plainB o = true) (h : YieldsIn P ops (inD D) o v a) : StillIn P ops D o v a := by
  rcases h with ⟨hw, h⟩ | h
  · refine Or.inl ⟨hw, fun w hD => ?_⟩
    have h1 := h w ⟨⟨w, hD⟩, rfl⟩
    unfold Oper.quietAt at h1
    have h2 := fun w' f args => plain_run (P := P) (ρ := a.eval) hp w w' f args
    generalize (execOp a.eval o).run P w = r at *
    cases r with
    | ok n w' =>
      cases n with
      | value u => obtain ⟨rfl, rfl⟩ := h1; exact Or.inl rfl
      | skip => obtain ⟨rfl, rfl⟩ := h1; exact Or.inr ⟨rfl, rfl⟩
      | enter f args => exact absurd rfl (h2 w' f args)
      | _ => exact h1.elim
    | halt x w' => exact h1.elim
  · exact Or.inr h

/-- the operations by their numbers -/
def pickO (l : List Oper) : List Nat → List Oper
  | [] => []
  | i :: r => match l[i]? with
    | some o => o :: pickO l r
    | none => pickO l r

/-- the walk in one order: what only reads, then one that comes up alone, and so on; then what only reads, to the end -/
def mixO (P : Program) (l : List Oper) (D : World → Prop) (R : Act → World → Prop) : List (List Nat × Nat) → List Nat → Act → World → Prop
  | [], last, a, w => wpQuiet P l.toArray (fun w' => ∃ u : Of D, w' = u.val) (fun a' => R a' w) (pickO l last) a
  | (q, c) :: r, last, a, w => wpQuiet P l.toArray (fun w' => ∃ u : Of D, w' = u.val) (fun a' => wpList P l.toArray (endN fun a'' w'' => D w'' ∧ mixO P l D R r last a'' w'') (pickO l [c]) a' w) (pickO l q) a

def flatO (s : List (List Nat × Nat)) (last : List Nat) : List (Nat × Bool) :=
  match s with
  | [] => last.map (·, true)
  | (q, c) :: r => q.map (·, true) ++ (c, false) :: flatO r last

/-- the numbers are of the region, and what only reads calls nothing -/
def fitB (l : List Oper) (s : List (List Nat × Nat)) (last : List Nat) : Bool :=
  s.all (fun p => p.1.all (fun i => match l[i]? with | some o => plainB o | none => false) && (l[p.2]?).isSome) && last.all (fun i => match l[i]? with | some o => plainB o | none => false)

theorem walk_quiet {l : List Oper} {R G : Act → World → Prop} {rest : List (Nat × Bool)} {w : World} (hG : ∀ a, G a w → walkF P l.toArray D R rest a w) : ∀ (q : List Nat) (a : Act), (q.all (fun i => match l[i]? with | some o => plainB o | none => false)) = true →
    wpQuiet P l.toArray (fun w' => ∃ u : Of D, w' = u.val) (fun a' => G a' w) (pickO l q) a → walkF P l.toArray D R (q.map (·, true) ++ rest) a w
  | [], a, _, h => hG a h
  | i :: q, a, hq, h => by
    simp only [List.all_cons, Bool.and_eq_true] at hq
    obtain ⟨h1, h2⟩ := hq
    cases ho : l[i]? with
    | none => simp [ho] at h1
    | some o =>
      simp only [ho] at h1
      simp only [pickO, ho] at h
      have h0 : l.toArray[i]? = some o := by simpa using ho
      have hst : qOp P l.toArray (fun w' => ∃ u : Of D, w' = u.val) i (wpQuiet P l.toArray (fun w' => ∃ u : Of D, w' = u.val) (fun a' => G a' w) (pickO l q)) a := by unfold qOp; simp only [h0]; exact h
      obtain ⟨v, hy, hK⟩ := yieldsIn_of_qOp h0 hst
      exact ⟨o, v, h0, still_of_yields h1 hy, walk_quiet hG q _ h2 hK⟩

theorem walk_of_mix {l : List Oper} {R : Act → World → Prop} (last : List Nat) : ∀ (s : List (List Nat × Nat)) (a : Act) (w : World), fitB l s last = true → mixO P l D R s last a w → walkF P l.toArray D R (flatO s last) a w
  | [], a, w, hf, h => by
    have h2 : last.all (fun i => match l[i]? with | some o => plainB o | none => false) = true := by simpa [fitB] using hf
    have := walk_quiet (P := P) (D := D) (R := R) (G := R) (rest := []) (fun a h => h) last a h2 h
    simpa [flatO] using this
  | (q, c) :: r, a, w, hf, h => by
    simp only [fitB, List.all_cons, Bool.and_eq_true] at hf
    obtain ⟨⟨⟨h1, h2⟩, h3⟩, h4⟩ := hf
    obtain ⟨o, ho⟩ := Option.isSome_iff_exists.1 h2
    refine walk_quiet (fun a' ha' => ?_) q a h1 h
    have h0 : l.toArray[c]? = some o := by simpa using ho
    simp only [pickO, ho, wpList] at ha'
    show wpOp P l.toArray (endN R) c _ a' w
    unfold wpOp
    simp only [h0]
    have hk : ∀ a'' w'', endN (fun a'' w'' => D w'' ∧ mixO P l D R r last a'' w'') .normal a'' w'' → D w'' ∧ walkF P l.toArray D R (flatO r last) a'' w'' := fun a'' w'' hh => ⟨hh.2.1, walk_of_mix last r a'' w'' (by simp only [fitB, Bool.and_eq_true]; exact ⟨h3, h4⟩) hh.2.2⟩
    split
    · rename_i hw
      simp only [hw, if_true] at ha'
      rcases ha' with ha' | ha'
      · exact Or.inl (upon_ends (fun v w1 hh => hk _ _ hh) (fun d w1 hh => hk _ _ hh) ha')
      · exact absurd ha'.2 letsOut_endN
    · rename_i hw
      simp only [hw] at ha'
      exact hk _ _ ha'

/-- a region that draws its order, walked in one order -/
theorem region_mixed {id : Nat} {Q : Exit → Act → World → Prop} {a : Act} {w : World} {l : List Oper} (D : World → Prop) (s : List (List Nat × Nat)) (last : List Nat) (hm : P.follows .mixedOrders = true)
    (hB : (Region.noSelect l.toArray && fitB l s last && decide ((flatO s last).length = l.length) && ordB .any l.toArray (flatO s last) (Array.replicate l.length false)) = true) (hD : D w.drew)
    (h : mixO P l D (fun a' w' => Q .normal a' w') s last a w.drew) : (Code.region id l.toArray true).wp P Q a w := by
  simp only [Bool.and_eq_true, decide_eq_true_eq] at hB
  obtain ⟨⟨⟨hsel, hf⟩, hlen⟩, hord⟩ := hB
  refine wp_region_any hm ?_
  have h1 := anyM_of_walk (md := .any) hsel (flatO s last) _ a w.drew hD hord (walk_of_mix last s a w.drew hf h)
  rw [hlen] at h1
  have h2 := any_of_anyM (Q := Q) (fun _ _ h => h) _ _ _ _ h1
  simpa using h2

theorem mixO_cons {l lq lc : List Oper} {R : Act → World → Prop} {q : List Nat} {c : Nat} {r : List (List Nat × Nat)} {last : List Nat} {a : Act} {w : World} (h : wpQuiet P l.toArray (fun w' => ∃ u : Of D, w' = u.val) (fun a' => ∀ K : Act → World → Prop, (∀ a'' w'', D w'' → mixO P l D R r last a'' w'' → K a'' w'') → wpList P l.toArray (endN K) lc a' w) lq a)
    (hq : pickO l q = lq := by simp only [pickO, List.getElem?_cons_zero, List.getElem?_cons_succ]; exact rfl) (hc : pickO l [c] = lc := by simp only [pickO, List.getElem?_cons_zero, List.getElem?_cons_succ]; exact rfl) : mixO P l D R ((q, c) :: r) last a w := by
  subst hq hc
  have key : ∀ (q : List Oper) (a : Act) (G G' : Act → Prop), (∀ a, G a → G' a) → wpQuiet P l.toArray (fun w' => ∃ u : Of D, w' = u.val) G q a → wpQuiet P l.toArray (fun w' => ∃ u : Of D, w' = u.val) G' q a := by
    intro q
    induction q with
    | nil => intro a G G' hG h; exact hG a h
    | cons o q ih =>
      intro a G G' hG h
      simp only [wpQuiet] at *
      split
      · rename_i hw
        simp only [hw, if_true] at h
        exact Oper.quiet_mono (fun a' h' => ih a' G G' hG h') h
      · rename_i hw
        simp only [hw] at h
        exact ih _ G G' hG h
  exact key _ _ _ _ (fun a' h' => h' _ (fun a'' w'' h1 h2 => ⟨h1, h2⟩)) h

theorem mixO_nil {l lq : List Oper} {R : Act → World → Prop} {last : List Nat} {a : Act} {w : World} (h : wpQuiet P l.toArray (fun w' => ∃ u : Of D, w' = u.val) (fun a' => R a' w) lq a)
    (hq : pickO l last = lq := by simp only [pickO, List.getElem?_cons_zero, List.getElem?_cons_succ]; exact rfl) : mixO P l D R [] last a w := by
  subst hq
  exact h

end Go.Proofs.Ytfcpmpcfbhkacaa
