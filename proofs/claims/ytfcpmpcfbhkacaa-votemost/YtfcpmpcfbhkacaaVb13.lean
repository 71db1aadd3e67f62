/- Several texts of one proof, in their order. -/
import Derived.Test.YtfcpmpcfbhkacaaVb5
import Derived.Maps.AppendAt
import Derived.Test.YtfcpmpcfbhkacaaVb9

/- Two lists of ints that a call grows side by side, each in a row of its own. -/
namespace Go.Proofs.Ytfcpmpcfbhkacaa

open Go.RowKit
set_option linter.unusedVariables false

theorem grown_of_below {w w' : World} (h : Below w.heap.size w w') (row : Option Nat) : w.grownBy w' row := ⟨h.os, h.tape, h.output, h.size, fun k hk _ => h.block k hk⟩

theorem owns_below {w w' : World} {base : Nat} {e : TypeId} {size : Nat} {v : Value} {n : Nat} {xs : List Value} (h : w.ownsRow base e size v n xs) (hb : Below w.heap.size w w') : w'.ownsRow base e size v n xs := by
  cases hv : v.ownBlock with
  | none => exact h.kept (grown_of_below hb none) (Or.inl hv)
  | some g => exact h.kept (grown_of_below hb none) (Or.inr (by rw [hv]; intro h; cases h))

theorem OwnI.below {w0 wr w' : World} {v : Value} {n : Nat} {C : Nat → Int} (h : OwnI w0 wr v n C) (hb : Below wr.heap.size wr w') : OwnI w0 w' v n C :=
  ⟨owns_below h.1 hb, h.2.trans (hb.mono h.2.size)⟩

theorem OwnI.shape {w0 wr : World} {v : Value} {n : Nat} {C : Nat → Int} (h : OwnI w0 wr v n C) : ∃ ad cap, v = .slice ad n cap := by
  obtain ⟨_, h2⟩ := h.1
  rcases h2 with ⟨h1, h0⟩ | ⟨g, cap, cur, h1, _⟩
  · exact ⟨none, 0, by rw [h0]; exact h1⟩
  · exact ⟨_, _, h1⟩

theorem OwnI.congr {w0 wr : World} {v : Value} {n : Nat} {C D : Nat → Int} (h : OwnI w0 wr v n C) (e : ∀ j, j < n → C j = D j) : OwnI w0 wr v n D := by
  refine ⟨?_, h.2⟩
  have e2 : ((List.range n).map fun j => Value.int .i64 (D j)) = (List.range n).map fun j => Value.int .i64 (C j) := List.map_congr_left fun j hj => by rw [e j (List.mem_range.1 hj)]
  rw [e2]
  exact h.1

theorem OwnI.isl {w0 wr : World} {v : Value} {n : Nat} {C : Nat → Int} (h : OwnI w0 wr v n C) (hn : 1 ≤ n) (hr : n * 8 ≤ 140737488351232) : IntSl wr wr.heap.size v n C := by
  obtain ⟨g, cap, rfl, hc, hrow⟩ := h.row hn
  exact hrow.isl hc hr

/-- two own lists of one length, in rows of their own -/
structure Two (w0 wr : World) (va vb : Value) (r : Nat) (A B : Nat → Int) : Prop where
  a : OwnI w0 wr va r A
  b : OwnI w0 wr vb r B
  ne : va.ownBlock = none ∨ va.ownBlock ≠ vb.ownBlock

theorem Two.nil (w : World) (A B : Nat → Int) : Two w w (.slice none 0 0) (.slice none 0 0) 0 A B := ⟨OwnI.nil _ _, OwnI.nil _ _, Or.inl rfl⟩

theorem Two.below {w0 wr w' : World} {va vb : Value} {r : Nat} {A B : Nat → Int} (h : Two w0 wr va vb r A B) (hb : Below wr.heap.size wr w') : Two w0 w' va vb r A B := ⟨h.a.below hb, h.b.below hb, h.ne⟩

/-- the second list, behind the first one's growth -/
theorem Two.after {w0 wr w1 : World} {va vb va' : Value} {r : Nat} {A B : Nat → Int} {k : Int} (h : Two w0 wr va vb r A B) (o : Obj)
    (ho : w1.ownsRow w0.heap.size 3 1 va' (r + 1) (((List.range r).map fun j => Value.int .i64 (A j)) ++ [.int .i64 k])) (hg : (wr.alloc o).grownBy w1 va.ownBlock)
    (hat : va'.ownBlock = va.ownBlock ∨ va'.ownBlock = some (wr.alloc o).heap.size) :
    OwnI w0 w1 va' (r + 1) (fun j => if j = r then k else A j) ∧ OwnI w0 w1 vb r B ∧ (vb.ownBlock = none ∨ va'.ownBlock ≠ vb.ownBlock) := by
  have hbA : Below w0.heap.size w0 (wr.alloc o) := h.a.2.alloc h.a.2.size o
  have hlo : ∀ g, va.ownBlock = some g → w0.heap.size ≤ g := fun g hgg => (h.a.1.lt g hgg).1
  have hb1 : Below w0.heap.size w0 w1 := hbA.grown hg hbA.size hlo
  have hvb : w1.ownsRow w0.heap.size 3 1 vb r ((List.range r).map fun j => Value.int .i64 (B j)) := by
    refine (h.b.1.alloc o).kept hg ?_
    rcases h.ne with h1 | h1
    · rw [h1]
      cases hv : vb.ownBlock with
      | none => exact Or.inl rfl
      | some g => exact Or.inr (by intro h; cases h)
    · exact Or.inr (Ne.symm h1)
  refine ⟨⟨?_, hb1⟩, ⟨hvb, hb1⟩, ?_⟩
  · have e : ((List.range (r + 1)).map fun j => Value.int .i64 (if j = r then k else A j)) = ((List.range r).map fun j => Value.int .i64 (A j)) ++ [.int .i64 k] := by
      rw [List.range_succ, List.map_append]
      congr 1
      · exact List.map_congr_left fun j hj => by have := List.mem_range.1 hj; rw [if_neg (by omega)]
      · simp
    rw [e]
    exact ho
  · cases hv : vb.ownBlock with
    | none => exact Or.inl rfl
    | some g =>
      right
      have hlt := (h.b.1.lt g hv).2
      rcases hat with h1 | h1
      · rw [h1]
        rcases h.ne with h2 | h2
        · rw [h2]; intro h; cases h
        · rw [← hv]; exact h2
      · rw [h1]
        intro h2
        injection h2 with h2
        simp at h2
        omega

/-- both grown by one -/
theorem Two.both {w0 w2 w3 : World} {va vb vb' : Value} {r : Nat} {A B : Nat → Int} {v : Int} (ha : OwnI w0 w2 va (r + 1) A) (hb : OwnI w0 w2 vb r B) (hne : vb.ownBlock = none ∨ va.ownBlock ≠ vb.ownBlock) (o : Obj)
    (ho : w3.ownsRow w0.heap.size 3 1 vb' (r + 1) (((List.range r).map fun j => Value.int .i64 (B j)) ++ [.int .i64 v])) (hg : (w2.alloc o).grownBy w3 vb.ownBlock)
    (hat : vb'.ownBlock = vb.ownBlock ∨ vb'.ownBlock = some (w2.alloc o).heap.size) :
    Two w0 w3 va vb' (r + 1) A (fun j => if j = r then v else B j) := by
  have hbA : Below w0.heap.size w0 (w2.alloc o) := hb.2.alloc hb.2.size o
  have hlo : ∀ g, vb.ownBlock = some g → w0.heap.size ≤ g := fun g hgg => (hb.1.lt g hgg).1
  have hb1 : Below w0.heap.size w0 w3 := hbA.grown hg hbA.size hlo
  have hva : w3.ownsRow w0.heap.size 3 1 va (r + 1) ((List.range (r + 1)).map fun j => Value.int .i64 (A j)) := by
    refine (ha.1.alloc o).kept hg ?_
    rcases hne with h1 | h1
    · rw [h1]
      cases hv : va.ownBlock with
      | none => exact Or.inl rfl
      | some g => exact Or.inr (by intro h; cases h)
    · exact Or.inr h1
  refine ⟨⟨hva, hb1⟩, ⟨?_, hb1⟩, ?_⟩
  · have e : ((List.range (r + 1)).map fun j => Value.int .i64 (if j = r then v else B j)) = ((List.range r).map fun j => Value.int .i64 (B j)) ++ [.int .i64 v] := by
      rw [List.range_succ, List.map_append]
      congr 1
      · exact List.map_congr_left fun j hj => by have := List.mem_range.1 hj; rw [if_neg (by omega)]
      · simp
    rw [e]
    exact ho
  · cases hv : va.ownBlock with
    | none => exact Or.inl rfl
    | some g =>
      right
      have hlt := (ha.1.lt g hv).2
      rcases hat with h1 | h1
      · rw [h1]
        rcases hne with h2 | h2
        · rw [h2]; intro h; cases h
        · rw [← hv]; exact h2
      · rw [h1]
        intro h2
        injection h2 with h2
        simp at h2
        omega

end Go.Proofs.Ytfcpmpcfbhkacaa

/- As Mixed, where one operation waits for all others and comes last (a store of what was reckoned): behind it nothing need stay as it was. Plain: it speaks of no program. -/
namespace Go.Proofs.Ytfcpmpcfbhkacaa

set_option linter.unusedVariables false

variable {P : Program} {ops : Array Oper} {md : Region.Mode} {D : World → Prop}

/-- whatever order is picked, till all but the last are seen -/
def anyL (P : Program) (md : Region.Mode) (ops : Array Oper) (D : World → Prop) (sE : Array Bool) (R : Act → World → Prop) : Nat → Array Bool → Act → World → Prop
  | 0, seen, a, w => seen = sE ∧ R a w
  | f + 1, seen, a, w => Region.ready md ops seen ≠ [] ∧ ∀ i ∈ Region.ready md ops seen, wpOp P ops (endN R) i (fun a' w' => D w' ∧ anyL P md ops D sE R f (seen.setIfInBounds i true) a' w') a w

theorem any_of_anyL {R : Act → World → Prop} {Q : Exit → Act → World → Prop} {sE : Array Bool} {c : Nat} (hE : Region.ready md ops sE = [c]) (hE2 : Region.ready md ops (sE.setIfInBounds c true) = []) (hR : ∀ a w, R a w → wpOp P ops Q c (fun a' w' => Q .normal a' w') a w) (f : Nat) :
    ∀ (seen : Array Bool) (a : Act) (w : World), anyL P md ops D sE R f seen a w → wpAny P md ops Q (f + 1) seen a w := by
  induction f with
  | zero =>
    intro seen a w h
    obtain ⟨rfl, h⟩ := h
    refine ⟨fun h0 => (by rw [hE] at h0; cases h0), fun i hi => ?_⟩
    rw [hE] at hi
    obtain rfl : i = c := by simpa using hi
    exact wpOp_mono (fun a' w' h' => ⟨hE2, h'⟩) (hR a w h)
  | succ f ih =>
    intro seen a w h
    refine ⟨fun h0 => absurd h0 h.1, fun i hi => ?_⟩
    exact wpOp_ends (fun a' w' h' => ih _ a' w' h'.2) (h.2 i hi)

theorem anyL_first {R : Act → World → Prop} {sE : Array Bool} {c i : Nat} {oi oc : Oper} {v : Value} (hE : Region.ready md ops sE = [c]) (hc : ops[c]? = some oc) (hedge : ∃ e ∈ oc.after, Region.binds md e = true ∧ e.on = i)
    (hi : ops[i]? = some oi) (hsel : ∀ (j : Nat) (o : Oper) cs b, ops[j]? = some o → o.op ≠ .select cs b) (f : Nat) :
    ∀ (seen : Array Bool) (a : Act) (w : World), D w →
      (∀ j oj, ops[j]? = some oj → j ≠ i → seen.getD j true = false → (∀ e ∈ oj.after, Region.binds md e = true → e.on ≠ i) → oi.apart ops oj = true) →
      i ∈ Region.ready md ops seen → StillIn P ops D oi v a →
      anyL P md ops D sE R f (seen.setIfInBounds i true) (a.put oi.dst v) w → anyL P md ops D sE R (f + 1) seen a w := by
  induction f with
  | zero =>
    intro seen a w hD _ hr hy H
    refine ⟨List.ne_nil_of_mem hr, fun j hj => ?_⟩
    by_cases hji : j = i
    · subst hji; exact hy.wpOp hi hD ⟨hD, H⟩
    · have h1 := ready_mono hj hji
      rw [H.1, hE] at h1
      obtain rfl : j = c := by simpa using h1
      obtain ⟨hjun, oj, hoj, hall⟩ := mem_ready.1 hj
      rw [hc] at hoj
      injection hoj with hoj
      subst hoj
      obtain ⟨e, he, hb, hon⟩ := hedge
      have h2 := hall e he hb
      rw [hon, getD_both (mem_ready.1 hr).1] at h2
      cases h2
  | succ f ih =>
    intro seen a w hD hfree hr hy H
    refine ⟨List.ne_nil_of_mem hr, fun j hj => ?_⟩
    by_cases hji : j = i
    · subst hji; exact hy.wpOp hi hD ⟨hD, H⟩
    · have h1 := H.2 j (ready_mono hj hji)
      obtain ⟨hjun, oj, hoj, hall⟩ := mem_ready.1 hj
      have hun := (mem_ready.1 hr).1
      have hnot : ∀ e ∈ oj.after, Region.binds md e = true → e.on ≠ i := by
        intro e he hb heq
        have h2 := hall e he hb
        rw [heq, getD_both hun] at h2
        cases h2
      have h2 := wpOp_put hoj (hfree j oj hoj hji hjun hnot) (fun cs b => hsel i oi cs b hi) (fun cs b => hsel j oj cs b hoj) hy h1
      refine wpOp_mono (fun a' w' h3 => ⟨h3.2.1, ih (seen.setIfInBounds j true) a' w' h3.2.1 ?_ (ready_mono hr (Ne.symm hji)) h3.1 ?_⟩) h2
      · intro k ok hk hki hunk hno
        refine hfree k ok hk hki ?_ hno
        by_cases hjk : j = k
        · subst hjk
          exact hjun
        · rw [getD_set_ne true hjk] at hunk
          exact hunk
      · rw [Array.setIfInBounds_comm _ _ hji]
        exact h3.2.2

def ordL (md : Region.Mode) (ops : Array Oper) (c : Nat) : List (Nat × Bool) → Array Bool → Bool
  | [], seen => (Region.ready md ops seen == [c]) && (Region.ready md ops (seen.setIfInBounds c true)).isEmpty
  | (i, true) :: r, seen => (Region.ready md ops seen).contains i && Region.free md ops seen i && (match ops[c]? with | some o => o.after.any (fun e => Region.binds md e && e.on == i) | none => false) && ordL md ops c r (seen.setIfInBounds i true)
  | (i, false) :: r, seen => (Region.ready md ops seen == [i]) && ordL md ops c r (seen.setIfInBounds i true)

/-- what is seen behind a list of them -/
def seenBy : List (Nat × Bool) → Array Bool → Array Bool
  | [], seen => seen
  | (i, _) :: r, seen => seenBy r (seen.setIfInBounds i true)

theorem ordL_end {c : Nat} : ∀ (l : List (Nat × Bool)) (seen : Array Bool), ordL md ops c l seen = true → Region.ready md ops (seenBy l seen) = [c] ∧ Region.ready md ops ((seenBy l seen).setIfInBounds c true) = []
  | [], seen, h => by simpa [ordL, seenBy] using h
  | (i, true) :: r, seen, h => by
    simp only [ordL, Bool.and_eq_true] at h
    exact ordL_end r _ h.2
  | (i, false) :: r, seen, h => by
    simp only [ordL, Bool.and_eq_true] at h
    exact ordL_end r _ h.2

theorem anyL_of_walk {R : Act → World → Prop} {c : Nat} {sE : Array Bool} (hs : Region.noSelect ops = true) (hE : Region.ready md ops sE = [c]) : ∀ (l : List (Nat × Bool)) (seen : Array Bool) (a : Act) (w : World), D w → seenBy l seen = sE →
    ordL md ops c l seen = true → walkF P ops D R l a w → anyL P md ops D sE R l.length seen a w
  | [], _, _, _, _, hq, hB, h => ⟨hq, h⟩
  | (i, true) :: r, seen, a, w, hD, hq, hB, h => by
    simp only [ordL, Bool.and_eq_true] at hB
    obtain ⟨⟨⟨hr, hf⟩, he⟩, hB'⟩ := hB
    obtain ⟨o, v, ho, hy, hK⟩ := h
    cases hc : ops[c]? with
    | none => simp [hc] at he
    | some oc =>
      simp only [hc, Array.any_eq_true] at he
      obtain ⟨x, hx, hb⟩ := he
      simp only [Bool.and_eq_true, beq_iff_eq] at hb
      exact anyL_first hE hc ⟨oc.after[x], Array.getElem_mem hx, hb.1, hb.2⟩ ho (Region.noSelect_spec hs) r.length seen a w hD (Region.free_spec ho hf) (by simpa using hr) hy (anyL_of_walk hs hE r _ _ w hD hq hB' hK)
  | (i, false) :: r, seen, a, w, hD, hq, hB, h => by
    simp only [ordL, Bool.and_eq_true, beq_iff_eq] at hB
    obtain ⟨hr, hB'⟩ := hB
    refine ⟨by rw [hr]; exact List.cons_ne_nil _ _, fun j hj => ?_⟩
    rw [hr] at hj
    obtain rfl : j = i := by simpa using hj
    exact wpOp_mono (fun a' w' h' => ⟨h'.1, anyL_of_walk hs hE r _ a' w' h'.1 hq hB' h'.2⟩) h

/-- a region that draws its order, walked in one order, one operation behind all others -/
theorem region_mixed_last {id : Nat} {Q : Exit → Act → World → Prop} {a : Act} {w : World} {l : List Oper} (D : World → Prop) (s : List (List Nat × Nat)) (last : List Nat) (c : Nat) (hm : P.follows .mixedOrders = true)
    (hB : (Region.noSelect l.toArray && fitB l s last && (l[c]?).isSome && decide ((flatO s last).length + 1 = l.length) && ordL .any l.toArray c (flatO s last) (Array.replicate l.length false)) = true) (hD : D w.drew)
    (h : mixO P l D (fun a' w' => wpList P l.toArray Q (pickO l [c]) a' w') s last a w.drew) : (Code.region id l.toArray true).wp P Q a w := by
  simp only [Bool.and_eq_true, decide_eq_true_eq] at hB
  obtain ⟨⟨⟨⟨hsel, hf⟩, hcs⟩, hlen⟩, hord⟩ := hB
  obtain ⟨oc, hoc⟩ := Option.isSome_iff_exists.1 hcs
  obtain ⟨hE1, hE2⟩ := ordL_end _ _ hord
  refine wp_region_any hm ?_
  have h1 := anyL_of_walk (md := .any) (c := c) hsel hE1 (flatO s last) _ a w.drew hD rfl hord (walk_of_mix last s a w.drew hf h)
  have h2 := any_of_anyL (Q := Q) hE1 hE2 (fun a' w' h' => by
    have h0 : l.toArray[c]? = some oc := by simpa using hoc
    simp only [pickO, hoc, wpList] at h'
    unfold wpOp
    simp only [h0]
    exact h') _ _ _ _ h1
  rw [hlen] at h2
  simpa using h2

theorem mixO_last {l lq : List Oper} {lc : List Oper} {Q : Exit → Act → World → Prop} {last : List Nat} {c : Nat} {a : Act} {w : World} (h : wpQuiet P l.toArray (fun w' => ∃ u : Of D, w' = u.val) (fun a' => wpList P l.toArray Q lc a' w) lq a)
    (hq : pickO l last = lq := by simp only [pickO, List.getElem?_cons_zero, List.getElem?_cons_succ]; exact rfl) (hc : pickO l [c] = lc := by simp only [pickO, List.getElem?_cons_zero, List.getElem?_cons_succ]; exact rfl) : mixO P l D (fun a' w' => wpList P l.toArray Q (pickO l [c]) a' w') [] last a w := by
  subst hq hc
  exact h

end Go.Proofs.Ytfcpmpcfbhkacaa
