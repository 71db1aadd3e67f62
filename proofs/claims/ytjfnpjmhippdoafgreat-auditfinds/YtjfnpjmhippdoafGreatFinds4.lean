/- Several texts of one proof, in their order. -/
import Derived.Test.YtjfnpjmhippdoafGreatFinds2
import Derived.Test.YtjfnpjmhippdoafGreatFinds3
import Derived.Lib.SliceRun
import Derived.Laws.ResultCell
import Derived.Laws.Rows
import Derived.Test.YtjfnpjmhippdoafGreatFinds1
import Derived.Shelf.SlSortCmp.WholeK

/- What chapter 5's reference answers: does a version come from another one; what is behind a version; which are heads? -/
namespace Go.Proofs.YtjfnpjmhippdoafGreat

open Go.RowKit
set_option linter.unusedVariables false

/-- parents are elder versions -/
def Elder (n : Nat) (b : Bk) : Prop := ∀ k, k < n → ∀ i, i < b.PL k → 0 ≤ b.PX k i ∧ b.PX k i < (k : Int)

theorem parE_ok (k : Int) (X : Nat → Int) : ∀ f i last, parE k X f i last = 0 → (∀ j, i ≤ j → j < i + f → 0 ≤ X j ∧ X j < k ∧ last < X j) ∧ ∀ j, i ≤ j → j + 1 < i + f → X j < X (j + 1) := by
  intro f
  induction f with
  | zero => intro i last _; exact ⟨fun j h1 h2 => by omega, fun j h1 h2 => by omega⟩
  | succ f ih =>
    intro i last h
    simp only [parE] at h
    by_cases c1 : X i < 0 ∨ k ≤ X i
    · rw [if_pos c1] at h; omega
    · rw [if_neg c1] at h
      by_cases c2 : X i ≤ last
      · rw [if_pos c2] at h; omega
      · rw [if_neg c2] at h
        obtain ⟨h1, h2⟩ := ih (i + 1) (X i) h
        have c3 : ¬ X i < 0 := fun hh => c1 (Or.inl hh)
        have c4 : ¬ k ≤ X i := fun hh => c1 (Or.inr hh)
        refine ⟨fun j g1 g2 => ?_, fun j g1 g2 => ?_⟩
        · by_cases e : j = i
          · subst e; omega
          · have := h1 j (by omega) (by omega); omega
        · by_cases e : j = i
          · subst e; exact (h1 (j + 1) (by omega) (by omega)).2.2
          · exact h2 j (by omega) (by omega)

theorem scanV_ok (b : Bk) : ∀ f k, scanV b f k = 0 → ∀ j, k ≤ j → j < k + f → verE b j = 0 := by
  intro f
  induction f with
  | zero => intro k _ j h1 h2; omega
  | succ f ih =>
    intro k h j h1 h2
    simp only [scanV] at h
    by_cases c : verE b k = 0
    · rw [if_pos c] at h
      by_cases e : j = k
      · subst e; exact c
      · exact ih (k + 1) h j (by omega) (by omega)
    · rw [if_neg c] at h; exact absurd h c

/-- a right book -/
structure Right (n : Nat) (b : Bk) : Prop where
  le : n ≤ 12
  elder : Elder n b
  rise : ∀ k, k < n → ∀ i, i + 1 < b.PL k → b.PX k i < b.PX k (i + 1)
  plan : ∀ k, k < n → chkP (b.nd k) (b.of k) (b.sz k) = 0

theorem right_of {n : Nat} {b : Bk} (h : bookE n b = 0) : Right n b := by
  unfold bookE at h
  by_cases hn : n ≤ 12
  · rw [if_pos hn] at h
    have hall := scanV_ok b n 0 h
    have hp : ∀ k, k < n → parE k (b.PX k) (b.PL k) 0 (-1) = 0 ∧ chkP (b.nd k) (b.of k) (b.sz k) = 0 := fun k hk => by
      have h1 := hall k (Nat.zero_le _) (by omega)
      unfold verE at h1
      by_cases c : parE k (b.PX k) (b.PL k) 0 (-1) = 0
      · rw [if_pos c] at h1; exact ⟨c, h1⟩
      · rw [if_neg c] at h1; exact absurd h1 c
    refine ⟨hn, fun k hk i hi => ?_, fun k hk i hi => (parE_ok _ _ _ _ _ (hp k hk).1).2 i (Nat.zero_le _) (by omega), fun k hk => (hp k hk).2⟩
    have := (parE_ok _ _ _ _ _ (hp k hk).1).1 i (Nat.zero_le _) (by omega)
    omega
  · rw [if_neg hn] at h; omega

end Go.Proofs.YtjfnpjmhippdoafGreat

/- Own lists of ints, as lists. -/
namespace Go.Proofs.YtjfnpjmhippdoafGreat

open Go.RowKit
set_option linter.unusedVariables false

theorem owns_base {W : World} {base base' : Nat} {e : TypeId} {size : Nat} {v : Value} {k : Nat} {xs : List Value} (h : W.ownsRow base e size v k xs) (hb : base' ≤ base) : W.ownsRow base' e size v k xs := by
  obtain ⟨h1, h2⟩ := h
  refine ⟨h1, ?_⟩
  rcases h2 with h2 | ⟨g, cap, cur, hv, hg, hr⟩
  · exact Or.inl h2
  · exact Or.inr ⟨g, cap, cur, hv, Nat.le_trans hb hg, hr⟩

/-- an own list of ints, as a list -/
def OwnL (w0 wr : World) (v : Value) (l : List Int) : Prop := wr.ownsRow w0.heap.size 3 1 v l.length (l.map (Value.int .i64)) ∧ Below w0.heap.size w0 wr

theorem map_getD (l : List Int) : ((List.range l.length).map fun j => Value.int .i64 (l.getD j 0)) = l.map (Value.int .i64) := by
  apply List.ext_getElem (by simp)
  intro j h1 h2
  have hj : j < l.length := by simpa using h1
  simp [List.getD_eq_getElem?_getD, hj]

theorem OwnL.ownI {w0 wr : World} {v : Value} {l : List Int} (h : OwnL w0 wr v l) : OwnI w0 wr v l.length (fun j => l.getD j 0) := by
  refine ⟨?_, h.2⟩
  rw [map_getD]
  exact h.1

theorem OwnL.nil (w : World) : OwnL w w (.slice none 0 0) [] := ⟨World.ownsRow_nil _ _ _ _, Below.refl _ _⟩

theorem OwnL.up {w0 wr w' : World} {v : Value} {l : List Int} (h : OwnL w0 wr v l) (hb : Below wr.heap.size wr w') : OwnL w0 w' v l := ⟨owns_below h.1 hb, h.2.trans (hb.mono h.2.size)⟩

theorem OwnL.push {w0 wr w1 : World} {v v' : Value} {l : List Int} {x : Int} {o : Obj} (h : OwnL w0 wr v l)
    (ho : w1.ownsRow w0.heap.size 3 1 v' (l.length + 1) (l.map (Value.int .i64) ++ [.int .i64 x])) (hg : (wr.alloc o).grownBy w1 v.ownBlock) : OwnL w0 w1 v' (l ++ [x]) := by
  refine ⟨?_, ?_⟩
  · rw [List.length_append, List.map_append]
    exact ho
  · have hbA : Below w0.heap.size w0 (wr.alloc o) := h.2.alloc h.2.size o
    exact hbA.grown hg hbA.size (fun g hgg => (h.1.lt g hgg).1)

theorem OwnL.isl {w0 wr : World} {v : Value} {l : List Int} (h : OwnL w0 wr v l) (hr : l.length * 8 ≤ 140737488351232) : IntSl wr wr.heap.size v l.length (fun j => l.getD j 0) := by
  by_cases h0 : l.length = 0
  · obtain ⟨ad, cap, e⟩ := h.ownI.shape
    obtain ⟨_, h2⟩ := h.1
    rcases h2 with ⟨e1, _⟩ | ⟨g, cp, cur, e1, _, _, hc, _⟩
    · rw [e1, h0]; exact ⟨none, 0, rfl, ⟨Nat.le_refl _, by omega⟩, Or.inl rfl⟩
    · exact ⟨_, cp, e1, ⟨hc, hr⟩, Or.inl h0⟩
  · exact h.ownI.isl (by omega) hr

/-- a list of ints that was answered -/
def LiPost (w : World) (l : List Int) (er : Int) (e : Ending) (w' : World) : Prop :=
  Below w.heap.size w w' ∧ ∃ vo, e = .returned (.tuple #[vo, .int .i64 er]) ∧ IntSl w' w'.heap.size vo l.length (fun j => l.getD j 0)

theorem liPost_nil {w w' : World} {er : Int} (hb : Below w.heap.size w w') : LiPost w [] er (.returned (.tuple #[.slice none 0 0, .int .i64 er])) w' :=
  ⟨hb, _, rfl, none, 0, rfl, ⟨Nat.le_refl _, by simp⟩, Or.inl rfl⟩

end Go.Proofs.YtjfnpjmhippdoafGreat

/- What chapter 5's reference answers: what is behind a version; which are heads? -/
namespace Go.Proofs.YtjfnpjmhippdoafGreat

open Go.RowKit
set_option linter.unusedVariables false

theorem contains_sl {w : World} {B : Nat} {v : Value} {n : Nat} {X : Nat → Int} (h : IntSl w B v n X) (x : Int) :
    Calls Tryz.prog 15 #[v, .int .i64 x] w fun e w' => e = .returned (.bool (hasB X n x)) ∧ w' = w := by
  obtain ⟨ad, cap, rfl, ⟨h0, h1⟩, h2⟩ := h
  rcases h2 with rfl | ⟨b, off, rfl, _, h3⟩
  · exact contains_none ad cap x w
  · exact contains_any b off n cap X x w h1 h3

end Go.Proofs.YtjfnpjmhippdoafGreat

/- A region that draws its order, in which, behind what only reads, two operations can come up in either order; then one at a time alone. Plain: it speaks of no program. -/
namespace Go.Proofs.YtjfnpjmhippdoafGreat

set_option linter.unusedVariables false

variable {P : Program} {ops : Array Oper} {md : Region.Mode} {D : World → Prop}

theorem anyM_fork {R : Act → World → Prop} (hs : Region.noSelect ops = true) {c1 c2 : Nat} {rA rB : List (Nat × Bool)} {seen : Array Bool} {a : Act} {w : World} (hr : Region.ready md ops seen = [c1, c2]) (hl : rA.length = rB.length)
    (hA : ordB md ops rA (seen.setIfInBounds c1 true) = true) (hB : ordB md ops rB (seen.setIfInBounds c2 true) = true)
    (h1 : wpOp P ops (endN R) c1 (fun a' w' => D w' ∧ walkF P ops D R rA a' w') a w) (h2 : wpOp P ops (endN R) c2 (fun a' w' => D w' ∧ walkF P ops D R rB a' w') a w) :
    anyM P md ops D R (rA.length + 1) seen a w := by
  refine ⟨fun h0 => (by rw [h0] at hr; cases hr), fun j hj => ?_⟩
  rw [hr] at hj
  rcases List.mem_cons.1 hj with rfl | hj
  · exact wpOp_mono (fun a' w' h' => ⟨h'.1, anyM_of_walk hs rA _ a' w' h'.1 hA h'.2⟩) h1
  · obtain rfl : j = c2 := by simpa using hj
    rw [hl]
    exact wpOp_mono (fun a' w' h' => ⟨h'.1, anyM_of_walk hs rB _ a' w' h'.1 hB h'.2⟩) h2

def ordQ (md : Region.Mode) (ops : Array Oper) : List Nat → Array Bool → Bool
  | [], _ => true
  | i :: r, seen => (Region.ready md ops seen).contains i && Region.free md ops seen i && ordQ md ops r (seen.setIfInBounds i true)

def seenQ : List Nat → Array Bool → Array Bool
  | [], seen => seen
  | i :: r, seen => seenQ r (seen.setIfInBounds i true)

theorem anyM_quiet {l : List Oper} {R G : Act → World → Prop} {f : Nat} {w : World} (hs : Region.noSelect l.toArray = true) (hD : D w) : ∀ (q : List Nat) (seen : Array Bool) (a : Act), ordQ md l.toArray q seen = true →
    (q.all (fun i => match l[i]? with | some o => plainB o | none => false)) = true → (∀ a, G a w → anyM P md l.toArray D R f (seenQ q seen) a w) →
    wpQuiet P l.toArray (fun w' => ∃ u : Of D, w' = u.val) (fun a' => G a' w) (pickO l q) a → anyM P md l.toArray D R (f + q.length) seen a w
  | [], seen, a, _, _, hG, h => hG a h
  | i :: q, seen, a, ho, hq, hG, h => by
    simp only [List.all_cons, Bool.and_eq_true] at hq
    obtain ⟨h1, h2⟩ := hq
    simp only [ordQ, Bool.and_eq_true] at ho
    obtain ⟨⟨hr, hf⟩, ho'⟩ := ho
    cases hoi : l[i]? with
    | none => simp [hoi] at h1
    | some o =>
      simp only [hoi] at h1
      simp only [pickO, hoi] at h
      have h0 : l.toArray[i]? = some o := by simpa using hoi
      have hst : qOp P l.toArray (fun w' => ∃ u : Of D, w' = u.val) i (wpQuiet P l.toArray (fun w' => ∃ u : Of D, w' = u.val) (fun a' => G a' w) (pickO l q)) a := by unfold qOp; simp only [h0]; exact h
      obtain ⟨v, hy, hK⟩ := yieldsIn_of_qOp h0 hst
      exact anyM_first h0 (Region.noSelect_spec hs) (f + q.length) seen a w hD (Region.free_spec h0 hf) (by simpa using hr) (still_of_yields h1 hy) (anyM_quiet hs hD q _ _ ho' h2 hG hK)

theorem wpOp_of_mix {l : List Oper} {R : Act → World → Prop} {c : Nat} {r : List (List Nat × Nat)} {last : List Nat} {a : Act} {w : World} (hc : (l[c]?).isSome = true) (hf : fitB l r last = true)
    (h : wpList P l.toArray (endN fun a'' w'' => D w'' ∧ mixO P l D R r last a'' w'') (pickO l [c]) a w) : wpOp P l.toArray (endN R) c (fun a' w' => D w' ∧ walkF P l.toArray D R (flatO r last) a' w') a w := by
  obtain ⟨o, ho⟩ := Option.isSome_iff_exists.1 hc
  have h0 : l.toArray[c]? = some o := by simpa using ho
  simp only [pickO, ho, wpList] at h
  unfold wpOp
  simp only [h0]
  have hk : ∀ a'' w'', endN (fun a'' w'' => D w'' ∧ mixO P l D R r last a'' w'') .normal a'' w'' → D w'' ∧ walkF P l.toArray D R (flatO r last) a'' w'' := fun a'' w'' hh => ⟨hh.2.1, walk_of_mix last r a'' w'' hf hh.2.2⟩
  split
  · rename_i hw
    simp only [hw, if_true] at h
    rcases h with h | h
    · exact Or.inl (upon_ends (fun v w1 hh => hk _ _ hh) (fun d w1 hh => hk _ _ hh) h)
    · exact absurd h.2 letsOut_endN
  · rename_i hw
    simp only [hw] at h
    exact hk _ _ h

/-- a region that draws its order, with one fork -/
theorem region_fork {id : Nat} {Q : Exit → Act → World → Prop} {a : Act} {w : World} {l lq l1 l2 : List Oper} (D : World → Prop) (q : List Nat) (c1 c2 : Nat) (rA rB : List (List Nat × Nat)) (last : List Nat) (hm : P.follows .mixedOrders = true)
    (hB : (Region.noSelect l.toArray && q.all (fun i => match l[i]? with | some o => plainB o | none => false) && (l[c1]?).isSome && (l[c2]?).isSome && fitB l rA last && fitB l rB last && decide ((flatO rA last).length + 1 + q.length = l.length) && decide ((flatO rA last).length = (flatO rB last).length)
      && ordQ .any l.toArray q (Array.replicate l.length false) && (Region.ready .any l.toArray (seenQ q (Array.replicate l.length false)) == [c1, c2])
      && ordB .any l.toArray (flatO rA last) ((seenQ q (Array.replicate l.length false)).setIfInBounds c1 true) && ordB .any l.toArray (flatO rB last) ((seenQ q (Array.replicate l.length false)).setIfInBounds c2 true)) = true) (hD : D w.drew)
    (hq : pickO l q = lq) (h1 : pickO l [c1] = l1) (h2 : pickO l [c2] = l2)
    (h : wpQuiet P l.toArray (fun w' => ∃ u : Of D, w' = u.val) (fun a' =>
      (∀ K : Act → World → Prop, (∀ a'' w'', D w'' → mixO P l D (fun a' w' => Q .normal a' w') rA last a'' w'' → K a'' w'') → wpList P l.toArray (endN K) l1 a' w.drew) ∧
      (∀ K : Act → World → Prop, (∀ a'' w'', D w'' → mixO P l D (fun a' w' => Q .normal a' w') rB last a'' w'' → K a'' w'') → wpList P l.toArray (endN K) l2 a' w.drew)) lq a) : (Code.region id l.toArray true).wp P Q a w := by
  subst hq h1 h2
  simp only [Bool.and_eq_true, decide_eq_true_eq, beq_iff_eq] at hB
  obtain ⟨⟨⟨⟨⟨⟨⟨⟨⟨⟨⟨hsel, hq⟩, hc1⟩, hc2⟩, hfA⟩, hfB⟩, hlen⟩, hll⟩, hoq⟩, hrd⟩, hoA⟩, hoB⟩ := hB
  refine wp_region_any hm ?_
  have h3 := anyM_quiet (md := .any) (f := (flatO rA last).length + 1) (R := fun a' w' => Q .normal a' w') (w := w.drew)
    (G := fun a' w => (∀ K : Act → World → Prop, (∀ a'' w'', D w'' → mixO P l D (fun a' w' => Q .normal a' w') rA last a'' w'' → K a'' w'') → wpList P l.toArray (endN K) (pickO l [c1]) a' w) ∧
      (∀ K : Act → World → Prop, (∀ a'' w'', D w'' → mixO P l D (fun a' w' => Q .normal a' w') rB last a'' w'' → K a'' w'') → wpList P l.toArray (endN K) (pickO l [c2]) a' w)) hsel hD q _ a hoq hq
    (fun a' ha => anyM_fork hsel hrd hll hoA hoB (wpOp_of_mix hc1 hfA (ha.1 _ fun a'' w'' g1 g2 => ⟨g1, g2⟩)) (wpOp_of_mix hc2 hfB (ha.2 _ fun a'' w'' g1 g2 => ⟨g1, g2⟩))) h
  rw [hlen] at h3
  have h4 := any_of_anyM (Q := Q) (fun _ _ h => h) _ _ _ _ h3
  simpa using h4

end Go.Proofs.YtjfnpjmhippdoafGreat

/- A region that draws its order, walked through all orders of what lays memory or calls, what only reads taken first. Plain: it speaks of no program. -/
namespace Go.Proofs.YtjfnpjmhippdoafGreat

set_option linter.unusedVariables false

variable {P : Program} {D : World → Prop}

end Go.Proofs.YtjfnpjmhippdoafGreat

/- Lists of versions that a call makes itself: cloned, grown by one. -/
namespace Go.Proofs.YtjfnpjmhippdoafGreat

open Go.RowKit
set_option linter.unusedVariables false

/-- cell number i of a list of versions -/
def cellV (PV : Nat → Value) (b : Bk) (i : Nat) : Value :=
  if i % 4 = 0 then PV (i / 4) else if i % 4 = 1 then .int .i64 (b.nd (i / 4)) else if i % 4 = 2 then .int .i64 (b.of (i / 4)) else .int .i64 (b.sz (i / 4))
def flatV (n : Nat) (PV : Nat → Value) (b : Bk) : List Value := (List.range (n * 4)).map (cellV PV b)

theorem flatV_len (n : Nat) (PV : Nat → Value) (b : Bk) : (flatV n PV b).length = n * 4 := by simp [flatV]

theorem flatV_get (n : Nat) (PV : Nat → Value) (b : Bk) (i : Nat) : (flatV n PV b)[i]? = if i < n * 4 then some (cellV PV b i) else none := by
  unfold flatV
  by_cases h : i < n * 4
  · simp [h]
  · simp [h]

theorem flatV_congr {n : Nat} {PV PV' : Nat → Value} {b b' : Bk} (h : ∀ j, j < n → PV' j = PV j ∧ b'.nd j = b.nd j ∧ b'.of j = b.of j ∧ b'.sz j = b.sz j) : flatV n PV' b' = flatV n PV b := by
  refine List.map_congr_left fun i hi => ?_
  have hi' := List.mem_range.1 hi
  obtain ⟨h1, h2, h3, h4⟩ := h (i / 4) (by omega)
  unfold cellV
  rw [h1, h2, h3, h4]

theorem flatV_succ (n : Nat) (PV : Nat → Value) (b : Bk) : flatV (n + 1) PV b = flatV n PV b ++ [PV n, .int .i64 (b.nd n), .int .i64 (b.of n), .int .i64 (b.sz n)] := by
  have e : (n + 1) * 4 = n * 4 + 1 + 1 + 1 + 1 := by omega
  unfold flatV
  rw [e, List.range_succ, List.range_succ, List.range_succ, List.range_succ]
  simp only [List.map_append, List.map_cons, List.map_nil, List.append_assoc, List.cons_append, List.nil_append]
  have c0 : cellV PV b (n * 4) = PV n := by unfold cellV; rw [if_pos (by omega), show n * 4 / 4 = n by omega]
  have c1 : cellV PV b (n * 4 + 1) = .int .i64 (b.nd n) := by unfold cellV; rw [if_neg (by omega), if_pos (by omega), show (n * 4 + 1) / 4 = n by omega]
  have c2 : cellV PV b (n * 4 + 1 + 1) = .int .i64 (b.of n) := by unfold cellV; rw [if_neg (by omega), if_neg (by omega), if_pos (by omega), show (n * 4 + 1 + 1) / 4 = n by omega]
  have c3 : cellV PV b (n * 4 + 1 + 1 + 1) = .int .i64 (b.sz n) := by unfold cellV; rw [if_neg (by omega), if_neg (by omega), if_neg (by omega), show (n * 4 + 1 + 1 + 1) / 4 = n by omega]
  rw [c0, c1, c2, c3]

/-- a list of versions of the call's own -/
def OwnV (w0 wr : World) (v : Value) (n : Nat) (PV : Nat → Value) (b : Bk) : Prop := wr.ownsRow w0.heap.size 60 4 v n (flatV n PV b) ∧ Below w0.heap.size w0 wr

theorem OwnV.nil (w : World) (PV : Nat → Value) (b : Bk) : OwnV w w (.slice none 0 0) 0 PV b := ⟨World.ownsRow_nil _ _ _ _, Below.refl _ _⟩

theorem OwnV.up {w0 wr w' : World} {v : Value} {n : Nat} {PV : Nat → Value} {b : Bk} (h : OwnV w0 wr v n PV b) (hb : Below wr.heap.size wr w') : OwnV w0 w' v n PV b := ⟨owns_below h.1 hb, h.2.trans (hb.mono h.2.size)⟩

theorem OwnV.shl {w0 wr : World} {v : Value} {n : Nat} {PV : Nat → Value} {b : Bk} (h : OwnV w0 wr v n PV b) (hr : n * 48 ≤ 140737488351232) (hi : ∀ j, j < n → IntSl wr wr.heap.size (PV j) (b.PL j) (b.PX j)) : VeSl wr wr.heap.size v n PV b := by
  obtain ⟨⟨hl, h2⟩, hb⟩ := h
  rcases h2 with ⟨rfl, h0⟩ | ⟨g, cap, cur, rfl, hg, hh, hc1, hc2, hsz, hcur⟩
  · subst h0; exact ⟨none, 0, rfl, ⟨Nat.le_refl _, by omega⟩, Or.inl rfl⟩
  · refine ⟨_, cap, rfl, ⟨hc1, hr⟩, Or.inr ⟨g, 0, rfl, (Array.getElem?_eq_some_iff.1 hh).1, fun j hj => ?_⟩⟩
    have key : ∀ i, i < n * 4 → wr.cell? ⟨g, i, none⟩ = some (cellV PV b i) := fun i hi => by
      have h3 := flatV_get n PV b i
      rw [if_pos hi, ← hcur, List.getElem?_take, if_pos hi] at h3
      exact cell_at hh (by simpa using h3)
    rw [Nat.zero_add]
    refine ⟨?_, ?_, ?_, ?_, hi j hj⟩
    · rw [key (j * 4) (by omega)]; unfold cellV; rw [if_pos (by omega), show j * 4 / 4 = j by omega]
    · rw [key (j * 4 + 1) (by omega)]; unfold cellV; rw [if_neg (by omega), if_pos (by omega), show (j * 4 + 1) / 4 = j by omega]
    · rw [key (j * 4 + 2) (by omega)]; unfold cellV; rw [if_neg (by omega), if_neg (by omega), if_pos (by omega), show (j * 4 + 2) / 4 = j by omega]
    · rw [key (j * 4 + 3) (by omega)]; unfold cellV; rw [if_neg (by omega), if_neg (by omega), if_neg (by omega), show (j * 4 + 3) / 4 = j by omega]

theorem Tryz.infoVer : (Tryz.prog.info? 60).map (fun i => (i.zero, i.size, i.bytes)) = some (some (.agg #[.slice none 0 0, .int .i64 0, .int .i64 0, .int .i64 0]), 4, 48) := by kernel_rfl

/-- one more version behind n -/
def snocB (n : Nat) (b : Bk) (l : Nat) (X : Nat → Int) (nd of sz : Int) : Bk :=
  ⟨fun j => if j = n then l else b.PL j, fun j => if j = n then X else b.PX j, fun j => if j = n then nd else b.nd j, fun j => if j = n then of else b.of j, fun j => if j = n then sz else b.sz j⟩
def snocP (n : Nat) (PV : Nat → Value) (pv : Value) (j : Nat) : Value := if j = n then pv else PV j

/-- what keeps a version from being added -/
def addE (n : Nat) (b b' : Bk) : Int := if bookE n b = 0 then bookE (n + 1) b' else bookE n b

theorem cells_four (w : World) (v0 v1 v2 v3 : Value) (T : TypeId) : ∀ j u, ([v0, v1, v2, v3] : List Value)[j]? = some u → (w.alloc (.cells #[v0, v1, v2, v3] T)).cell? (Addr.add ⟨w.heap.size, 0, none⟩ j) = some u := by
  intro j u hj
  rw [Addr.add_lit]
  match j, hj with
  | 0, hj => simp at hj; subst hj; exact cell_at (heap_alloc_new _ _) rfl
  | 1, hj => simp at hj; subst hj; exact cell_at (heap_alloc_new _ _) rfl
  | 2, hj => simp at hj; subst hj; exact cell_at (heap_alloc_new _ _) rfl
  | 3, hj => simp at hj; subst hj; exact cell_at (heap_alloc_new _ _) rfl

theorem owns_ne {w : World} {base : Nat} {e t : TypeId} {size : Nat} {v : Value} {n : Nat} {xs : List Value} {bm : Nat} {cs : Array Value} (h : w.ownsRow base e size v n xs) (hm : w.heap[bm]? = some (.cells cs t (0, 0))) (ht : e ≠ t) : v.ownBlock ≠ some bm := by
  obtain ⟨_, h2⟩ := h
  rcases h2 with ⟨rfl, _⟩ | ⟨g, cap, cur, rfl, _, hh, _⟩
  · intro e; cases e
  · intro e1
    injection e1 with e1
    have e2 : g = bm := e1
    subst e2
    rw [hm] at hh
    injection hh with hh
    injection hh with _ h3 _
    exact ht h3.symm

theorem owns_sliceV {w : World} {base : Nat} {e : TypeId} {size : Nat} {v : Value} {n : Nat} {xs : List Value} (h : w.ownsRow base e size v n xs) : ∃ a c, v = .slice a n c := by
  obtain ⟨_, h2⟩ := h
  rcases h2 with ⟨h1, h0⟩ | ⟨g, cap, cur, h1, _⟩
  · exact ⟨none, 0, by rw [h0]; exact h1⟩
  · exact ⟨_, _, h1⟩

theorem owns_set_other {w : World} {base : Nat} {e : TypeId} {size : Nat} {v : Value} {n : Nat} {xs : List Value} {g o : Nat} (h : w.ownsRow base e size v n xs) (hne : v.ownBlock ≠ some g) (u : Value) : (w.setCell ⟨g, o, none⟩ u).ownsRow base e size v n xs := by
  obtain ⟨h1, h2⟩ := h
  refine ⟨h1, ?_⟩
  rcases h2 with h2 | ⟨g', cap, cur, rfl, hg, hh, hr⟩
  · exact Or.inl h2
  · refine Or.inr ⟨g', cap, cur, rfl, hg, ?_, hr⟩
    rw [Below.heap_setCell _ _ _ _ (fun e => hne (by rw [← show g' = g from e]; rfl))]
    exact hh

theorem rowV_shl {wr : World} {base : Nat} {v : Value} {n : Nat} {PV : Nat → Value} {b : Bk} (h : wr.ownsRow base 60 4 v n (flatV n PV b)) (hr : n * 48 ≤ 140737488351232) (hi : ∀ j, j < n → IntSl wr wr.heap.size (PV j) (b.PL j) (b.PX j)) : VeSl wr wr.heap.size v n PV b := by
  obtain ⟨hl, h2⟩ := h
  rcases h2 with ⟨rfl, h0⟩ | ⟨g, cap, cur, rfl, hg, hh, hc1, hc2, hsz, hcur⟩
  · subst h0; exact ⟨none, 0, rfl, ⟨Nat.le_refl _, by omega⟩, Or.inl rfl⟩
  · refine ⟨_, cap, rfl, ⟨hc1, hr⟩, Or.inr ⟨g, 0, rfl, (Array.getElem?_eq_some_iff.1 hh).1, fun j hj => ?_⟩⟩
    have key : ∀ i, i < n * 4 → wr.cell? ⟨g, i, none⟩ = some (cellV PV b i) := fun i hi => by
      have h3 := flatV_get n PV b i
      rw [if_pos hi, ← hcur, List.getElem?_take, if_pos hi] at h3
      exact cell_at hh (by simpa using h3)
    rw [Nat.zero_add]
    refine ⟨?_, ?_, ?_, ?_, hi j hj⟩
    · rw [key (j * 4) (by omega)]; unfold cellV; rw [if_pos (by omega), show j * 4 / 4 = j by omega]
    · rw [key (j * 4 + 1) (by omega)]; unfold cellV; rw [if_neg (by omega), if_pos (by omega), show (j * 4 + 1) / 4 = j by omega]
    · rw [key (j * 4 + 2) (by omega)]; unfold cellV; rw [if_neg (by omega), if_neg (by omega), if_pos (by omega), show (j * 4 + 2) / 4 = j by omega]
    · rw [key (j * 4 + 3) (by omega)]; unfold cellV; rw [if_neg (by omega), if_neg (by omega), if_neg (by omega), show (j * 4 + 3) / 4 = j by omega]

theorem set_one {w : World} {g : Nat} {v : Value} {T : TypeId} (h : w.heap[g]? = some (.cells #[v] T (0, 0))) (u : Value) : (w.setCell ⟨g, 0, none⟩ u).heap[g]? = some (.cells #[u] T (0, 0)) := by
  simp [World.setCell, Array.getElem?_modify, h]

theorem results_cell2 {P : Program} {fn : Func} {p u : Tmp} {ty : TypeId} (h : fn.results = #[.cell p ty, .tmp u]) (tmps : Array Value) (w : World) (g : Nat) (t : TypeId) (cs : Array Value) (fr : Nat × Nat) (d : TypeDesc)
    (hp : tmps.getD p undef = .pointer (some ⟨g, 0, none⟩)) (hg : w.heap[g]? = some (.cells cs t fr))
    (hu : P.underlying ty = some d) (hd : (match d with | .struct _ | .array _ _ => true | _ => false) = true) (hi : (P.info? ty).map (·.size) = some cs.size) :
    (results fn tmps).run P w = .ok (.tuple #[.agg cs, tmps.getD u undef]) w := by
  rw [results_cell_tmp h, hp]
  simp [asAddr, run_loadVar_row w g t ty cs fr d hg hu hd hi]

end Go.Proofs.YtjfnpjmhippdoafGreat

/- What chapter 7's reference answers: a peer's error, where it keeps a version, are two peers alike? -/
namespace Go.Proofs.YtjfnpjmhippdoafGreat

open Go.RowKit
set_option linter.unusedVariables false

theorem three_at {w : World} {g : Nat} {T : TypeId} {u0 u1 u2 : Value} (h : w.heap[g]? = some (.cells #[u0, u1, u2] T (0, 0))) :
    w.cell? ⟨g, 0, none⟩ = some u0 ∧ w.cell? ⟨g, 1, none⟩ = some u1 ∧ w.cell? ⟨g, 2, none⟩ = some u2 := ⟨cell_at h rfl, cell_at h rfl, cell_at h rfl⟩

end Go.Proofs.YtjfnpjmhippdoafGreat

/- The family that the closed facts of chapter 7 on speak of. -/
namespace Go.Proofs.YtjfnpjmhippdoafGreat

open Go.RowKit
set_option linter.unusedVariables false

end Go.Proofs.YtjfnpjmhippdoafGreat

/- Three cells of a block, written anew; the kept one of the closed facts. -/
namespace Go.Proofs.YtjfnpjmhippdoafGreat

open Go.RowKit
set_option linter.unusedVariables false

theorem set_three {w : World} {g : Nat} {v0 v1 v2 : Value} {T : TypeId} (h : w.heap[g]? = some (.cells #[v0, v1, v2] T (0, 0))) (u : Value) : (w.setCell ⟨g, 2, none⟩ u).heap[g]? = some (.cells #[v0, v1, u] T (0, 0)) := by
  simp [World.setCell, Array.getElem?_modify, h]

def put3 (w : World) (g : Nat) (u0 u1 u2 : Value) : World := ((w.setCell ⟨g, 0, none⟩ u0).setCell ⟨g, 1, none⟩ u1).setCell ⟨g, 2, none⟩ u2

theorem put3_whole {w : World} {g : Nat} {T : TypeId} {v0 v1 v2 : Value} (h : w.heap[g]? = some (.cells #[v0, v1, v2] T (0, 0))) (u0 u1 u2 : Value) : (put3 w g u0 u1 u2).heap[g]? = some (.cells #[u0, u1, u2] T (0, 0)) := by
  simp [put3, World.setCell, Array.getElem?_modify, h]

theorem put3_below {B : Nat} {w w5 : World} {g : Nat} {u0 u1 u2 : Value} (hb : Below B w w5) (hg : B ≤ g) : Below B w (put3 w5 g u0 u1 u2) :=
  ((hb.setCell (p := ⟨g, 0, none⟩) hg _).setCell (p := ⟨g, 1, none⟩) hg _).setCell (p := ⟨g, 2, none⟩) hg _

theorem put3_other {w5 : World} {g k : Nat} {u0 u1 u2 : Value} (h : k ≠ g) : (put3 w5 g u0 u1 u2).heap[k]? = w5.heap[k]? := by
  unfold put3
  rw [Below.heap_setCell _ _ _ _ h, Below.heap_setCell _ _ _ _ h, Below.heap_setCell _ _ _ _ h]

theorem drewK_below (w : World) (k : Nat) : Below w.heap.size w (w.drewN k) := ⟨rfl, rfl, rfl, Nat.le_refl _, fun _ _ => rfl⟩

theorem drew_below (w : World) : Below w.heap.size w w.drew := ⟨rfl, rfl, rfl, Nat.le_refl _, fun _ _ => rfl⟩

theorem stayB {w w' : World} {g : Nat} {o : Obj} (h : w.heap[g]? = some o) (hb : Below w.heap.size w w') : w'.heap[g]? = some o := by
  rw [hb.block _ (Array.getElem?_eq_some_iff.1 h).1]; exact h

end Go.Proofs.YtjfnpjmhippdoafGreat

/- Lists of kept ones that a call makes itself; what a peer keeps without a version. -/
namespace Go.Proofs.YtjfnpjmhippdoafGreat

open Go.RowKit
set_option linter.unusedVariables false

/-- the cells of the kept ones at these places -/
def flatI (UV : Nat → Value) (t : Kt) (l : List Nat) : List Value := l.flatMap fun i => [.int .i64 (t.V i), .int .i64 (t.N i), UV i]

theorem flatI_len (UV : Nat → Value) (t : Kt) (l : List Nat) : (flatI UV t l).length = l.length * 3 := by
  induction l with
  | nil => rfl
  | cons x l ih => simp only [flatI, List.flatMap_cons, List.length_append, List.length_cons, List.length_nil] at *; omega

theorem flatI_snoc (UV : Nat → Value) (t : Kt) (l : List Nat) (i : Nat) : flatI UV t (l ++ [i]) = flatI UV t l ++ [.int .i64 (t.V i), .int .i64 (t.N i), UV i] := by
  simp [flatI]

theorem flatI_get (UV : Nat → Value) (t : Kt) : ∀ (l : List Nat) (j : Nat), j < l.length → (flatI UV t l)[j * 3]? = some (.int .i64 (t.V (l.getD j 0))) ∧ (flatI UV t l)[j * 3 + 1]? = some (.int .i64 (t.N (l.getD j 0))) ∧ (flatI UV t l)[j * 3 + 2]? = some (UV (l.getD j 0)) := by
  intro l
  induction l with
  | nil => intro j hj; simp at hj
  | cons x l ih =>
    intro j hj
    have e : flatI UV t (x :: l) = [.int .i64 (t.V x), .int .i64 (t.N x), UV x] ++ flatI UV t l := by simp [flatI]
    rw [e]
    cases j with
    | zero => exact ⟨rfl, rfl, rfl⟩
    | succ j =>
      obtain ⟨h1, h2, h3⟩ := ih j (by simpa using hj)
      have a1 : (j + 1) * 3 = 3 + j * 3 := by omega
      have key : ∀ c, ([Value.int .i64 (t.V x), .int .i64 (t.N x), UV x] ++ flatI UV t l)[3 + j * 3 + c]? = (flatI UV t l)[j * 3 + c]? := fun c => by
        rw [List.getElem?_append_right (by simp; omega)]
        simp only [List.length_cons, List.length_nil]
        congr 1
        omega
      rw [a1]
      refine ⟨?_, ?_, ?_⟩
      · have := key 0; rw [Nat.add_zero, Nat.add_zero] at this; rw [this, h1]; rfl
      · rw [key 1, h2]; rfl
      · rw [key 2, h3]; rfl

/-- those at these places -/
def selT (t : Kt) (l : List Nat) : Kt := ⟨fun j => t.V (l.getD j 0), fun j => t.N (l.getD j 0), fun j => t.L (l.getD j 0), fun j => t.X (l.getD j 0)⟩

/-- an own list of kept ones, those at these places -/
def OwnT (w0 wr : World) (v : Value) (UV : Nat → Value) (t : Kt) (l : List Nat) : Prop := wr.ownsRow w0.heap.size 50 3 v l.length (flatI UV t l) ∧ Below w0.heap.size w0 wr

theorem OwnT.nil (w : World) (UV : Nat → Value) (t : Kt) : OwnT w w (.slice none 0 0) UV t [] := ⟨World.ownsRow_nil _ _ _ _, Below.refl _ _⟩

theorem OwnT.up {w0 wr w' : World} {v : Value} {UV : Nat → Value} {t : Kt} {l : List Nat} (h : OwnT w0 wr v UV t l) (hb : Below wr.heap.size wr w') : OwnT w0 w' v UV t l := ⟨owns_below h.1 hb, h.2.trans (hb.mono h.2.size)⟩

theorem OwnT.push {w0 wr w1 : World} {v v' : Value} {UV : Nat → Value} {t : Kt} {l : List Nat} {i : Nat} (h : OwnT w0 wr v UV t l)
    (ho : w1.ownsRow w0.heap.size 50 3 v' (l.length + 1) (flatI UV t l ++ [.int .i64 (t.V i), .int .i64 (t.N i), UV i])) (hg : wr.grownBy w1 v.ownBlock) : OwnT w0 w1 v' UV t (l ++ [i]) := by
  refine ⟨?_, h.2.grown hg h.2.size (fun g hgg => (h.1.lt g hgg).1)⟩
  rw [List.length_append, flatI_snoc]
  exact ho

theorem rowT_kel {wr : World} {base : Nat} {v : Value} {UV : Nat → Value} {t : Kt} {l : List Nat} (h : wr.ownsRow base 50 3 v l.length (flatI UV t l)) (hr : l.length * 40 ≤ 140737488351232) (hi : ∀ i, i ∈ l → IntSl wr wr.heap.size (UV i) (t.L i) (t.X i)) : KeSl wr wr.heap.size v l.length (fun j => UV (l.getD j 0)) (selT t l) := by
  obtain ⟨hl, h2⟩ := h
  rcases h2 with ⟨rfl, h0⟩ | ⟨g, cap, cur, rfl, hg, hh, hc1, hc2, hsz, hcur⟩
  · rw [h0]; exact ⟨none, 0, rfl, ⟨Nat.le_refl _, by omega⟩, Or.inl rfl⟩
  · refine ⟨_, cap, rfl, ⟨hc1, hr⟩, Or.inr ⟨g, 0, rfl, (Array.getElem?_eq_some_iff.1 hh).1, fun j hj => ?_⟩⟩
    have key : ∀ i u, i < l.length * 3 → (flatI UV t l)[i]? = some u → wr.cell? ⟨g, i, none⟩ = some u := fun i u hi h3 => by
      rw [← hcur, List.getElem?_take, if_pos hi] at h3
      exact cell_at hh (by simpa using h3)
    obtain ⟨q1, q2, q3⟩ := flatI_get UV t l j hj
    rw [Nat.zero_add]
    refine ⟨key _ _ (by omega) q1, key _ _ (by omega) q2, key _ _ (by omega) q3, hi _ ?_⟩
    rw [List.getD_eq_getElem?_getD, List.getElem?_eq_getElem hj]
    exact List.getElem_mem hj

theorem Tryz.infoKept : (Tryz.prog.info? 50).map (fun i => (i.zero, i.size, i.bytes)) = some (some (.agg #[.int .i64 0, .int .i64 0, .slice none 0 0]), 3, 40) := by kernel_rfl

theorem cells_three (w : World) (v0 v1 v2 : Value) (T : TypeId) : ∀ j u, ([v0, v1, v2] : List Value)[j]? = some u → (w.alloc (.cells #[v0, v1, v2] T)).cell? (Addr.add ⟨w.heap.size, 0, none⟩ j) = some u := by
  intro j u hj
  rw [Addr.add_lit]
  match j, hj with
  | 0, hj => simp at hj; subst hj; exact cell_at (heap_alloc_new _ _) rfl
  | 1, hj => simp at hj; subst hj; exact cell_at (heap_alloc_new _ _) rfl
  | 2, hj => simp at hj; subst hj; exact cell_at (heap_alloc_new _ _) rfl

/-- the places of all but this version -/
def butL (t : Kt) (ver : Int) (m : Nat) : List Nat := (List.range m).filter fun j => t.V j != ver

theorem butL_len (t : Kt) (ver : Int) (m : Nat) : (butL t ver m).length ≤ m := by
  unfold butL
  refine Nat.le_trans (List.length_filter_le _ _) ?_
  simp

theorem butL_lt {t : Kt} {ver : Int} {m i : Nat} (h : i ∈ butL t ver m) : i < m := by
  unfold butL at h
  exact List.mem_range.1 (List.mem_filter.1 h).1

end Go.Proofs.YtjfnpjmhippdoafGreat

/- Kept ones cloned; sorted by their versions. -/
namespace Go.Proofs.YtjfnpjmhippdoafGreat

open Go.RowKit
set_option linter.unusedVariables false

theorem flatI_one {UV : Nat → Value} {t : Kt} {l : List Nat} (h : ∀ i, i ∈ l → (UV i).oneCell' = true) : ∀ u ∈ flatI UV t l, u.oneCell' = true := by
  intro u hu
  unfold flatI at hu
  obtain ⟨i, hi, hu⟩ := List.mem_flatMap.1 hu
  simp only [List.mem_cons, List.not_mem_nil, or_false] at hu
  rcases hu with rfl | rfl | rfl
  · rfl
  · rfl
  · exact h i hi

end Go.Proofs.YtjfnpjmhippdoafGreat

/- An empty head: this dump sorts no kept ones. -/


/- Kept ones sorted by their versions: the library's SortFunc. -/
namespace Go.Proofs.YtjfnpjmhippdoafGreat

open Go.RowKit Go.Shelf Go.Lib Go.Sort
set_option linter.unusedVariables false

/-- a row of K kept ones that is told by places, at the head of block g -/
structure RowK (wr : World) (g K : Nat) (UV : Nat → Value) (t : Kt) (l : List Nat) : Prop where
  len : l.length = K
  cell : ∀ j, j < K → wr.cell? ⟨g, j * 3, none⟩ = some (.int .i64 (t.V (l.getD j 0))) ∧ wr.cell? ⟨g, j * 3 + 1, none⟩ = some (.int .i64 (t.N (l.getD j 0))) ∧ wr.cell? ⟨g, j * 3 + 2, none⟩ = some (UV (l.getD j 0))
  free : ∀ i, i < K * 3 → wr.frozen? ⟨g, i, none⟩ = false
  lt : g < wr.heap.size

end Go.Proofs.YtjfnpjmhippdoafGreat

/- As Mixed, where one operation waits for all others and comes last (a store of what was reckoned): behind it nothing need stay as it was. Plain: it speaks of no program. -/
namespace Go.Proofs.YtjfnpjmhippdoafGreat

set_option linter.unusedVariables false

variable {P : Program} {ops : Array Oper} {md : Region.Mode} {D : World → Prop}

/-- whatever order is picked, till all but the last are seen -/
def anyL (P : Program) (md : Region.Mode) (ops : Array Oper) (D : World → Prop) (sE : Array Bool) (R : Act → World → Prop) : Nat → Array Bool → Act → World → Prop
  | 0, seen, a, w => seen = sE ∧ R a w
  | f + 1, seen, a, w => Region.ready md ops seen ≠ [] ∧ ∀ i ∈ Region.ready md ops seen, wpOp P ops (endN R) i (fun a' w' => D w' ∧ anyL P md ops D sE R f (seen.setIfInBounds i true) a' w') a w

theorem any_of_anyL {R : Act → World → Prop} {Q : Exit → Act → World → Prop} {sE : Array Bool} {c : Nat} (hE : Region.ready md ops sE = [c]) (hE2 : Region.ready md ops (sE.setIfInBounds c true) = []) (hR : ∀ a w, R a w → wpOp P ops Q c (fun a' w' => Q .normal a' w') a w) (f : Nat) :
    ∀ (seen : Array Bool) (a : Act) (w : World), anyL P md ops D sE R f seen a w → wpAny P md ops Q (f + 1) seen a w := by
  induction f with
  | zero =>
    intro seen a w h
    obtain ⟨rfl, h⟩ := h
    refine ⟨fun h0 => (by rw [hE] at h0; cases h0), fun i hi => ?_⟩
    rw [hE] at hi
    obtain rfl : i = c := by simpa using hi
    exact wpOp_mono (fun a' w' h' => ⟨hE2, h'⟩) (hR a w h)
  | succ f ih =>
    intro seen a w h
    refine ⟨fun h0 => absurd h0 h.1, fun i hi => ?_⟩
    exact wpOp_ends (fun a' w' h' => ih _ a' w' h'.2) (h.2 i hi)

theorem anyL_first {R : Act → World → Prop} {sE : Array Bool} {c i : Nat} {oi oc : Oper} {v : Value} (hE : Region.ready md ops sE = [c]) (hc : ops[c]? = some oc) (hedge : ∃ e ∈ oc.after, Region.binds md e = true ∧ e.on = i)
    (hi : ops[i]? = some oi) (hsel : ∀ (j : Nat) (o : Oper) cs b, ops[j]? = some o → o.op ≠ .select cs b) (f : Nat) :
    ∀ (seen : Array Bool) (a : Act) (w : World), D w →
      (∀ j oj, ops[j]? = some oj → j ≠ i → seen.getD j true = false → (∀ e ∈ oj.after, Region.binds md e = true → e.on ≠ i) → oi.apart ops oj = true) →
      i ∈ Region.ready md ops seen → StillIn P ops D oi v a →
      anyL P md ops D sE R f (seen.setIfInBounds i true) (a.put oi.dst v) w → anyL P md ops D sE R (f + 1) seen a w := by
  induction f with
  | zero =>
    intro seen a w hD _ hr hy H
    refine ⟨List.ne_nil_of_mem hr, fun j hj => ?_⟩
    by_cases hji : j = i
    · subst hji; exact hy.wpOp hi hD ⟨hD, H⟩
    · have h1 := ready_mono hj hji
      rw [H.1, hE] at h1
      obtain rfl : j = c := by simpa using h1
      obtain ⟨hjun, oj, hoj, hall⟩ := mem_ready.1 hj
      rw [hc] at hoj
      injection hoj with hoj
      subst hoj
      obtain ⟨e, he, hb, hon⟩ := hedge
      have h2 := hall e he hb
      rw [hon, getD_both (mem_ready.1 hr).1] at h2
      cases h2
  | succ f ih =>
    intro seen a w hD hfree hr hy H
    refine ⟨List.ne_nil_of_mem hr, fun j hj => ?_⟩
    by_cases hji : j = i
    · subst hji; exact hy.wpOp hi hD ⟨hD, H⟩
    · have h1 := H.2 j (ready_mono hj hji)
      obtain ⟨hjun, oj, hoj, hall⟩ := mem_ready.1 hj
      have hun := (mem_ready.1 hr).1
      have hnot : ∀ e ∈ oj.after, Region.binds md e = true → e.on ≠ i := by
        intro e he hb heq
        have h2 := hall e he hb
        rw [heq, getD_both hun] at h2
        cases h2
      have h2 := wpOp_put hoj (hfree j oj hoj hji hjun hnot) (fun cs b => hsel i oi cs b hi) (fun cs b => hsel j oj cs b hoj) hy h1
      refine wpOp_mono (fun a' w' h3 => ⟨h3.2.1, ih (seen.setIfInBounds j true) a' w' h3.2.1 ?_ (ready_mono hr (Ne.symm hji)) h3.1 ?_⟩) h2
      · intro k ok hk hki hunk hno
        refine hfree k ok hk hki ?_ hno
        by_cases hjk : j = k
        · subst hjk
          exact hjun
        · rw [getD_set_ne true hjk] at hunk
          exact hunk
      · rw [Array.setIfInBounds_comm _ _ hji]
        exact h3.2.2

def ordL (md : Region.Mode) (ops : Array Oper) (c : Nat) : List (Nat × Bool) → Array Bool → Bool
  | [], seen => (Region.ready md ops seen == [c]) && (Region.ready md ops (seen.setIfInBounds c true)).isEmpty
  | (i, true) :: r, seen => (Region.ready md ops seen).contains i && Region.free md ops seen i && (match ops[c]? with | some o => o.after.any (fun e => Region.binds md e && e.on == i) | none => false) && ordL md ops c r (seen.setIfInBounds i true)
  | (i, false) :: r, seen => (Region.ready md ops seen == [i]) && ordL md ops c r (seen.setIfInBounds i true)

/-- what is seen behind a list of them -/
def seenBy : List (Nat × Bool) → Array Bool → Array Bool
  | [], seen => seen
  | (i, _) :: r, seen => seenBy r (seen.setIfInBounds i true)

theorem ordL_end {c : Nat} : ∀ (l : List (Nat × Bool)) (seen : Array Bool), ordL md ops c l seen = true → Region.ready md ops (seenBy l seen) = [c] ∧ Region.ready md ops ((seenBy l seen).setIfInBounds c true) = []
  | [], seen, h => by simpa [ordL, seenBy] using h
  | (i, true) :: r, seen, h => by
    simp only [ordL, Bool.and_eq_true] at h
    exact ordL_end r _ h.2
  | (i, false) :: r, seen, h => by
    simp only [ordL, Bool.and_eq_true] at h
    exact ordL_end r _ h.2

theorem anyL_of_walk {R : Act → World → Prop} {c : Nat} {sE : Array Bool} (hs : Region.noSelect ops = true) (hE : Region.ready md ops sE = [c]) : ∀ (l : List (Nat × Bool)) (seen : Array Bool) (a : Act) (w : World), D w → seenBy l seen = sE →
    ordL md ops c l seen = true → walkF P ops D R l a w → anyL P md ops D sE R l.length seen a w
  | [], _, _, _, _, hq, hB, h => ⟨hq, h⟩
  | (i, true) :: r, seen, a, w, hD, hq, hB, h => by
    simp only [ordL, Bool.and_eq_true] at hB
    obtain ⟨⟨⟨hr, hf⟩, he⟩, hB'⟩ := hB
    obtain ⟨o, v, ho, hy, hK⟩ := h
    cases hc : ops[c]? with
    | none => simp [hc] at he
    | some oc =>
      simp only [hc, Array.any_eq_true] at he
      obtain ⟨x, hx, hb⟩ := he
      simp only [Bool.and_eq_true, beq_iff_eq] at hb
      exact anyL_first hE hc ⟨oc.after[x], Array.getElem_mem hx, hb.1, hb.2⟩ ho (Region.noSelect_spec hs) r.length seen a w hD (Region.free_spec ho hf) (by simpa using hr) hy (anyL_of_walk hs hE r _ _ w hD hq hB' hK)
  | (i, false) :: r, seen, a, w, hD, hq, hB, h => by
    simp only [ordL, Bool.and_eq_true, beq_iff_eq] at hB
    obtain ⟨hr, hB'⟩ := hB
    refine ⟨by rw [hr]; exact List.cons_ne_nil _ _, fun j hj => ?_⟩
    rw [hr] at hj
    obtain rfl : j = i := by simpa using hj
    exact wpOp_mono (fun a' w' h' => ⟨h'.1, anyL_of_walk hs hE r _ a' w' h'.1 hq hB' h'.2⟩) h

/-- a region that draws its order, walked in one order, one operation behind all others -/
theorem region_mixed_last {id : Nat} {Q : Exit → Act → World → Prop} {a : Act} {w : World} {l : List Oper} (D : World → Prop) (s : List (List Nat × Nat)) (last : List Nat) (c : Nat) (hm : P.follows .mixedOrders = true)
    (hB : (Region.noSelect l.toArray && fitB l s last && (l[c]?).isSome && decide ((flatO s last).length + 1 = l.length) && ordL .any l.toArray c (flatO s last) (Array.replicate l.length false)) = true) (hD : D w.drew)
    (h : mixO P l D (fun a' w' => wpList P l.toArray Q (pickO l [c]) a' w') s last a w.drew) : (Code.region id l.toArray true).wp P Q a w := by
  simp only [Bool.and_eq_true, decide_eq_true_eq] at hB
  obtain ⟨⟨⟨⟨hsel, hf⟩, hcs⟩, hlen⟩, hord⟩ := hB
  obtain ⟨oc, hoc⟩ := Option.isSome_iff_exists.1 hcs
  obtain ⟨hE1, hE2⟩ := ordL_end _ _ hord
  refine wp_region_any hm ?_
  have h1 := anyL_of_walk (md := .any) (c := c) hsel hE1 (flatO s last) _ a w.drew hD rfl hord (walk_of_mix last s a w.drew hf h)
  have h2 := any_of_anyL (Q := Q) hE1 hE2 (fun a' w' h' => by
    have h0 : l.toArray[c]? = some oc := by simpa using hoc
    simp only [pickO, hoc, wpList] at h'
    unfold wpOp
    simp only [h0]
    exact h') _ _ _ _ h1
  rw [hlen] at h2
  simpa using h2

theorem mixO_last {l lq : List Oper} {lc : List Oper} {Q : Exit → Act → World → Prop} {last : List Nat} {c : Nat} {a : Act} {w : World} (hq : pickO l last = lq) (hc : pickO l [c] = lc)
    (h : wpQuiet P l.toArray (fun w' => ∃ u : Of D, w' = u.val) (fun a' => wpList P l.toArray Q lc a' w) lq a) : mixO P l D (fun a' w' => wpList P l.toArray Q (pickO l [c]) a' w') [] last a w := by
  subst hq hc
  exact h

end Go.Proofs.YtjfnpjmhippdoafGreat
