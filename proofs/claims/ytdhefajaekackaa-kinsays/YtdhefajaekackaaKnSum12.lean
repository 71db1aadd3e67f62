/- Several texts of one proof, in their order. -/
import Derived.Test.YtdhefajaekackaaKnSum5
import Derived.Test.YtdhefajaekackaaKnSum7
import Derived.Maps.Own
import Derived.Maps.OwnOps
import Derived.Maps.OwnSet
import Derived.Maps.AppendAt

/- Which versions a version comes from, in plain words. Plain: it speaks of no program. -/
namespace Go.Proofs.Ytdhefajaekackaa

set_option linter.unusedVariables false

/-- version k comes from old -/
inductive Rea (b : Bk) : Nat → Nat → Prop where
  | refl (k : Nat) : Rea b k k
  | step {k i old : Nat} (hi : i < b.PL k) (h : Rea b (b.PX k i).toNat old) : Rea b k old

theorem Rea.trans {b : Bk} {k m o : Nat} (h : Rea b k m) (h2 : Rea b m o) : Rea b k o := by
  induction h with
  | refl => exact h2
  | step hi _ ih => exact Rea.step hi (ih h2)

theorem Rea.snoc {b : Bk} {k y i : Nat} (h : Rea b k y) (hi : i < b.PL y) : Rea b k (b.PX y i).toNat := h.trans (Rea.step hi (Rea.refl _))

/-- the last step -/
theorem Rea.last {b : Bk} {k o : Nat} (h : Rea b k o) : o = k ∨ ∃ y i, Rea b k y ∧ i < b.PL y ∧ (b.PX y i).toNat = o := by
  induction h with
  | refl => exact Or.inl rfl
  | @step k i old hi h ih =>
    right
    rcases ih with e | ⟨y, j, h1, h2, h3⟩
    · exact ⟨k, i, Rea.refl _, hi, e.symm⟩
    · exact ⟨y, j, Rea.step hi h1, h2, h3⟩

theorem Rea.le {n : Nat} {b : Bk} (hE : Elder n b) {k o : Nat} (h : Rea b k o) (hk : k < n) : o ≤ k := by
  induction h with
  | refl => exact Nat.le_refl _
  | step hi _ ih =>
    obtain ⟨e1, e2⟩ := hE _ hk _ hi
    have := ih (by omega)
    omega

theorem frm_iff {n : Nat} {b : Bk} (hE : Elder n b) (f : Nat) : ∀ k old, k < f → k < n → (frm b f k old = true ↔ Rea b k old) := by
  induction f with
  | zero => intro k old h; omega
  | succ f ih =>
    intro k old hf hk
    simp only [frm, Bool.or_eq_true, decide_eq_true_eq, anyB_iff]
    constructor
    · rintro (rfl | ⟨j, _, h2, h3⟩)
      · exact Rea.refl _
      · obtain ⟨e1, e2⟩ := hE k hk j (by omega)
        exact Rea.step (by omega : j < b.PL k) ((ih _ _ (by omega) (by omega)).1 h3)
    · intro h
      cases h with
      | refl => exact Or.inl rfl
      | @step _ i _ hi h =>
        obtain ⟨e1, e2⟩ := hE k hk i hi
        exact Or.inr ⟨i, Nat.zero_le _, by omega, (ih _ _ (by omega) (by omega)).2 h⟩

/-- those of the first j that p agrees to, rising -/
def pickL (p : Nat → Bool) (j : Nat) : List Int := ((List.range j).filter p).map fun (x : Nat) => (x : Int)

theorem pickL_succ (p : Nat → Bool) (j : Nat) : pickL p (j + 1) = pickL p j ++ (if p j = true then [(j : Int)] else []) := by
  unfold pickL
  rw [List.range_succ, List.filter_append, List.map_append]
  cases h : p j <;> simp [h]

theorem pickL_len (p : Nat → Bool) (j : Nat) : (pickL p j).length ≤ j := by
  unfold pickL
  rw [List.length_map]
  refine Nat.le_trans (List.length_filter_le _ _) ?_
  simp

theorem pickL_congr {p q : Nat → Bool} {j : Nat} (h : ∀ x, x < j → p x = q x) : pickL p j = pickL q j := by
  unfold pickL
  rw [List.filter_congr (fun x hx => h x (List.mem_range.1 hx))]

theorem pickL_more {p : Nat → Bool} {j m : Nat} (hm : j ≤ m) (h : ∀ x, j ≤ x → x < m → p x = false) : pickL p m = pickL p j := by
  induction m with
  | zero => rw [show j = 0 by omega]
  | succ m ih =>
    by_cases e : j = m + 1
    · rw [e]
    · rw [pickL_succ, h m (by omega) (by omega), if_neg (by decide), List.append_nil]
      exact ih (by omega) (fun x h1 h2 => h x h1 (by omega))

theorem mem_pickL {p : Nat → Bool} {j : Nat} {x : Int} : x ∈ pickL p j ↔ ∃ k : Nat, k < j ∧ p k = true ∧ x = k := by
  unfold pickL
  simp only [List.mem_map, List.mem_filter, List.mem_range]
  constructor
  · rintro ⟨k, ⟨h1, h2⟩, rfl⟩; exact ⟨k, h1, h2, rfl⟩
  · rintro ⟨k, h1, h2, rfl⟩; exact ⟨k, ⟨h1, h2⟩, rfl⟩

theorem behL_pick (b : Bk) (f k j : Nat) : behL b f k j = pickL (fun old => frm b f k old) j := rfl
theorem headsL_pick (b : Bk) (n j : Nat) : headsL b n j = pickL (fun k => !anyB (parB b k) n 0) j := rfl

/-- what keeps what is behind version k from being told -/
def behE (n : Nat) (b : Bk) (k : Int) : Int := if bookE n b = 0 then (if 0 ≤ k ∧ k < (n : Int) then 0 else 4) else bookE n b
/-- what is behind version k -/
def bhL (b : Bk) (k : Nat) : List Int := behL b (k + 1) k (k + 1)

/-- a version has few parents -/
theorem Right.few {n : Nat} {b : Bk} (h : Right n b) {k : Nat} (hk : k < n) : b.PL k ≤ k := by
  have key : ∀ i, i < b.PL k → (i : Int) ≤ b.PX k i := by
    intro i
    induction i with
    | zero => intro hi; have := (h.elder k hk 0 hi).1; omega
    | succ i ih =>
      intro hi
      have h1 := ih (by omega)
      have h2 := h.rise k hk i hi
      omega
  rcases Nat.lt_or_ge k (b.PL k) with h1 | h1
  · have h2 := key k h1
    have h3 := (h.elder k hk k h1).2
    omega
  · exact h1

/-- what was seen, going down from k, all from j on done -/
def BInvP (b : Bk) (k j : Nat) (c : Int → Int) : Prop := (∀ x, 0 ≤ c x ∧ c x ≤ ((1 + (k + 1 - j) * 12 : Nat) : Int)) ∧ ∀ x, c x = 0 ↔ ¬ (x = (k : Int) ∨ ∃ y i, j ≤ y ∧ y ≤ k ∧ Rea b k y ∧ i < b.PL y ∧ b.PX y i = x)

theorem binv_at {n : Nat} {b : Bk} (hE : Elder n b) {k j : Nat} (hk : k < n) {c : Int → Int} (h : BInvP b k (j + 1) c) : c (j : Int) = 0 ↔ ¬ Rea b k j := by
  rw [h.2]
  constructor
  · intro h1 h2
    apply h1
    rcases h2.last with e | ⟨y, i, g1, g2, g3⟩
    · left; omega
    · have hy := g1.le hE hk
      obtain ⟨e1, e2⟩ := hE y (by omega) i g2
      exact Or.inr ⟨y, i, by omega, hy, g1, g2, by omega⟩
  · intro h1 h2
    apply h1
    rcases h2 with e | ⟨y, i, _, _, g1, g2, g3⟩
    · have e2 : j = k := by omega
      rw [e2]; exact Rea.refl _
    · have := g1.snoc g2
      rw [g3, Int.toNat_natCast] at this
      exact this

theorem binv_skip {n : Nat} {b : Bk} (hE : Elder n b) {k j : Nat} (hk : k < n) (hj : j ≤ k) {c : Int → Int} (h : BInvP b k (j + 1) c) (h0 : c (j : Int) = 0) : BInvP b k j c := by
  have hn := (binv_at hE hk h).1 h0
  refine ⟨fun x => by have := h.1 x; omega, fun x => ?_⟩
  rw [h.2 x]
  constructor
  · rintro h1 (e | ⟨y, i, g1, g2, g3, g4⟩)
    · exact h1 (Or.inl e)
    · by_cases e : y = j
      · subst e; exact hn g3
      · exact h1 (Or.inr ⟨y, i, by omega, g2, g3, g4⟩)
  · rintro h1 (e | ⟨y, i, g1, g2, g3, g4⟩)
    · exact h1 (Or.inl e)
    · exact h1 (Or.inr ⟨y, i, by omega, g2, g3, g4⟩)

theorem binv_take {n : Nat} {b : Bk} (hE : Elder n b) {k j : Nat} (hk : k < n) (hj : j ≤ k) {c c' : Int → Int} (h : BInvP b k (j + 1) c) (h0 : c (j : Int) ≠ 0) (hb : ∀ x, 0 ≤ c' x ∧ c' x ≤ ((1 + (k + 1 - j) * 12 : Nat) : Int)) (hc : ∀ x, c' x = 0 ↔ c x = 0 ∧ ∀ i, i < b.PL j → b.PX j i ≠ x) : BInvP b k j c' := by
  have hr : Rea b k j := Classical.not_not.1 fun hn => h0 ((binv_at hE hk h).2 hn)
  refine ⟨hb, fun x => ?_⟩
  rw [hc x, h.2 x]
  constructor
  · rintro ⟨h1, h2⟩ (e | ⟨y, i, g1, g2, g3, g4, g5⟩)
    · exact h1 (Or.inl e)
    · by_cases e : y = j
      · subst e; exact h2 i g4 g5
      · exact h1 (Or.inr ⟨y, i, by omega, g2, g3, g4, g5⟩)
  · intro h1
    refine ⟨?_, fun i hi e => h1 (Or.inr ⟨j, i, Nat.le_refl _, hj, hr, hi, e⟩)⟩
    rintro (e | ⟨y, i, g1, g2, g3, g4⟩)
    · exact h1 (Or.inl e)
    · exact h1 (Or.inr ⟨y, i, by omega, g2, g3, g4⟩)

theorem binv_end {n : Nat} {b : Bk} (hE : Elder n b) {k : Nat} (hk : k < n) {c : Int → Int} (h : BInvP b k 0 c) (x : Nat) : decide (0 < c (x : Int)) = true ↔ Rea b k x := by
  have h1 := h.1 (x : Int)
  have h2 := h.2 (x : Int)
  rw [decide_eq_true_iff]
  constructor
  · intro h0
    have h3 : ¬ c (x : Int) = 0 := by omega
    rw [h2, Classical.not_not] at h3
    rcases h3 with e | ⟨y, i, _, _, g3, g4, g5⟩
    · rw [show x = k by omega]; exact Rea.refl _
    · have := g3.snoc g4
      rw [g5, Int.toNat_natCast] at this
      exact this
  · intro hr
    have h3 : ¬ c (x : Int) = 0 := by
      rw [h2, Classical.not_not]
      rcases hr.last with e | ⟨y, i, g1, g2, g3⟩
      · left; omega
      · have hy := g1.le hE hk
        obtain ⟨e1, e2⟩ := hE y (by omega) i g2
        exact Or.inr ⟨y, i, Nat.zero_le _, hy, g1, g2, by omega⟩
    omega

theorem behind_of {n : Nat} {b : Bk} (hE : Elder n b) {k : Nat} (hk : k < n) {c : Int → Int} (h : BInvP b k 0 c) : pickL (fun x => decide (0 < c (x : Int))) n = bhL b k := by
  unfold bhL
  rw [behL_pick, pickL_more (p := fun x => decide (0 < c (x : Int))) (show k + 1 ≤ n from hk)]
  · refine pickL_congr fun x hx => ?_
    rw [Bool.eq_iff_iff, frm_iff hE (k + 1) k x (Nat.lt_succ_self _) hk]
    exact binv_end hE hk h x
  · intro x h1 h2
    cases hd : decide (0 < c (x : Int)) with
    | false => rfl
    | true =>
      have := ((binv_end hE hk h x).1 hd).le hE hk
      omega

theorem binv_start (b : Bk) (k : Nat) : BInvP b k (k + 1) (fun x => if x = (k : Int) then 1 else 0) := by
  refine ⟨fun x => ?_, fun x => ?_⟩
  · by_cases e : x = (k : Int)
    · simp only [if_pos e]; omega
    · simp only [if_neg e]; omega
  · by_cases e : x = (k : Int)
    · simp only [if_pos e]
      constructor
      · intro h; omega
      · intro h; exact absurd (Or.inl e) h
    · simp only [if_neg e, true_iff]
      rintro (h | ⟨y, i, g1, g2, _⟩)
      · exact e h
      · omega

end Go.Proofs.Ytdhefajaekackaa

/- A map of ints that a call makes itself and counts in. -/
namespace Go.Proofs.Ytdhefajaekackaa

open Go.RowKit Go.Maps
set_option linter.unusedVariables false

theorem keyedInt : Keyed Try.prog 3 := int_keyed Try.underlying3

theorem zeroInt (w : World) : (zeroValue 3).run Try.prog w = .ok (.int .i64 0) w := by kernel_rfl

/-- block g is a map of at most m entries that tells c of each number -/
def CntM (w : World) (g m : Nat) (c : Int → Int) : Prop := ∃ D : DataW Empty, w.ownsMap Try.prog 3 (plainElem Try.prog 3) g m D ∧ ∀ x : Int, D.atKey (.int .i64 x) (.lit (.int .i64 0)) = .lit (.int .i64 (c x))

theorem cnt_val {D : DataW Empty} {c : Int → Int} (h : ∀ x : Int, D.atKey (.int .i64 x) (.lit (.int .i64 0)) = .lit (.int .i64 (c x))) {x v : Int} (hat : D.atKey (.int .i64 x) (.lit (.int .i64 0)) = .lit (.int .i64 v)) : v = c x := by
  rw [h x] at hat
  injection hat with h1
  injection h1 with _ h2
  exact h2.symm

theorem cntM_put {w w' : World} {g m : Nat} {c : Int → Int} {D : DataW Empty} {x v : Int} (hD : w.ownsMap Try.prog 3 (plainElem Try.prog 3) g m D) (h : ∀ x : Int, D.atKey (.int .i64 x) (.lit (.int .i64 0)) = .lit (.int .i64 (c x)))
    (ho : w'.ownsMap Try.prog 3 (plainElem Try.prog 3) g (m + 1) (D.put (.int .i64 x) (.lit (.int .i64 v)))) : CntM w' g (m + 1) (fun y => if y = x then v else c y) := by
  refine ⟨_, ho, fun y => ?_⟩
  by_cases e : y = x
  · subst e
    rw [atKey_put_same hD.isMap (by simp [WideAt.IsKeyLit])]
    simp only [if_true]
  · rw [atKey_put_other (fun h => e (by injection h)), h y]
    simp only [if_neg e]

theorem CntM.kept {w w' : World} {g m : Nat} {c : Int → Int} {row : Option Nat} (h : CntM w g m c) (hg : w.grownBy w' row) (hne : some g ≠ row) : CntM w' g m c := by
  obtain ⟨D, h1, h2⟩ := h
  exact ⟨D, h1.kept hg hne, h2⟩

theorem CntM.up {w w' : World} {g m : Nat} {c : Int → Int} (h : CntM w g m c) (hb : Below w.heap.size w w') : CntM w' g m c := h.kept (grown_of_below hb none) (by intro e; cases e)

theorem CntM.lt {w : World} {g m : Nat} {c : Int → Int} (h : CntM w g m c) : g < w.heap.size := by
  obtain ⟨D, h1, _⟩ := h
  exact h1.lt

/-- a cell lies in no map -/
theorem CntM.ne {w : World} {g m : Nat} {c : Int → Int} (h : CntM w g m c) {a : Addr} {u : Value} (ha : w.cell? a = some u) : a.block ≠ g := by
  obtain ⟨D, ⟨es, clock, hb, _⟩, _⟩ := h
  intro e
  rw [World.cell?, e, hb] at ha
  simp at ha

theorem keyInt {x : Int} (h : 0 ≤ x ∧ x ≤ 1000) : keyOf Try.prog 3 (.int .i64 x) = some (.int .i64 x) := keyOf_int_mk Try.underlying3 (WalkArith.wf_i64 (by omega))

/-- what 'count' has done to the map behind i of the numbers -/
def Cnted (c ci : Int → Int) (X : Nat → Int) (M i : Nat) : Prop := (∀ x, 0 ≤ ci x ∧ ci x ≤ (M : Int) + i) ∧ ∀ x, ci x = 0 ↔ c x = 0 ∧ ∀ j, j < i → X j ≠ x

theorem Cnted.step {c ci : Int → Int} {X : Nat → Int} {M i : Nat} (h : Cnted c ci X M i) {x : Int} (hx : X i = x) : Cnted c (fun y => if y = x then ci x + 1 else ci y) X M (i + 1) := by
  obtain ⟨h1, h2⟩ := h
  have h3 := h1 x
  refine ⟨fun y => ?_, fun y => ?_⟩
  · have h4 := h1 y
    by_cases e : y = x
    · simp only [if_pos e]; omega
    · simp only [if_neg e]; omega
  · by_cases e : y = x
    · simp only [if_pos e]
      constructor
      · intro h; omega
      · rintro ⟨_, hh⟩; exact absurd (by rw [hx, e]) (hh i (by omega))
    · simp only [if_neg e]
      rw [h2 y]
      constructor
      · rintro ⟨g1, g2⟩
        refine ⟨g1, fun j hj => ?_⟩
        by_cases ej : j = i
        · subst ej; rw [hx]; exact fun h => e h.symm
        · exact g2 j (by omega)
      · rintro ⟨g1, g2⟩; exact ⟨g1, fun j hj => g2 j (by omega)⟩

end Go.Proofs.Ytdhefajaekackaa
