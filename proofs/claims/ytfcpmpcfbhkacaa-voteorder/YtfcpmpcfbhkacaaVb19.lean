/- Several texts of one proof, in their order. -/
import Derived.Test.YtfcpmpcfbhkacaaVb18
import Derived.Test.YtfcpmpcfbhkacaaVb4

/- Chapter 4 in plain words: choices of places, what most shares are of, and the numbers of all others. -/
namespace Go.Proofs.Ytfcpmpcfbhkacaa

open Go.RowKit CurveMath
set_option linter.unusedVariables false

/-- all choices of k of a list, those with the first ones first -/
def comb : Nat → List Nat → List (List Nat)
  | 0, _ => [[]]
  | _ + 1, [] => []
  | k + 1, a :: l => (comb k l).map (a :: ·) ++ comb (k + 1) l

/-- what stands at the chosen places -/
def tak {α : Type} (f : Nat → α) (c : List Nat) (j : Nat) : α := f (c.getD j 0)

/-- a rising choice of places below n -/
def Rise (n : Nat) (c : List Nat) : Prop := c.Pairwise (· < ·) ∧ ∀ x ∈ c, x < n

section

variable (d s R n : Nat) (N : Nat → Int) (X : Nat → Nat → Int)

def mkB (c : List Nat) : Bool := madeB d s R (tak N c) (tak X c)
def conD (c : List Nat) : Nat → Int := joinD d (tak N c) (tak X c)
def alB (D : Nat → Int) (j : Nat) : Bool := decide (∀ r, r < R → X j r = shv d s D (N j).toNat r)
def badL (D : Nat → Int) : List Int := ((List.range n).filter fun j => !alB d s R N X D j).map N
def stepV (st : Option (List Nat)) (c : List Nat) : Option (List Nat) :=
  if mkB d s R N X c = true then
    (match st with
      | none => some c
      | some b => if (badL d s R n N X (conD d N X c)).length < (badL d s R n N X (conD d N X b)).length then some c else some b)
  else st
def electV : Option (List Nat) := (comb d (List.range n)).foldl (stepV d s R n N X) none

end

def srt (l : List Int) : List Int := l.mergeSort fun x y => decide (x ≤ y)

/-- the choice whose content most shares are of -/
def mostC (nd sz : Int) (n : Nat) (N : Nat → Int) (X : Nat → Nat → Int) : Option (List Nat) := electV nd.toNat sz.toNat (rowsN nd sz) n N X
def mostE (nd of sz : Int) (n : Nat) (N : Nat → Int) (L : Nat → Nat) (X : Nat → Nat → Int) : Int :=
  if checksE nd of sz n N L X = 0 then (if (mostC nd sz n N X).isSome = true then 0 else 9) else checksE nd of sz n N L X
def mostD (nd sz : Int) (n : Nat) (N : Nat → Int) (X : Nat → Nat → Int) : Nat → Int := conD nd.toNat N X ((mostC nd sz n N X).getD [])
def mostB (nd of sz : Int) (n : Nat) (N : Nat → Int) (L : Nat → Nat) (X : Nat → Nat → Int) : List Int :=
  if mostE nd of sz n N L X = 0 then srt (badL nd.toNat sz.toNat (rowsN nd sz) n N X (mostD nd sz n N X)) else []

/-- what Most leaves -/
def MostPost (w : World) (nd of sz : Int) (n : Nat) (N : Nat → Int) (L : Nat → Nat) (X : Nat → Nat → Int) (e : Ending) (w' : World) : Prop :=
  Below w.heap.size w w' ∧ ∃ (r b : Value) (m : Nat), e = .returned (.tuple #[r, b, .int .i64 (mostE nd of sz n N L X)]) ∧ (m : Int) = (if mostE nd of sz n N L X = 0 then sz else 0) ∧
    IntSl w' w'.heap.size r m (mostD nd sz n N X) ∧ IntSl w' w'.heap.size b (mostB nd of sz n N L X).length (fun j => (mostB nd of sz n N L X).getD j 0)

theorem most_err {w w' : World} {nd of sz : Int} {n : Nat} {N : Nat → Int} {L : Nat → Nat} {X : Nat → Nat → Int} {c : Int} (hb : Below w.heap.size w w') (he : mostE nd of sz n N L X = c) (hc : c ≠ 0) (a : Option Addr) (cp : Nat) : MostPost w nd of sz n N L X (.returned (.tuple #[.slice a 0 cp, .slice none 0 0, .int .i64 c])) w' := by
  have hB : mostB nd of sz n N L X = [] := by unfold mostB; rw [he, if_neg hc]
  refine ⟨hb, _, _, 0, by rw [he], ?_, ⟨a, cp, rfl, ⟨Nat.zero_le _, by omega⟩, Or.inl rfl⟩, ⟨none, 0, ?_, ?_, ?_⟩⟩
  · rw [he, if_neg hc]; rfl
  · rw [hB]; rfl
  · rw [hB]; exact ⟨Nat.le_refl _, by decide⟩
  · rw [hB]; exact Or.inl rfl

section

variable {d m s R n : Nat} {N : Nat → Int} {L : Nat → Nat} {X : Nat → Nat → Int}

theorem getD_memV {c : List Nat} {j : Nat} (hj : j < c.length) : c.getD j 0 ∈ c := by
  rw [List.getD_eq_getElem?_getD, List.getElem?_eq_getElem hj]
  exact List.getElem_mem hj

theorem Rise.lt {c : List Nat} (h : Rise n c) {j : Nat} (hj : j < c.length) : c.getD j 0 < n := h.2 _ (getD_memV hj)

theorem Rise.up {c : List Nat} (h : Rise n c) {i j : Nat} (hij : i < j) (hj : j < c.length) : c.getD i 0 < c.getD j 0 := by
  rw [List.getD_eq_getElem?_getD, List.getD_eq_getElem?_getD, List.getElem?_eq_getElem hj, List.getElem?_eq_getElem (Nat.lt_trans hij hj)]
  exact List.pairwise_iff_getElem.1 h.1 i j (Nat.lt_trans hij hj) hj hij

theorem Rise.inj {c : List Nat} (h : Rise n c) {i j : Nat} (hi : i < c.length) (hj : j < c.length) (e : c.getD i 0 = c.getD j 0) : i = j := by
  rcases Nat.lt_trichotomy i j with h1 | h1 | h1
  · have := h.up h1 hj; omega
  · exact h1
  · have := h.up h1 hi; omega

/-- shares at chosen places are in order -/
theorem Shares.takI (h : Shares d m s R n N L X) {c : List Nat} {k : Nat} (hk : d ≤ k) (hk8 : k ≤ 8) (hlt : ∀ j, j < k → c.getD j 0 < n) (hin : ∀ i j, i < k → j < k → c.getD i 0 = c.getD j 0 → i = j) : Shares d m s R k (tak N c) (tak L c) (tak X c) :=
  ⟨h.plan, h.rows, ⟨hk, hk8⟩, fun j hj => h.who _ (hlt j hj), fun j hj => h.len _ (hlt j hj), fun j hj => h.num _ (hlt j hj),
   fun i j hi hj e => hin i j hi hj (h.inj _ _ (hlt i hi) (hlt j hj) e)⟩

theorem Shares.take (h : Shares d m s R n N L X) {c : List Nat} (hc : Rise n c) (hl : c.length = d) : Shares d m s R d (tak N c) (tak L c) (tak X c) :=
  h.takI (Nat.le_refl _) (by have := h.le; omega) (fun j hj => hc.lt (by omega)) (fun i j hi hj => hc.inj (by omega) (by omega))

theorem Shares.checks (h : Shares d m s R n N L X) : checksE (d : Int) (m : Int) (s : Int) n N L X = 0 := by
  have hle := h.le
  unfold checksE
  rw [if_pos h.plan, if_pos (by omega), if_pos, if_pos (by omega)]
  refine scanS_mk n 0 fun j _ hj => ⟨oneE_mk h.plan (h.who j (by omega)) (by rw [h.len j (by omega), h.rows]) (fun i hi => h.num j (by omega) i (by rw [h.len j (by omega)] at hi; exact hi)), ?_⟩
  by_cases hb : hasB N j (N j) = true
  · obtain ⟨i, hi, e⟩ := (hasB_iff _ j _).1 hb
    have := h.inj i j (by omega) (by omega) e
    omega
  · simpa using hb

/-- just enough are joined where something is made -/
theorem Shares.joinE (h : Shares d m s R d N L X) : joinE (d : Int) (m : Int) (s : Int) d N L X = if madeB d s R N X = true then 0 else 9 := by
  rw [joinE_checks, if_pos h.checks, Int.toNat_natCast, Int.toNat_natCast, h.rows]
  cases hm : madeB d s R N X with
  | true => rw [torn_iff hm fun j hj => decide_eq_true fun r hr => crv_own (h.good r hr) j hj]; rfl
  | false => rw [torn_made hm]; rfl

theorem sameB_al (h : Shares d m s R n N L X) (D : Nat → Int) (j ν : Nat) (hj : j < n) (hν : N j = (ν : Int)) : sameB (N j) (ν : Int) (L j) R (X j) (fun r => shv d s D ν r) = alB d s R N X D j := by
  unfold sameB eqB alB
  rw [decide_eq_true hν, Bool.true_and, decide_eq_decide, h.len j hj, hν, Int.toNat_natCast]
  exact ⟨fun h => h.2, fun h => ⟨rfl, h⟩⟩

theorem crv_congr {k : Nat} {A A' B B' : Nat → Int} {t : Int} (hA : ∀ j, j < k → 0 ≤ A j ∧ A j ≤ 30) (g : Good k k A B) (h1 : ∀ j, j < k → A' j = A j) (h2 : ∀ j, j < k → B' j = B j) : crv k A' B' t = crv k A B t := by
  have g' : Good k k A' B' := ⟨rfl, g.len, fun j hj => by rw [h1 j hj]; exact g.3 j hj, fun j hj => by rw [h2 j hj]; exact g.4 j hj, fun i j hi hj e => g.5 i j hi hj (by rw [← h1 i hi, ← h1 j hj]; exact e)⟩
  exact crv_alike g g' (Nat.le_refl _) (fun j hj => by rw [h1 j hj, h2 j hj, crv_own g j hj]) t

end

/-- what was joined of places with the same shares -/
theorem Shares.joinD_congr {d m s R n n' : Nat} {N N' : Nat → Int} {L L' : Nat → Nat} {X X' : Nat → Nat → Int} (h : Shares d m s R n N L X) (h1 : ∀ j, j < d → N' j = N j) (h2 : ∀ j, j < d → X' j = X j) (i : Nat) (hi : i < R * d) : joinD d N' X' i = joinD d N X i := by
  unfold joinD
  have hd : 0 < d := Nat.pos_of_ne_zero fun e => by subst e; omega
  have hr : i / d < R := (Nat.div_lt_iff_lt_mul hd).2 hi
  exact crv_congr (h.good _ hr).3 (h.good _ hr) h1 (fun j hj => by rw [h2 j hj])

theorem comb_range (k : Nat) : ∀ i m, k ≤ m → ∃ t, comb k (List.range' i m) = List.range' i k :: t := by
  induction k with
  | zero => intro i m _; exact ⟨[], by simp [comb]⟩
  | succ k ih =>
    intro i m hm
    obtain ⟨m', rfl⟩ : ∃ m', m = m' + 1 := ⟨m - 1, by omega⟩
    obtain ⟨t, ht⟩ := ih (i + 1) m' (by omega)
    refine ⟨t.map (i :: ·) ++ comb (k + 1) (List.range' (i + 1) m'), ?_⟩
    rw [List.range'_succ, comb, ht, List.map_cons, List.cons_append, List.range'_succ]

theorem getD_range' (i k j : Nat) (hj : j < k) : (List.range' i k).getD j 0 = i + j := by
  rw [List.getD_eq_getElem?_getD, List.getElem?_range' hj]
  simp

theorem fold_stay {d s R n : Nat} {N : Nat → Int} {X : Nat → Nat → Int} {c : List Nat} (h : badL d s R n N X (conD d N X c) = []) (l : List (List Nat)) : l.foldl (stepV d s R n N X) (some c) = some c := by
  induction l with
  | nil => rfl
  | cons a l ih =>
    rw [List.foldl_cons]
    have e : stepV d s R n N X (some c) a = some c := by
      unfold stepV
      by_cases hm : mkB d s R N X a = true
      · rw [if_pos hm]
        simp only [h, List.length_nil, Nat.not_lt_zero, if_false]
      · rw [if_neg hm]
    rw [e]
    exact ih

section

variable {d m s R n : Nat} {N : Nat → Int} {L : Nat → Nat} {X : Nat → Nat → Int}

theorem tak_first (f : Nat → Nat → Int) (j : Nat) (hj : j < d) : tak f (List.range' 0 d) j = f j := by
  unfold tak; rw [getD_range' 0 d j hj, Nat.zero_add]

theorem takN_first (j : Nat) (hj : j < d) : tak N (List.range' 0 d) j = N j := by
  unfold tak; rw [getD_range' 0 d j hj, Nat.zero_add]

theorem conD_first (h : Shares d m s R n N L X) (i : Nat) (hi : i < R * d) : conD d N X (List.range' 0 d) i = joinD d N X i :=
  h.joinD_congr (n' := n) (L' := L) (fun j hj => takN_first j hj) (fun j hj => tak_first X j hj) i hi

theorem size_le (h : Shares d m s R n N L X) : s ≤ R * d := by
  obtain ⟨a1, a2, a3⟩ := planOk_spec h.plan
  have hr := h.rows
  unfold rowsN at hr
  have h1 : (s : Int) ≤ ((s : Int) + d - 1) / d * d := by
    have e := Int.emod_add_mul_ediv ((s : Int) + d - 1) d
    have e2 := Int.emod_lt_of_pos ((s : Int) + d - 1) (by omega : (0 : Int) < d)
    rw [Int.mul_comm] at e
    omega
  have h2 : ((R : Nat) : Int) = ((s : Int) + d - 1) / d := by
    have h3 : (0 : Int) ≤ ((s : Int) + d - 1) / d := Int.ediv_nonneg (by omega) (by omega)
    omega
  rw [← h2] at h1
  exact_mod_cast h1

/-- the curve that shares' rows lie on, again -/
theorem shv_congr {D D' : Nat → Int} {ν r : Nat} (hs : ∀ i, i < s → D' i = D i) : shv d s D' ν r = shv d s D ν r := by
  unfold shv
  have e : padD s D' = padD s D := by
    funext j
    unfold padD
    by_cases h : j < s
    · rw [if_pos h, if_pos h, hs j h]
    · rw [if_neg h, if_neg h]
  rw [e]

theorem alB_congr {D D' : Nat → Int} (hs : ∀ i, i < s → D' i = D i) (j : Nat) : alB d s R N X D' j = alB d s R N X D j := by
  unfold alB
  rw [decide_eq_decide]
  exact ⟨fun h r hr => by rw [h r hr, shv_congr hs], fun h r hr => by rw [h r hr, shv_congr hs]⟩

theorem badL_congr {D D' : Nat → Int} (hs : ∀ i, i < s → D' i = D i) : badL d s R n N X D' = badL d s R n N X D := by
  unfold badL
  have e : (fun j => !alB d s R N X D' j) = fun j => !alB d s R N X D j := by funext j; rw [alB_congr hs]
  rw [e]

theorem badL_nil {D : Nat → Int} : badL d s R n N X D = [] ↔ ∀ j, j < n → alB d s R N X D j = true := by
  unfold badL
  rw [List.map_eq_nil_iff, List.filter_eq_nil_iff]
  constructor
  · intro h j hj
    have := h j (List.mem_range.2 hj)
    simpa using this
  · intro h j hj
    rw [h j (List.mem_range.1 hj)]
    decide

/-- where all are joined: that, and nobody else -/
theorem elect_join (h : Shares d m s R n N L X) (hj : joinE (d : Int) (m : Int) (s : Int) n N L X = 0) : electV d s R n N X = some (List.range' 0 d) ∧ badL d s R n N X (conD d N X (List.range' 0 d)) = [] := by
  have hle := h.le
  have hsz := size_le h
  rw [joinE_checks, if_pos h.checks, Int.toNat_natCast, Int.toNat_natCast, h.rows] at hj
  have ht : tornB d s R n N X = false := by
    cases ht : tornB d s R n N X with
    | true => rw [ht] at hj; simp at hj
    | false => rfl
  unfold tornB at ht
  rw [Bool.not_eq_false', Bool.and_eq_true] at ht
  have hm : madeB d s R N X = true := ht.2
  have hall := of_decide_eq_true ht.1
  have hmk : mkB d s R N X (List.range' 0 d) = true := decide_eq_true fun i hi => by
    rcases of_decide_eq_true hm i hi with h1 | h1
    · exact Or.inl h1
    · exact Or.inr (by rw [← h1]; exact conD_first h i hi)
  have hb : badL d s R n N X (conD d N X (List.range' 0 d)) = [] := by
    rw [badL_congr (D := joinD d N X) (fun i hi => conD_first h i (by omega))]
    refine badL_nil.2 fun j hj => decide_eq_true fun r hr => ?_
    have hw := h.who j hj
    rw [h.again hm (N j).toNat r hr, show (((N j).toNat : Nat) : Int) = N j by omega]
    exact (hall r hr j hj).symm
  refine ⟨?_, hb⟩
  obtain ⟨t, ht⟩ := comb_range d 0 n hle.1
  unfold electV
  rw [List.range_eq_range', ht, List.foldl_cons]
  have e : stepV d s R n N X none (List.range' 0 d) = some (List.range' 0 d) := by
    unfold stepV
    rw [if_pos hmk]
  rw [e]
  exact fold_stay hb t

end

/-- Join's answer, where it is not that things are torn -/
theorem most_join {nd of sz : Int} {n : Nat} {N : Nat → Int} {L : Nat → Nat} {X : Nat → Nat → Int} (h : joinE nd of sz n N L X ≠ 9) : mostE nd of sz n N L X = joinE nd of sz n N L X ∧ mostB nd of sz n N L X = [] ∧ (joinE nd of sz n N L X = 0 → ∀ i, i < sz.toNat → mostD nd sz n N X i = joinD nd.toNat N X i) := by
  by_cases hc : checksE nd of sz n N L X = 0
  · obtain ⟨d, m, s, R, rfl, rfl, rfl, hS⟩ := checks_ok hc
    have hj : joinE (d : Int) (m : Int) (s : Int) n N L X = 0 := by
      rw [joinE_checks, if_pos hc] at h ⊢
      by_cases ht : tornB (d : Int).toNat (s : Int).toNat (rowsN (d : Int) (s : Int)) n N X = true
      · rw [if_pos ht] at h; exact absurd rfl h
      · rw [if_neg ht]
    obtain ⟨h1, h2⟩ := elect_join hS hj
    have hC : mostC (d : Int) (s : Int) n N X = some (List.range' 0 d) := by unfold mostC; rw [Int.toNat_natCast, Int.toNat_natCast, hS.rows]; exact h1
    have hE : mostE (d : Int) (m : Int) (s : Int) n N L X = 0 := by unfold mostE; rw [if_pos hc, hC]; rfl
    have hD : mostD (d : Int) (s : Int) n N X = conD d N X (List.range' 0 d) := by unfold mostD; rw [hC, Int.toNat_natCast]; rfl
    refine ⟨by rw [hE, hj], ?_, fun _ i hi => ?_⟩
    · unfold mostB
      rw [if_pos hE, hD, Int.toNat_natCast, Int.toNat_natCast, hS.rows, h2]
      simp [srt]
    · rw [hD, Int.toNat_natCast]
      have := size_le hS
      exact conD_first hS i (by rw [Int.toNat_natCast] at hi; omega)
  · have hE : mostE nd of sz n N L X = checksE nd of sz n N L X := by unfold mostE; rw [if_neg hc]
    have hj : joinE nd of sz n N L X = checksE nd of sz n N L X := by rw [joinE_checks, if_neg hc]
    refine ⟨by rw [hE, hj], ?_, fun h0 => absurd (hj.symm.trans h0) hc⟩
    unfold mostB
    rw [hE, if_neg hc]

theorem srt_len (l : List Int) : (srt l).length = l.length := List.length_mergeSort l

end Go.Proofs.Ytfcpmpcfbhkacaa

/- The sorts lie in the whole shelf. -/

