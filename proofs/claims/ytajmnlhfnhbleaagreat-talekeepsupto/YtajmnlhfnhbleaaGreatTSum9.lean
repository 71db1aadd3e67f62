/- Several texts of one proof, in their order. -/
import Derived.Test.YtajmnlhfnhbleaaGreatTSum7
import Derived.Test.YtajmnlhfnhbleaaGreatTSum8
import Derived.Test.YtajmnlhfnhbleaaGreatTSum4
import Derived.Test.YtajmnlhfnhbleaaGreatTSum1

namespace Go.Proofs.YtajmnlhfnhbleaaGreat

open Go.RowKit CurveMath
set_option linter.unusedVariables false

theorem but_gone {t : Kt} {ver : Int} {m j : Nat} (hj : j < (butL t ver m).length) : (selT t (butL t ver m)).V j ≠ ver := by
  have h := getN_mem hj
  have h2 : (butL t ver m).getD j 0 ∈ (List.range m).filter fun j => t.V j != ver := h
  have h3 := (List.mem_filter.1 h2).2
  simpa [selT] using h3

theorem cover_len : ∀ (m : Nat) (l : List Int), (∀ q, q < m → (q : Int) ∈ l) → m ≤ l.length := by
  intro m
  induction m with
  | zero => intro l _; omega
  | succ m ih =>
    intro l h
    have h1 := ih (l.erase (m : Int)) (fun q hq => (List.mem_erase_of_ne (by omega)).2 (h q (by omega)))
    have h2 := h m (by omega)
    rw [List.length_erase_of_mem h2] at h1
    have : 0 < l.length := List.length_pos_of_mem h2
    omega


section

variable {P : Ps} {ver : Int} {k : Nat}

theorem thRow_upto (hr : ∀ i j, i < j → j < P.m k → (P.t k).V i < (P.t k).V j) (l : List (Nat × Nat)) : ∀ f, f ≤ P.m k → thRow P ver k l f = if (P.th k && decide (0 ≤ fstAt (P.t k).V ver f 0) && !seenN P l ((P.t k).N (fstAt (P.t k).V ver f 0).toNat)) = true then l ++ [(k, (fstAt (P.t k).V ver f 0).toNat)] else l := by
  intro f
  induction f with
  | zero => intro _; simp [thRow_zero, fstAt]
  | succ f ih =>
    intro hf
    have e := fstAt_succ (P.t k).V ver f 0
    rw [Nat.zero_add] at e
    rw [thRow_succ, ih (by omega)]
    by_cases c : 0 ≤ fstAt (P.t k).V ver f 0
    · obtain ⟨i, h1, _, h2, h3⟩ := fstAt_place _ _ _ _ c
      have hne : (P.t k).V f ≠ ver := by have := hr i f (by omega) (by omega); omega
      rw [if_pos c] at e
      rw [e]
      unfold thStep isTh
      rw [decide_eq_false hne, Bool.and_false, Bool.false_and, if_neg (by decide)]
    · rw [if_neg c] at e
      rw [decide_eq_false c, Bool.and_false, Bool.false_and, if_neg (by decide), e]
      unfold thStep isTh
      by_cases c2 : (P.t k).V f = ver
      · rw [if_pos c2, decide_eq_true c2, decide_eq_true (by omega : (0 : Int) ≤ (f : Int)), Int.toNat_natCast]
      · rw [if_neg c2, decide_eq_false c2, decide_eq_false (by omega), Bool.and_false]
        simp

theorem thRow_has (hr : ∀ i j, i < j → j < P.m k → (P.t k).V i < (P.t k).V j) (l : List (Nat × Nat)) : thRow P ver k l (P.m k) = if (hasK P ver k && !seenN P l (numK P ver k)) = true then l ++ [(k, atK P ver k)] else l := thRow_upto hr l _ (Nat.le_refl _)

theorem hasK_at (h : hasK P ver k = true) : P.th k = true ∧ atK P ver k < P.m k ∧ (P.t k).V (atK P ver k) = ver := by
  unfold hasK at h
  rw [Bool.and_eq_true, decide_eq_true_iff] at h
  obtain ⟨i, h1, _, h2, h3⟩ := fstAt_place _ _ _ _ h.2
  have e : atK P ver k = i := by unfold atK; rw [h1, Int.toNat_natCast]
  rw [e]
  exact ⟨h.1, by omega, h3⟩

end

def hereH (P : Ps) (ver : Int) (f : Nat) : List (Nat × Nat) := ((List.range f).filter (hasK P ver)).map fun k => (k, atK P ver k)

theorem hereH_succ (P : Ps) (ver : Int) (f : Nat) : hereH P ver (f + 1) = hereH P ver f ++ (if hasK P ver f = true then [(f, atK P ver f)] else []) := by
  unfold hereH
  rw [List.range_succ, List.filter_append, List.map_append, List.filter_cons, List.filter_nil]
  by_cases c : hasK P ver f = true
  · rw [if_pos c, if_pos c]; rfl
  · rw [if_neg c, if_neg c]; rfl

theorem mem_hereH {P : Ps} {ver : Int} {f : Nat} {x : Nat × Nat} : x ∈ hereH P ver f ↔ ∃ k, k < f ∧ hasK P ver k = true ∧ x = (k, atK P ver k) := by
  unfold hereH
  rw [List.mem_map]
  constructor
  · rintro ⟨k, hk, rfl⟩
    rw [List.mem_filter, List.mem_range] at hk
    exact ⟨k, hk.1, hk.2, rfl⟩
  · rintro ⟨k, h1, h2, rfl⟩
    exact ⟨k, List.mem_filter.2 ⟨List.mem_range.2 h1, h2⟩, rfl⟩

theorem thAll_here {P : Ps} {ver : Int} {np : Nat} (hr : ∀ k, k < np → ∀ i j, i < j → j < P.m k → (P.t k).V i < (P.t k).V j) (hi : ∀ i j, i < j → j < np → hasK P ver i = true → hasK P ver j = true → numK P ver i ≠ numK P ver j) : ∀ f, f ≤ np → thAll P ver f = hereH P ver f := by
  intro f
  induction f with
  | zero => intro _; rfl
  | succ f ih =>
    intro hf
    rw [thAll_succ, ih (by omega), thRow_has (hr f (by omega)), hereH_succ]
    by_cases c : hasK P ver f = true
    · have hs : seenN P (hereH P ver f) (numK P ver f) = false := by
        rw [Bool.eq_false_iff]
        intro hb
        obtain ⟨x, hx, e⟩ := seenN_iff.1 hb
        obtain ⟨k, hk, hh, rfl⟩ := mem_hereH.1 hx
        exact hi k f hk (by omega) hh c e
      rw [c, hs, if_pos (by rfl), if_pos rfl]
    · rw [if_neg c, Bool.not_eq_true] at *
      rw [c, Bool.false_and, if_neg (by decide), List.append_nil]


section

variable {P : Ps} {ver : Int} {R : Nat} {S : Nat → Nat → Int}

def stayK (P : Ps) (ver : Int) (R : Nat) (S : Nat → Nat → Int) (k : Nat) : Bool := hasK P ver k && (goodK P ver R S k && !(repS P ver R S k).contains (numK P ver k))

theorem repS_succ (k : Nat) : repS P ver R S (k + 1) = if stayK P ver R S k = true then repS P ver R S k ++ [numK P ver k] else repS P ver R S k := rfl

theorem mem_repS {f : Nat} {x : Int} : x ∈ repS P ver R S f ↔ ∃ k, k < f ∧ stayK P ver R S k = true ∧ numK P ver k = x := by
  induction f with
  | zero => simp [repS]
  | succ f ih =>
    rw [repS_succ]
    by_cases c : stayK P ver R S f = true
    · rw [if_pos c, List.mem_append, ih, List.mem_singleton]
      constructor
      · rintro (⟨k, h1, h2, h3⟩ | rfl)
        · exact ⟨k, by omega, h2, h3⟩
        · exact ⟨f, by omega, c, rfl⟩
      · rintro ⟨k, h1, h2, h3⟩
        by_cases e : k = f
        · subst e; exact Or.inr h3.symm
        · exact Or.inl ⟨k, by omega, h2, h3⟩
    · rw [if_neg c, ih]
      constructor
      · rintro ⟨k, h1, h2, h3⟩; exact ⟨k, by omega, h2, h3⟩
      · rintro ⟨k, h1, h2, h3⟩
        by_cases e : k = f
        · subst e; exact absurd h2 c
        · exact ⟨k, by omega, h2, h3⟩

theorem stay_parts {k : Nat} (h : stayK P ver R S k = true) : hasK P ver k = true ∧ goodK P ver R S k = true ∧ numK P ver k ∉ repS P ver R S k ∧ dropK P ver R S k = false := by
  unfold stayK at h
  have h' := h
  rw [Bool.and_eq_true, Bool.and_eq_true] at h
  obtain ⟨h1, h2, h3⟩ := h
  refine ⟨h1, h2, fun hm => ?_, ?_⟩
  · rw [List.contains_iff_mem.2 hm] at h3; cases h3
  · unfold dropK; rw [h1, h2, h3]; rfl

theorem stay_not {k : Nat} (h : stayK P ver R S k = false) (hh : hasK P ver k = true) : dropK P ver R S k = true := by
  unfold stayK at h
  unfold dropK
  rw [hh, Bool.true_and] at h
  rw [hh, h]; rfl

theorem stay_ne {i j : Nat} (hij : i < j) (hi : stayK P ver R S i = true) (hj : stayK P ver R S j = true) : numK P ver i ≠ numK P ver j := fun e =>
  (stay_parts hj).2.2.1 (mem_repS.2 ⟨i, hij, hi, e⟩)

theorem mem_lackL {np of q : Nat} : q ∈ lackL P ver R S np of ↔ q < of ∧ (q : Int) ∉ repS P ver R S np := by
  unfold lackL
  rw [List.mem_filter, List.mem_range]
  refine and_congr Iff.rfl ?_
  rw [Bool.not_eq_true']
  constructor
  · intro h hm; rw [List.contains_iff_mem.2 hm] at h; cases h
  · intro h
    rw [Bool.eq_false_iff]
    intro hc
    exact h (List.contains_iff_mem.1 hc)

theorem lackL_ne {np of i j : Nat} (hij : i < j) (hj : j < (lackL P ver R S np of).length) : (lackL P ver R S np of).getD i 0 ≠ (lackL P ver R S np of).getD j 0 := by
  have hp : (lackL P ver R S np of).Pairwise (fun a c : Nat => a < c) := List.Pairwise.filter _ List.pairwise_lt_range
  have := pairwise_getD (d := 0) hp hij hj
  omega

theorem rep_of {np k : Nat} (hk : k < np) : (repP P ver R S np).m k = (if dropK P ver R S k = true then (butL (P.t k) ver (P.m k)).length else P.m k) ∧ (repP P ver R S np).t k = (if dropK P ver R S k = true then selT (P.t k) (butL (P.t k) ver (P.m k)) else P.t k) := by
  simp only [repP]
  rw [decide_eq_true hk, Bool.true_and]
  exact ⟨rfl, rfl⟩

end


section

variable {P : Ps} {ver : Int} {R : Nat} {S : Nat → Nat → Int} {np of : Nat}

def gotK (P : Ps) (ver : Int) (R : Nat) (S : Nat → Nat → Int) (np of k : Nat) : Int := fstAt (forA (repP P ver R S np) ver np (lackL P ver R S np of).length) (k : Int) (lackL P ver R S np of).length 0
def gotN (P : Ps) (ver : Int) (R : Nat) (S : Nat → Nat → Int) (np of k : Nat) : Nat := (lackL P ver R S np of).getD (gotK P ver R S np of k).toNat 0

theorem got_at (hm : fillE P ver R S np of = 0) {k : Nat} (h : 0 ≤ gotK P ver R S np of k) :
    ∃ j : Nat, gotK P ver R S np of k = (j : Int) ∧ j < (lackL P ver R S np of).length ∧ forA (repP P ver R S np) ver np (lackL P ver R S np of).length j = (k : Int) ∧ mayK (repP P ver R S np) ver k ∧ 1 ≤ leftK (repP P ver R S np) k := by
  obtain ⟨j, h1, _, h2, h3⟩ := fstAt_place _ _ _ _ h
  obtain ⟨q, g1, g2, g3, g4⟩ := forA_at (P := repP P ver R S np) (ver := ver) (np := np) hm (i := j) (by omega)
  have e : q = k := by rw [g1] at h3; omega
  subst e
  exact ⟨j, h1, by omega, h3, g3, g4⟩

theorem got_inj (hm : fillE P ver R S np of = 0) {i k : Nat} (hi : 0 ≤ gotK P ver R S np of i) (hk : 0 ≤ gotK P ver R S np of k) (e : gotN P ver R S np of i = gotN P ver R S np of k) : i = k := by
  obtain ⟨a, h1, h2, h3, _⟩ := got_at hm hi
  obtain ⟨c, g1, g2, g3, _⟩ := got_at hm hk
  unfold gotN at e
  rw [h1, g1, Int.toNat_natCast, Int.toNat_natCast] at e
  have : a = c := by
    rcases Nat.lt_trichotomy a c with hl | hl | hl
    · exact absurd e (lackL_ne hl g2)
    · exact hl
    · exact absurd e.symm (lackL_ne hl h2)
  subst this
  rw [h3] at g3
  omega

theorem got_lack (hm : fillE P ver R S np of = 0) {k : Nat} (h : 0 ≤ gotK P ver R S np of k) : gotN P ver R S np of k < of ∧ ((gotN P ver R S np of k : Nat) : Int) ∉ repS P ver R S np := by
  obtain ⟨j, h1, h2, _⟩ := got_at hm h
  have hq : gotN P ver R S np of k ∈ lackL P ver R S np of := by
    unfold gotN
    rw [h1, Int.toNat_natCast]
    exact getD_in h2
  exact mem_lackL.1 hq

theorem got_each (hm : fillE P ver R S np of = 0) {q : Nat} (hq : q ∈ lackL P ver R S np of) : ∃ k, k < np ∧ 0 ≤ gotK P ver R S np of k ∧ gotN P ver R S np of k = q := by
  obtain ⟨j, hj, e⟩ := List.getElem_of_mem hq
  obtain ⟨k, g1, g2, _⟩ := forA_at (P := repP P ver R S np) (ver := ver) (np := np) hm (i := j) hj
  have h0 : 0 ≤ gotK P ver R S np of k := (fstAt_neg _ _ _ 0).2 ⟨j, Nat.zero_le _, by omega, g1⟩
  refine ⟨k, g2, h0, ?_⟩
  obtain ⟨i, h1, h2, h3, _⟩ := got_at hm h0
  have hij : i = j := by
    rcases Nat.lt_trichotomy i j with hl | hl | hl
    · exact absurd (h3.trans g1.symm) (forA_ne hm hl hj)
    · exact hl
    · exact absurd (g1.trans h3.symm) (forA_ne hm hl h2)
  subst hij
  unfold gotN
  rw [h1, Int.toNat_natCast, List.getD_eq_getElem?_getD, List.getElem?_eq_getElem hj]
  exact e

theorem fill_old {k : Nat} (h : ¬ 0 ≤ gotK P ver R S np of k) : (fillP P ver R S np of).m k = (repP P ver R S np).m k ∧ (fillP P ver R S np of).t k = (repP P ver R S np).t k := by
  have h' : ¬ 0 ≤ fstAt (forA (repP P ver R S np) ver np (lackL P ver R S np of).length) (k : Int) (lackL P ver R S np of).length 0 := h
  simp only [fillP, giveP]
  rw [if_neg h', if_neg h']
  exact ⟨rfl, rfl⟩

theorem fill_new {k : Nat} (h : 0 ≤ gotK P ver R S np of k) : (fillP P ver R S np of).m k = (repP P ver R S np).m k + 1 ∧ (fillP P ver R S np of).t k = keepT ((repP P ver R S np).t k) ((repP P ver R S np).m k) ver ((gotN P ver R S np of k : Nat) : Int) R (fun r => S (gotN P ver R S np of k) r) := by
  have h' : 0 ≤ fstAt (forA (repP P ver R S np) ver np (lackL P ver R S np of).length) (k : Int) (lackL P ver R S np of).length 0 := h
  simp only [fillP, giveP]
  rw [if_pos h', if_pos h']
  exact ⟨rfl, rfl⟩

theorem fill_th : (fillP P ver R S np of).th = P.th := rfl
theorem fill_rm : (fillP P ver R S np of).rm = P.rm := rfl

end

section

variable {n : Nat} {b : Bk} {np : Nat} {P : Ps} {ver : Int} {R : Nat} {S : Nat → Nat → Int} {of : Nat}

structure FillOk (n : Nat) (b : Bk) (np : Nat) (P : Ps) (ver : Int) (R : Nat) (S : Nat → Nat → Int) (of : Nat) : Prop where
  mesh : MeshR n b np P
  ver_ : 0 ≤ ver ∧ ver < (n : Int)
  many : fillE P ver R S np of = 0
  one : ∀ q, q < of → oneE (b.nd ver.toNat) (b.of ver.toNat) (b.sz ver.toNat) (q : Int) R (S q) = 0
  of_ : b.of ver.toNat = (of : Int)

theorem FillOk.rep (h : FillOk n b np P ver R S of) : MeshR n b np (repP P ver R S np) := h.mesh.rep ver R S np

theorem FillOk.order (h : FillOk n b np P ver R S of) {k : Nat} (hk : k < np) (hg : 0 ≤ gotK P ver R S np of k) (N : Int) (L : Nat) (X : Nat → Int) :
    InOrder (snocT ((repP P ver R S np).m k) ((repP P ver R S np).t k) ver N L X) ((repP P ver R S np).m k + 1) (keepL ((repP P ver R S np).t k) ver ((repP P ver R S np).m k)) ∧ (∀ j, j < (repP P ver R S np).m k → ((repP P ver R S np).t k).V j ≠ ver) := by
  obtain ⟨_, _, _, _, h4, _⟩ := got_at h.many hg
  exact ⟨keepL_order (h.rep.peer k hk) h4.2, fstAt_none h4.2⟩

theorem FillOk.right (h : FillOk n b np P ver R S of) : MeshR n b np (fillP P ver R S np of) := by
  refine ⟨h.mesh.book, h.mesh.few, fun k hk => ?_⟩
  have hp := h.rep.peer k hk
  by_cases c : 0 ≤ gotK P ver R S np of k
  · obtain ⟨e1, e2⟩ := fill_new c
    obtain ⟨_, _, _, _, h4, h5⟩ := got_at h.many c
    unfold leftK at h5
    rw [e1, e2]
    show PeerR n b ((repP P ver R S np).rm k) _ _
    refine keepT_right hp (by omega) h4.2 h.ver_ ?_
    exact h.one _ (got_lack h.many c).1
  · obtain ⟨e1, e2⟩ := fill_old c
    rw [e1, e2]
    exact hp

theorem FillOk.new_at (h : FillOk n b np P ver R S of) {k : Nat} (hk : k < np) (hg : 0 ≤ gotK P ver R S np of k) : hasK (fillP P ver R S np of) ver k = true ∧ numK (fillP P ver R S np of) ver k = ((gotN P ver R S np of k : Nat) : Int) ∧
    ((fillP P ver R S np of).t k).L (atK (fillP P ver R S np of) ver k) = R ∧ ((fillP P ver R S np of).t k).X (atK (fillP P ver R S np of) ver k) = S (gotN P ver R S np of k) := by
  obtain ⟨e1, e2⟩ := fill_new hg
  obtain ⟨_, _, _, _, h4, _⟩ := got_at h.many hg
  obtain ⟨ho, hn⟩ := h.order hk hg ((gotN P ver R S np of k : Nat) : Int) R (fun r => S (gotN P ver R S np of k) r)
  obtain ⟨i, f1, f2, f3, f4, f5⟩ := found_alike ho hn
  have ea : atK (fillP P ver R S np of) ver k = i := by
    unfold atK
    rw [e1, e2]
    unfold keepT
    rw [f1, Int.toNat_natCast]
  refine ⟨?_, ?_, ?_, ?_⟩
  · unfold hasK
    rw [e1, e2]
    unfold keepT
    rw [f1, fill_th, decide_eq_true (by omega), Bool.and_true]
    exact h4.1
  · unfold numK
    rw [ea, e2]
    exact f3
  · rw [ea, e2]; exact f4
  · rw [ea, e2]; exact f5

theorem FillOk.stay_old (h : FillOk n b np P ver R S of) {k : Nat} (hk : k < np) (hs : stayK P ver R S k = true) : ¬ 0 ≤ gotK P ver R S np of k := fun hg => by
  obtain ⟨_, _, _, _, h4, _⟩ := got_at h.many hg
  obtain ⟨s1, _, _, s4⟩ := stay_parts hs
  obtain ⟨r1, r2⟩ := rep_of (P := P) (ver := ver) (R := R) (S := S) hk
  rw [if_neg (by rw [s4]; decide)] at r1 r2
  have := h4.2
  rw [r1, r2] at this
  unfold hasK at s1
  rw [Bool.and_eq_true, decide_eq_true_iff] at s1
  omega

theorem FillOk.stay_at (h : FillOk n b np P ver R S of) {k : Nat} (hk : k < np) (hs : stayK P ver R S k = true) : (fillP P ver R S np of).m k = P.m k ∧ (fillP P ver R S np of).t k = P.t k ∧ hasK (fillP P ver R S np of) ver k = true ∧ numK (fillP P ver R S np of) ver k = numK P ver k ∧ atK (fillP P ver R S np of) ver k = atK P ver k := by
  obtain ⟨e1, e2⟩ := fill_old (h.stay_old hk hs)
  obtain ⟨s1, _, _, s4⟩ := stay_parts hs
  obtain ⟨r1, r2⟩ := rep_of (P := P) (ver := ver) (R := R) (S := S) hk
  rw [if_neg (by rw [s4]; decide)] at r1 r2
  rw [r1] at e1
  rw [r2] at e2
  have ea : atK (fillP P ver R S np of) ver k = atK P ver k := by unfold atK; rw [e1, e2]
  refine ⟨e1, e2, ?_, ?_, ea⟩
  · unfold hasK at s1 ⊢
    rw [e1, e2, fill_th]
    exact s1
  · unfold numK
    rw [ea, e2]

theorem FillOk.has (h : FillOk n b np P ver R S of) {k : Nat} (hk : k < np) (hh : hasK (fillP P ver R S np of) ver k = true) : 0 ≤ gotK P ver R S np of k ∨ stayK P ver R S k = true := by
  by_cases c : 0 ≤ gotK P ver R S np of k
  · exact Or.inl c
  · refine Or.inr ?_
    obtain ⟨e1, e2⟩ := fill_old c
    obtain ⟨r1, r2⟩ := rep_of (P := P) (ver := ver) (R := R) (S := S) hk
    rw [r1] at e1
    rw [r2] at e2
    cases hs : stayK P ver R S k with
    | true => rfl
    | false =>
      exfalso
      obtain ⟨q1, q2, q3⟩ := hasK_at hh
      by_cases d : dropK P ver R S k = true
      · rw [if_pos d] at e1 e2
        rw [e1] at q2
        rw [e2] at q3
        exact but_gone q2 q3
      · rw [if_neg d] at e1 e2
        have : hasK P ver k = true := by
          unfold hasK at hh ⊢
          rw [e1, e2, fill_th] at hh
          exact hh
        exact d (stay_not hs this)

theorem FillOk.once (h : FillOk n b np P ver R S of) {i j : Nat} (hij : i < j) (hj : j < np) (hi : hasK (fillP P ver R S np of) ver i = true) (hj' : hasK (fillP P ver R S np of) ver j = true) : numK (fillP P ver R S np of) ver i ≠ numK (fillP P ver R S np of) ver j := by
  have hin : i < np := by omega
  intro e
  rcases h.has hin hi with c | c
  · have e1 := (h.new_at hin c).2.1
    rcases h.has hj hj' with d | d
    · have e2 := (h.new_at hj d).2.1
      have := got_inj h.many c d (by rw [e1, e2] at e; omega)
      omega
    · have e2 := (h.stay_at hj d).2.2.2.1
      refine (got_lack h.many c).2 ?_
      rw [← e1, e, e2]
      exact mem_repS.2 ⟨j, hj, d, rfl⟩
  · have e1 := (h.stay_at hin c).2.2.2.1
    rcases h.has hj hj' with d | d
    · have e2 := (h.new_at hj d).2.1
      refine (got_lack h.many d).2 ?_
      rw [← e2, ← e, e1]
      exact mem_repS.2 ⟨i, hin, c, rfl⟩
    · have e2 := (h.stay_at hj d).2.2.2.1
      exact stay_ne hij c d (by rw [← e1, ← e2]; exact e)

theorem FillOk.cover (h : FillOk n b np P ver R S of) {q : Nat} (hq : q < of) : ∃ k, k < np ∧ hasK (fillP P ver R S np of) ver k = true ∧ numK (fillP P ver R S np of) ver k = (q : Int) := by
  by_cases c : (q : Int) ∈ repS P ver R S np
  · obtain ⟨k, h1, h2, h3⟩ := mem_repS.1 c
    obtain ⟨_, _, g1, g2, _⟩ := h.stay_at h1 h2
    exact ⟨k, h1, g1, g2.trans h3⟩
  · obtain ⟨k, h1, h2, h3⟩ := got_each h.many (mem_lackL.2 ⟨hq, c⟩)
    obtain ⟨g1, g2, _⟩ := h.new_at h1 h2
    exact ⟨k, h1, g1, by rw [g2, h3]⟩

theorem FillOk.good (h : FillOk n b np P ver R S of) {k : Nat} (hk : k < np) (hh : hasK (fillP P ver R S np of) ver k = true) : ∃ q : Nat, q < of ∧ numK (fillP P ver R S np of) ver k = (q : Int) ∧ ((fillP P ver R S np of).t k).L (atK (fillP P ver R S np of) ver k) = R ∧ ∀ r, r < R → ((fillP P ver R S np of).t k).X (atK (fillP P ver R S np of) ver k) r = S q r := by
  obtain ⟨_, q2, q3⟩ := hasK_at hh
  obtain ⟨h1, h2⟩ := (h.right.peer k hk).right _ q2
  have ho := (oneE_ok h2).2.1
  rw [q3, h.of_] at ho
  have hn : numK (fillP P ver R S np of) ver k = ((fillP P ver R S np of).t k).N (atK (fillP P ver R S np of) ver k) := rfl
  refine ⟨(numK (fillP P ver R S np of) ver k).toNat, by omega, by omega, ?_⟩
  rcases h.has hk hh with c | c
  · obtain ⟨_, e1, e2, e3⟩ := h.new_at hk c
    refine ⟨e2, fun r _ => ?_⟩
    rw [e3, e1, Int.toNat_natCast]
  · obtain ⟨_, e2, _, e4, e5⟩ := h.stay_at hk c
    obtain ⟨_, s2, _⟩ := stay_parts c
    unfold goodK sameB eqB at s2
    rw [decide_eq_true rfl, Bool.true_and, decide_eq_true_iff] at s2
    rw [e4, e5, e2]
    refine ⟨s2.1, fun r hr => s2.2 r (by rw [s2.1]; exact hr)⟩

theorem FillOk.there (h : FillOk n b np P ver R S of) : thereL (fillP P ver R S np of) ver np = hereH (fillP P ver R S np of) ver np :=
  thAll_here (fun k hk => (h.right.peer k hk).rise) (fun i j hij hj => h.once hij hj) np (Nat.le_refl _)

theorem FillOk.count (h : FillOk n b np P ver R S of) : (hereH (fillP P ver R S np of) ver np).length = of := by
  have h1 : (hereH (fillP P ver R S np of) ver np).length ≤ of := by
    refine once_len (f := fun x => ((fillP P ver R S np of).t x.1).N x.2) ?_ fun x hx => ?_
    · rw [← h.there]
      exact (thAll_ok _ ver np np (Nat.le_refl _)).once
    · obtain ⟨k, g1, g2, rfl⟩ := mem_hereH.1 hx
      obtain ⟨q, q1, q2, _⟩ := h.good g1 g2
      have : ((fillP P ver R S np of).t k).N (atK (fillP P ver R S np of) ver k) = (q : Int) := q2
      show 0 ≤ ((fillP P ver R S np of).t k).N (atK (fillP P ver R S np of) ver k) ∧ ((fillP P ver R S np of).t k).N (atK (fillP P ver R S np of) ver k) < _
      omega
  have h2 := cover_len of ((hereH (fillP P ver R S np of) ver np).map fun x => ((fillP P ver R S np of).t x.1).N x.2) (fun q hq => by
    obtain ⟨k, g1, g2, g3⟩ := h.cover hq
    exact List.mem_map.2 ⟨(k, atK (fillP P ver R S np of) ver k), mem_hereH.2 ⟨k, g1, g2, rfl⟩, g3⟩)
  rw [List.length_map] at h2
  omega

end


section

variable {n : Nat} {b : Bk} {np : Nat} {P : Ps} {k : Int}

theorem mend_ok (h : mendE n b np P k = 0) : rsE n b np P k = 0 ∧ FillOk n b np P k (rowsN (b.nd k.toNat) (b.sz k.toNat)) (rsS b np P k) (b.of k.toNat).toNat := by
  unfold mendE at h
  by_cases h1 : rsE n b np P k = 0
  · rw [if_pos h1] at h
    obtain ⟨hv, d, m, s, e1, e2, e3, hp⟩ := rsE_ok h1
    obtain ⟨hm, hk⟩ := verM_ok hv
    refine ⟨h1, hm, hk, h, fun q hq => ?_, by omega⟩
    have hl := (planOk_spec hp)
    rw [e2] at hq
    rw [e1, e2, e3]
    refine oneE_mk hp ⟨by omega, by omega⟩ (by rfl) fun j _ => ?_
    unfold rsS
    exact shv_num _ _ _ _ _
  · rw [if_neg h1] at h; exact absurd h h1

end

end Go.Proofs.YtajmnlhfnhbleaaGreat

namespace Go.Proofs.YtajmnlhfnhbleaaGreat

open Go.RowKit CurveMath
set_option linter.unusedVariables false

section

variable {n : Nat} {b : Bk} {np : Nat} {P : Ps} {need of : Int} {len : Nat} {D : Nat → Int} {lp : Nat} {X : Nat → Int}

structure SaveOk (n : Nat) (b : Bk) (np : Nat) (P : Ps) (need of : Int) (len : Nat) (D : Nat → Int) (lp : Nat) (X : Nat → Int) : Prop where
  mesh : MeshR n b np P
  split : splitE need of (len : Int) len D = 0
  book : bookE (n + 1) (saveB n b need of len lp X) = 0
  many : manyE P (n : Int) np (of.toNat : Int) = 0
  of_ : (of.toNat : Int) = of

theorem saveE_ok (h : saveE n b np P need of len D lp X = 0) : SaveOk n b np P need of len D lp X := by
  unfold saveE at h
  by_cases h1 : peersE n b np P = 0
  · rw [if_pos h1] at h
    by_cases h2 : splitE need of (len : Int) len D = 0
    · rw [if_pos h2] at h
      by_cases h3 : bookE (n + 1) (saveB n b need of len lp X) = 0
      · rw [if_pos h3] at h
        have hp := (planOk_spec (splitE_ok h2).1)
        have ho : (of.toNat : Int) = of := by omega
        exact ⟨meshR_of h1, h2, h3, by rw [ho]; exact h, ho⟩
      · rw [if_neg h3] at h; exact absurd h h3
    · rw [if_neg h2] at h; exact absurd h h2
  · rw [if_neg h1] at h; exact absurd h h1

theorem SaveOk.right (h : SaveOk n b np P need of len D lp X) : MeshR (n + 1) (saveB n b need of len lp X) np (saveP n np P need of len D) := by
  refine ⟨h.book, h.mesh.few, fun k hk => ?_⟩
  have hp : PeerR (n + 1) (saveB n b need of len lp X) (P.rm k) (P.m k) (P.t k) := (h.mesh.peer k hk).snoc h.book
  simp only [saveP, giveP]
  by_cases c : 0 ≤ fstAt (forA P (n : Int) np of.toNat) (k : Int) of.toNat 0
  · rw [if_pos c, if_pos c]
    obtain ⟨j, _, hj, e⟩ := (fstAt_neg _ _ _ 0).1 c
    obtain ⟨q, hq1, hq2, hmay, hleft⟩ := forA_at h.many (i := j) (by omega)
    have hqk : q = k := by rw [hq1] at e; omega
    subst hqk
    unfold leftK at hleft
    obtain ⟨i, hi1, _, hi2, _⟩ := (show ∃ i : Nat, fstAt (forA P (n : Int) np of.toNat) (q : Int) of.toNat 0 = (i : Int) ∧ 0 ≤ i ∧ i < of.toNat ∧ True from ⟨(fstAt (forA P (n : Int) np of.toNat) (q : Int) of.toNat 0).toNat, by omega, Nat.zero_le _, by
      have hb : ∀ (m k : Nat), fstAt (forA P (n : Int) np of.toNat) (q : Int) m k < ((k + m : Nat) : Int) := by
        intro m
        induction m with
        | zero => intro k; simp only [fstAt]; omega
        | succ m ih =>
          intro k
          simp only [fstAt]
          by_cases c2 : (q : Int) = forA P (n : Int) np of.toNat k
          · rw [if_pos c2]; omega
          · rw [if_neg c2]; have := ih (k + 1); omega
      have := hb of.toNat 0
      omega, trivial⟩)
    have e1 : (saveB n b need of len lp X).nd (n : Int).toNat = need := by simp [saveB, snocB]
    have e2 : (saveB n b need of len lp X).of (n : Int).toNat = of := by simp [saveB, snocB]
    have e3 : (saveB n b need of len lp X).sz (n : Int).toNat = (len : Int) := by simp [saveB, snocB]
    refine keepT_right hp (by omega) hmay.2 ⟨by omega, by omega⟩ ?_
    rw [e1, e2, e3, hi1, Int.toNat_natCast]
    exact split_right h.split (by rw [← h.of_]; omega)
  · rw [if_neg c, if_neg c]
    exact hp

end

section

variable {np : Nat} {P P' : Ps} {ver : Int}

end

end Go.Proofs.YtajmnlhfnhbleaaGreat

namespace Go.Proofs.YtajmnlhfnhbleaaGreat

open Go.RowKit CurveMath
set_option linter.unusedVariables false

section

variable {n : Nat} {b : Bk} {np : Nat} {P : Ps} {need of : Int} {len : Nat} {D : Nat → Int} {lp : Nat} {X : Nat → Int} {t : Nat → Bool}

def gvn (n np : Nat) (P : Ps) (of : Int) (k : Nat) : Int := fstAt (forA P (n : Int) np of.toNat) (k : Int) of.toNat 0

end

end Go.Proofs.YtajmnlhfnhbleaaGreat

namespace Go.Proofs.YtajmnlhfnhbleaaGreat

open Go.RowKit CurveMath
set_option linter.unusedVariables false

theorem nodup_sub {α : Type} [DecidableEq α] : ∀ (l W : List α), l.Nodup → (∀ x, x ∈ l → x ∈ W) → l.length ≤ W.length := by
  intro l
  induction l with
  | nil => intro W _ _; exact Nat.zero_le _
  | cons a l ih =>
    intro W hn hs
    obtain ⟨h1, h2⟩ := List.nodup_cons.1 hn
    have h3 := ih (W.erase a) h2 fun x hx => (List.mem_erase_of_ne (fun e => h1 (by rw [← e]; exact hx))).2 (hs x (List.mem_cons_of_mem _ hx))
    have h4 := hs a List.mem_cons_self
    rw [List.length_erase_of_mem h4] at h3
    have := List.length_pos_of_mem h4
    rw [List.length_cons]
    omega


def benT (t : Kt) (i : Nat) (c : Int) : Kt := ⟨t.V, t.N, t.L, fun j => if j = i then fun r => if r = 0 then (t.X j 0 + c) % 31 else t.X j r else t.X j⟩
def bentP (P : Ps) (ver : Int) (W : List Nat) (c : Int) : Ps := ⟨P.th, P.rm, P.m, fun k => if k ∈ W then benT (P.t k) (atK P ver k) c else P.t k⟩

section

variable {P : Ps} {ver : Int} {W : List Nat} {c : Int}

end

section

variable {n : Nat} {b : Bk} {np : Nat} {P : Ps} {need of : Int} {len : Nat} {D : Nat → Int} {lp : Nat} {X : Nat → Int} {W : List Nat} {c : Int}

end

end Go.Proofs.YtajmnlhfnhbleaaGreat

namespace Go.Proofs.YtajmnlhfnhbleaaGreat

open Go.RowKit CurveMath
set_option linter.unusedVariables false

structure Hp where
  kd : Int
  N : Int
  M : Int
  len : Nat
  D : Nat → Int
  lp : Nat
  X : Nat → Int
  need : Int
  of : Int

structure Ms where
  n : Nat
  b : Bk
  np : Nat
  P : Ps

def msE (m : Ms) : Int := peersE m.n m.b m.np m.P

def forgP (P : Ps) (ver : Int) : Ps := ⟨P.th, P.rm, fun k => if P.th k = true then (butL (P.t k) ver (P.m k)).length else P.m k, fun k => if P.th k = true then selT (P.t k) (butL (P.t k) ver (P.m k)) else P.t k⟩
def forgE (n : Nat) (b : Bk) (np : Nat) (P : Ps) (v : Int) : Int := if verM n b np P v = 0 then (if v ∈ headsL b n n then 0 else 6) else verM n b np P v

def putT (P : Ps) (k m : Nat) (t : Kt) : Ps := ⟨P.th, P.rm, fun j => if j = k then m else P.m j, fun j => if j = k then t else P.t j⟩
def putB (P : Ps) (k : Nat) (v : Bool) : Ps := ⟨fun j => if j = k then v else P.th j, P.rm, P.m, P.t⟩

def lonE (m : Ms) (x : Hp) : Int :=
  if x.N < 0 ∨ (m.np : Int) ≤ x.N then 4 else
  if x.kd = 2 then (if m.P.th x.N.toNat = true then 0 else 6) else
  if x.kd = 3 then (if m.P.th x.N.toNat = true then 6 else 0) else
  if x.kd = 4 then 0 else (if x.M < 0 ∨ ((m.P.m x.N.toNat : Nat) : Int) ≤ x.M then 4 else 0)
def lonP (m : Ms) (x : Hp) : Ps :=
  if x.kd = 2 then putB m.P x.N.toNat false else
  if x.kd = 3 then putB m.P x.N.toNat true else
  if x.kd = 4 then putT m.P x.N.toNat 0 (m.P.t x.N.toNat) else putT m.P x.N.toNat (m.P.m x.N.toNat) (benT (m.P.t x.N.toNat) x.M.toNat 1)

def happE (m : Ms) (x : Hp) : Int :=
  if x.kd = 1 then saveE m.n m.b m.np m.P x.need x.of x.len x.D x.lp x.X else
  if x.kd = 6 then mendE m.n m.b m.np m.P x.N else
  if x.kd = 7 then forgE m.n m.b m.np m.P x.N else
  if 2 ≤ x.kd ∧ x.kd ≤ 5 then lonE m x else 3
def happM (m : Ms) (x : Hp) : Ms :=
  if x.kd = 1 then ⟨m.n + 1, saveB m.n m.b x.need x.of x.len x.lp x.X, m.np, saveP m.n m.np m.P x.need x.of x.len x.D⟩ else
  if x.kd = 6 then ⟨m.n, m.b, m.np, mendP m.b m.np m.P x.N⟩ else
  if x.kd = 7 then ⟨m.n, m.b, m.np, forgP m.P x.N⟩ else ⟨m.n, m.b, m.np, lonP m x⟩
def doE (m : Ms) (x : Hp) : Int := if msE m = 0 then happE m x else msE m
def stepM (m : Ms) (x : Hp) : Ms := if happE m x = 0 then happM m x else m
def runM (m : Ms) (l : List Hp) : Ms := l.foldl stepM m
def runS : Ms → List Hp → List Int
  | _, [] => []
  | m, x :: l => happE m x :: runS (stepM m x) l
def runE (m : Ms) (len : Nat) : Int := if msE m = 0 then (if len ≤ 100 then 0 else 1) else msE m

theorem runM_parts (m : Ms) (l k : List Hp) : runM m (l ++ k) = runM (runM m l) k := List.foldl_append
theorem runS_parts (l : List Hp) : ∀ (m : Ms) (k : List Hp), runS m (l ++ k) = runS m l ++ runS (runM m l) k := by
  induction l with
  | nil => intro m k; rfl
  | cons x l ih => intro m k; simp only [List.cons_append, runS, ih]; rfl
theorem runS_len (l : List Hp) : ∀ m : Ms, (runS m l).length = l.length := by
  induction l with
  | nil => intro m; rfl
  | cons x l ih => intro m; simp only [runS, List.length_cons, ih]


theorem ms_right {m : Ms} (h : msE m = 0) : MeshR m.n m.b m.np m.P := meshR_of h

theorem MeshR.forg {n : Nat} {b : Bk} {np : Nat} {P : Ps} (h : MeshR n b np P) (v : Int) : MeshR n b np (forgP P v) := by
  refine ⟨h.book, h.few, fun k hk => ?_⟩
  simp only [forgP]
  by_cases c : P.th k = true
  · rw [if_pos c, if_pos c]; exact (h.peer k hk).but v
  · rw [if_neg c, if_neg c]; exact h.peer k hk

theorem MeshR.putB {n : Nat} {b : Bk} {np : Nat} {P : Ps} (h : MeshR n b np P) (k : Nat) (v : Bool) : MeshR n b np (putB P k v) := ⟨h.book, h.few, h.peer⟩

theorem MeshR.putT {n : Nat} {b : Bk} {np : Nat} {P : Ps} (h : MeshR n b np P) {k m : Nat} {t : Kt} (hp : PeerR n b (P.rm k) m t) : MeshR n b np (putT P k m t) := by
  refine ⟨h.book, h.few, fun j hj => ?_⟩
  by_cases e : j = k
  · subst e
    simp only [Go.Proofs.YtajmnlhfnhbleaaGreat.putT, if_true]
    exact hp
  · simp only [Go.Proofs.YtajmnlhfnhbleaaGreat.putT, if_neg e]
    exact h.peer j hj

theorem PeerR.none {n : Nat} {b : Bk} {room : Int} {m : Nat} {t : Kt} (h : PeerR n b room m t) : PeerR n b room 0 t :=
  ⟨h.book, h.room_, by have := h.room_; omega, fun j hj => absurd hj (Nat.not_lt_zero _), fun i j _ hj => absurd hj (Nat.not_lt_zero _)⟩

theorem ben_X (t : Kt) (i : Nat) (c : Int) (j r : Nat) : (benT t i c).X j r = if j = i ∧ r = 0 then (t.X i 0 + c) % 31 else t.X j r := by
  simp only [benT]
  by_cases h : j = i
  · subst h
    rw [if_pos rfl]
    by_cases hr : r = 0
    · rw [if_pos hr, if_pos ⟨rfl, hr⟩]
    · rw [if_neg hr, if_neg (fun q => hr q.2)]
  · rw [if_neg h, if_neg (fun q => h q.1)]

theorem PeerR.ben {n : Nat} {b : Bk} {room : Int} {m : Nat} {t : Kt} (h : PeerR n b room m t) (i : Nat) (c : Int) : PeerR n b room m (benT t i c) := by
  refine ⟨h.book, h.room_, h.few, fun j hj => ?_, h.rise⟩
  obtain ⟨h1, h2⟩ := h.right j hj
  refine ⟨h1, ?_⟩
  unfold oneK at h2 ⊢
  obtain ⟨g1, g2, g3, g4⟩ := oneE_ok h2
  refine oneE_mk g1 g2 g3 fun r hr => ?_
  have h5 := of_decide_eq_true g4 r hr
  unfold isNum at h5
  rw [decide_eq_true_iff] at h5
  rw [ben_X]
  by_cases hc : j = i ∧ r = 0
  · rw [if_pos hc]; omega
  · rw [if_neg hc]; exact h5

theorem lon_ok {m : Ms} {x : Hp} (h : lonE m x = 0) : 0 ≤ x.N ∧ x.N.toNat < m.np ∧ (x.kd = 2 → m.P.th x.N.toNat = true) ∧ (x.kd = 3 → m.P.th x.N.toNat = false) ∧ (x.kd ≠ 2 → x.kd ≠ 3 → x.kd ≠ 4 → 0 ≤ x.M ∧ x.M.toNat < m.P.m x.N.toNat) := by
  unfold lonE at h
  by_cases h1 : x.N < 0 ∨ (m.np : Int) ≤ x.N
  · rw [if_pos h1] at h; omega
  · rw [if_neg h1] at h
    refine ⟨by omega, by omega, fun e => ?_, fun e => ?_, fun e2 e3 e4 => ?_⟩
    · rw [if_pos e] at h
      by_cases c : m.P.th x.N.toNat = true
      · exact c
      · rw [if_neg c] at h; omega
    · rw [if_neg (by omega), if_pos e] at h
      by_cases c : m.P.th x.N.toNat = true
      · rw [if_pos c] at h; omega
      · simpa using c
    · rw [if_neg e2, if_neg e3, if_neg e4] at h
      by_cases c : x.M < 0 ∨ ((m.P.m x.N.toNat : Nat) : Int) ≤ x.M
      · rw [if_pos c] at h; omega
      · omega

theorem MeshR.lon {m : Ms} (h : MeshR m.n m.b m.np m.P) {x : Hp} (hx : lonE m x = 0) : MeshR m.n m.b m.np (lonP m x) := by
  obtain ⟨_, h1, _⟩ := lon_ok hx
  unfold lonP
  by_cases c2 : x.kd = 2
  · rw [if_pos c2]; exact h.putB _ _
  · rw [if_neg c2]
    by_cases c3 : x.kd = 3
    · rw [if_pos c3]; exact h.putB _ _
    · rw [if_neg c3]
      by_cases c4 : x.kd = 4
      · rw [if_pos c4]; exact h.putT (h.peer _ h1).none
      · rw [if_neg c4]; exact h.putT ((h.peer _ h1).ben _ _)

theorem happ_right {m : Ms} {x : Hp} (hm : msE m = 0) (h : happE m x = 0) : msE (happM m x) = 0 := by
  unfold happE at h
  unfold happM
  have hR := ms_right hm
  by_cases c1 : x.kd = 1
  · rw [if_pos c1] at h ⊢; exact (saveE_ok h).right.e
  · rw [if_neg c1] at h ⊢
    by_cases c6 : x.kd = 6
    · rw [if_pos c6] at h ⊢; exact (mend_ok h).2.right.e
    · rw [if_neg c6] at h ⊢
      by_cases c7 : x.kd = 7
      · rw [if_pos c7] at h ⊢; exact (hR.forg _).e
      · rw [if_neg c7] at h ⊢
        by_cases c : 2 ≤ x.kd ∧ x.kd ≤ 5
        · rw [if_pos c] at h; exact (hR.lon h).e
        · rw [if_neg c] at h; omega

theorem step_right {m : Ms} {x : Hp} (hm : msE m = 0) : msE (stepM m x) = 0 := by
  unfold stepM
  by_cases c : happE m x = 0
  · rw [if_pos c]; exact happ_right hm c
  · rw [if_neg c]; exact hm

theorem run_right (l : List Hp) : ∀ {m : Ms}, msE m = 0 → msE (runM m l) = 0 := by
  induction l with
  | nil => intro m h; exact h
  | cons x l ih => intro m h; exact ih (step_right h)

theorem happ_n (m : Ms) (x : Hp) : (happM m x).n = if x.kd = 1 then m.n + 1 else m.n := by
  unfold happM
  by_cases c1 : x.kd = 1
  · rw [if_pos c1, if_pos c1]
  · rw [if_neg c1, if_neg c1]
    by_cases c6 : x.kd = 6
    · rw [if_pos c6]
    · rw [if_neg c6]
      by_cases c7 : x.kd = 7
      · rw [if_pos c7]
      · rw [if_neg c7]


end Go.Proofs.YtajmnlhfnhbleaaGreat

namespace Go.Proofs.YtajmnlhfnhbleaaGreat

open Go.RowKit
set_option linter.unusedVariables false

def NewV (B : Nat) (w : World) (v : Value) : Prop := ∀ ad n c, v = .slice (some ad) n c → B ≤ ad.block ∧ ad.block < w.heap.size ∧ ∀ i, w.frozen? ⟨ad.block, i, none⟩ = false

theorem NewV.none (B : Nat) (w : World) (n c : Nat) : NewV B w (.slice .none n c) := fun ad n' c' e => by cases e

theorem NewV.up {B : Nat} {w w' : World} {v : Value} (h : NewV B w v) (hb : Below w.heap.size w w') : NewV B w' v := fun ad n c e => by
  obtain ⟨h1, h2, h3⟩ := h ad n c e
  exact ⟨h1, Nat.lt_of_lt_of_le h2 hb.size, fun i => by rw [← h3 i]; exact World.frozen?_of_block (hb.block _ h2)⟩

theorem NewV.mono {B B' : Nat} {w : World} {v : Value} (h : NewV B w v) (hb : B' ≤ B) : NewV B' w v := fun ad n c e => ⟨Nat.le_trans hb (h ad n c e).1, (h ad n c e).2⟩

theorem frozen_setN {w : World} {a b : Addr} {u : Value} : (w.setCell a u).frozen? b = w.frozen? b := by
  unfold World.frozen? World.setCell
  simp only [Array.getElem?_modify]
  by_cases h : a.block = b.block
  · rw [if_pos h]
    cases hb : w.heap[b.block]? with
    | none => rfl
    | some x => cases x <;> rfl
  · rw [if_neg h]

theorem NewV.set {B : Nat} {w : World} {v : Value} (h : NewV B w v) (a : Addr) (u : Value) : NewV B (w.setCell a u) v := fun ad n c e => by
  obtain ⟨h1, h2, h3⟩ := h ad n c e
  exact ⟨h1, by simpa [World.setCell] using h2, fun i => by rw [frozen_setN]; exact h3 i⟩

theorem NewV.above {B : Nat} {w : World} {v : Value} (h : NewV B w v) : Above B v := fun ad n c e => (h ad n c e).1

theorem NewV.grown {B : Nat} {w w' : World} {v : Value} {row : Option Nat} (h : NewV B w v) (hg : w.grownBy w' row) (hne : ∀ ad n c, v = .slice (some ad) n c → some ad.block ≠ row) : NewV B w' v := fun ad n c e => by
  obtain ⟨h1, h2, h3⟩ := h ad n c e
  exact ⟨h1, Nat.lt_of_lt_of_le h2 hg.size, fun i => by rw [← h3 i]; exact World.frozen?_of_block (hg.block _ h2 (hne ad n c e))⟩

theorem newV_block {B : Nat} {w : World} {g n c : Nat} {cs : Array Value} {T : TypeId} (h : w.heap[g]? = some (.cells cs T (0, 0))) (hB : B ≤ g) : NewV B w (.slice (some ⟨g, 0, .none⟩) n c) := fun ad n' c' e => by
  injection e with e1
  injection e1 with e1
  subst e1
  exact ⟨hB, (Array.getElem?_eq_some_iff.1 h).1, fun i => frozen_at h⟩

theorem owns_new {w : World} {base : Nat} {e : TypeId} {size : Nat} {v : Value} {n : Nat} {xs : List Value} (h : w.ownsRow base e size v n xs) : NewV base w v := by
  rcases h.2 with ⟨rfl, _⟩ | ⟨g, cap, cur, rfl, hg, hh, _⟩
  · exact NewV.none base w _ _
  · exact newV_block hh hg

end Go.Proofs.YtajmnlhfnhbleaaGreat
