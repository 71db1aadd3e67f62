/- Several texts of one proof, in their order. -/
import Derived.Test.YtikchpffkhohlaaGreatMSum9

namespace Go.Proofs.YtikchpffkhohlaaGreat

open Go.RowKit CurveMath
set_option linter.unusedVariables false

theorem keepL_top {t : Kt} {ver : Int} {m : Nat} (h : ∀ j, j < m → t.V j < ver) : keepL t ver m = List.range (m + 1) := by
  have h1 : agL (ahB t ver) m = List.range m := by
    unfold agL
    rw [List.filter_eq_self]
    intro j hj
    exact decide_eq_true (h j (List.mem_range.1 hj))
  have h2 : agL (bhB t ver) m = [] := by
    unfold agL
    rw [List.filter_eq_nil_iff]
    intro j hj
    have := h j (List.mem_range.1 hj)
    unfold bhB
    simp
    omega
  unfold keepL
  rw [h1, h2, List.append_nil, List.range_succ]

theorem keepT_top {t : Kt} {ver N : Int} {m L : Nat} {X : Nat → Int} (h : ∀ j, j < m → t.V j < ver) : ∀ j, j < m + 1 → (keepT t m ver N L X).V j = (snocT m t ver N L X).V j ∧ (keepT t m ver N L X).N j = (snocT m t ver N L X).N j ∧ (keepT t m ver N L X).L j = (snocT m t ver N L X).L j ∧ (keepT t m ver N L X).X j = (snocT m t ver N L X).X j := by
  intro j hj
  have e : (List.range (m + 1)).getD j 0 = j := by simp [List.getD_eq_getElem?_getD, hj]
  simp only [keepT, selT, keepL_top h, e]
  exact ⟨trivial, trivial, trivial, trivial⟩

theorem snocT_same {t : Kt} {m : Nat} {ver N : Int} {L : Nat} {X : Nat → Int} {i : Nat} (h : i < m) : (snocT m t ver N L X).V i = t.V i ∧ (snocT m t ver N L X).N i = t.N i ∧ (snocT m t ver N L X).L i = t.L i ∧ (snocT m t ver N L X).X i = t.X i := by
  have hne : i ≠ m := by omega
  simp [snocT, hne]

section

variable {n : Nat} {b : Bk} {np : Nat} {P : Ps} {need of : Int} {len : Nat} {D : Nat → Int} {lp : Nat} {X : Nat → Int}

structure SaveOk (n : Nat) (b : Bk) (np : Nat) (P : Ps) (need of : Int) (len : Nat) (D : Nat → Int) (lp : Nat) (X : Nat → Int) : Prop where
  mesh : MeshR n b np P
  split : splitE need of (len : Int) len D = 0
  book : bookE (n + 1) (saveB n b need of len lp X) = 0
  many : manyE P (n : Int) np (of.toNat : Int) = 0
  of_ : (of.toNat : Int) = of

theorem saveE_ok (h : saveE n b np P need of len D lp X = 0) : SaveOk n b np P need of len D lp X := by
  unfold saveE at h
  by_cases h1 : peersE n b np P = 0
  · rw [if_pos h1] at h
    by_cases h2 : splitE need of (len : Int) len D = 0
    · rw [if_pos h2] at h
      by_cases h3 : bookE (n + 1) (saveB n b need of len lp X) = 0
      · rw [if_pos h3] at h
        have hp := (planOk_spec (splitE_ok h2).1)
        have ho : (of.toNat : Int) = of := by omega
        exact ⟨meshR_of h1, h2, h3, by rw [ho]; exact h, ho⟩
      · rw [if_neg h3] at h; exact absurd h h3
    · rw [if_neg h2] at h; exact absurd h h2
  · rw [if_neg h1] at h; exact absurd h h1

theorem SaveOk.right (h : SaveOk n b np P need of len D lp X) : MeshR (n + 1) (saveB n b need of len lp X) np (saveP n np P need of len D) := by
  refine ⟨h.book, h.mesh.few, fun k hk => ?_⟩
  have hp : PeerR (n + 1) (saveB n b need of len lp X) (P.rm k) (P.m k) (P.t k) := (h.mesh.peer k hk).snoc h.book
  simp only [saveP, giveP]
  by_cases c : 0 ≤ fstAt (forA P (n : Int) np of.toNat) (k : Int) of.toNat 0
  · rw [if_pos c, if_pos c]
    obtain ⟨j, _, hj, e⟩ := (fstAt_neg _ _ _ 0).1 c
    obtain ⟨q, hq1, hq2, hmay, hleft⟩ := forA_at h.many (i := j) (by omega)
    have hqk : q = k := by rw [hq1] at e; omega
    subst hqk
    unfold leftK at hleft
    obtain ⟨i, hi1, _, hi2, _⟩ := (show ∃ i : Nat, fstAt (forA P (n : Int) np of.toNat) (q : Int) of.toNat 0 = (i : Int) ∧ 0 ≤ i ∧ i < of.toNat ∧ True from ⟨(fstAt (forA P (n : Int) np of.toNat) (q : Int) of.toNat 0).toNat, by omega, Nat.zero_le _, by
      have hb : ∀ (m k : Nat), fstAt (forA P (n : Int) np of.toNat) (q : Int) m k < ((k + m : Nat) : Int) := by
        intro m
        induction m with
        | zero => intro k; simp only [fstAt]; omega
        | succ m ih =>
          intro k
          simp only [fstAt]
          by_cases c2 : (q : Int) = forA P (n : Int) np of.toNat k
          · rw [if_pos c2]; omega
          · rw [if_neg c2]; have := ih (k + 1); omega
      have := hb of.toNat 0
      omega, trivial⟩)
    have e1 : (saveB n b need of len lp X).nd (n : Int).toNat = need := by simp [saveB, snocB]
    have e2 : (saveB n b need of len lp X).of (n : Int).toNat = of := by simp [saveB, snocB]
    have e3 : (saveB n b need of len lp X).sz (n : Int).toNat = (len : Int) := by simp [saveB, snocB]
    refine keepT_right hp (by omega) hmay.2 ⟨by omega, by omega⟩ ?_
    rw [e1, e2, e3, hi1, Int.toNat_natCast]
    exact split_right h.split (by rw [← h.of_]; omega)
  · rw [if_neg c, if_neg c]
    exact hp

end

structure AlikeV (np : Nat) (P P' : Ps) (ver : Int) : Prop where
  th : ∀ k, k < np → P'.th k = P.th k
  at_ : ∀ k, k < np → ∀ i, i < P.m k → (P'.t k).V i = (P.t k).V i ∧ (P'.t k).N i = (P.t k).N i ∧ (P'.t k).L i = (P.t k).L i ∧ (P'.t k).X i = (P.t k).X i
  more : ∀ k, k < np → P'.m k = P.m k ∨ (P'.m k = P.m k + 1 ∧ (P'.t k).V (P.m k) ≠ ver)

section

variable {np : Nat} {P P' : Ps} {ver : Int}

theorem any_eq {α : Type} {l : List α} {p q : α → Bool} (h : ∀ x, x ∈ l → p x = q x) : l.any p = l.any q := by
  induction l with
  | nil => rfl
  | cons a l ih => rw [List.any_cons, List.any_cons, h a (by simp), ih fun x hx => h x (by simp [hx])]

theorem AlikeV.seen (h : AlikeV np P P' ver) {l : List (Nat × Nat)} (hl : ThOk P ver np l) (N : Int) : seenN P' l N = seenN P l N := by
  unfold seenN
  refine any_eq fun x hx => ?_
  obtain ⟨h1, h2, _⟩ := hl.at_ x hx
  rw [(h.at_ x.1 h1 x.2 h2).2.1]

theorem AlikeV.step (h : AlikeV np P P' ver) {l : List (Nat × Nat)} (hl : ThOk P ver np l) {k i : Nat} (hk : k < np) (hi : i < P.m k) : thStep P' ver k l i = thStep P ver k l i := by
  obtain ⟨h1, h2, _⟩ := h.at_ k hk i hi
  unfold thStep isTh
  rw [h.th k hk, h1, h2, h.seen hl]

theorem AlikeV.row (h : AlikeV np P P' ver) {l : List (Nat × Nat)} (hl : ThOk P ver np l) {k : Nat} (hk : k < np) : ∀ f, f ≤ P.m k → thRow P' ver k l f = thRow P ver k l f := by
  intro f
  induction f with
  | zero => intro _; rfl
  | succ f ih =>
    intro hf
    rw [thRow_succ, thRow_succ, ih (by omega)]
    exact h.step (hl.row hk f (by omega)) hk (by omega)

theorem AlikeV.rows (h : AlikeV np P P' ver) {l : List (Nat × Nat)} (hl : ThOk P ver np l) {k : Nat} (hk : k < np) : thRow P' ver k l (P'.m k) = thRow P ver k l (P.m k) := by
  rcases h.more k hk with e | ⟨e, hne⟩
  · rw [e]; exact h.row hl hk _ (Nat.le_refl _)
  · rw [e, thRow_succ, h.row hl hk _ (Nat.le_refl _)]
    unfold thStep isTh
    rw [decide_eq_false hne, Bool.and_false, Bool.false_and, if_neg (by decide)]

theorem AlikeV.all (h : AlikeV np P P' ver) : ∀ f, f ≤ np → thAll P' ver f = thAll P ver f := by
  intro f
  induction f with
  | zero => intro _; rfl
  | succ f ih =>
    intro hf
    rw [thAll_succ, thAll_succ, ih (by omega)]
    exact h.rows (thAll_ok P ver np f (by omega)) (by omega)

theorem AlikeV.there (h : AlikeV np P P' ver) : thereL P' ver np = thereL P ver np := h.all np (Nat.le_refl _)

theorem AlikeV.shares (h : AlikeV np P P' ver) : nT P' (thereL P ver np) = nT P (thereL P ver np) ∧ lT P' (thereL P ver np) = lT P (thereL P ver np) ∧ xT P' (thereL P ver np) = xT P (thereL P ver np) := by
  have key : ∀ j, j < (thereL P ver np).length → ((thereL P ver np).getD j (0, 0)).1 < np ∧ ((thereL P ver np).getD j (0, 0)).2 < P.m ((thereL P ver np).getD j (0, 0)).1 := fun j hj => by
    obtain ⟨h1, h2, _⟩ := (thAll_ok P ver np np (Nat.le_refl _)).at_ _ (getD_in hj)
    exact ⟨h1, h2⟩
  refine ⟨?_, ?_, ?_⟩ <;> funext j
  · unfold nT nL
    by_cases c : j < (thereL P ver np).length
    · rw [if_pos c, if_pos c, (h.at_ _ (key j c).1 _ (key j c).2).2.1]
    · rw [if_neg c, if_neg c]
  · unfold lT lL
    by_cases c : j < (thereL P ver np).length
    · rw [if_pos c, if_pos c, (h.at_ _ (key j c).1 _ (key j c).2).2.2.1]
    · rw [if_neg c, if_neg c]
  · unfold xT xL
    by_cases c : j < (thereL P ver np).length
    · rw [if_pos c, if_pos c, (h.at_ _ (key j c).1 _ (key j c).2).2.2.2]
    · rw [if_neg c, if_neg c]

end

theorem SaveOk.elder {n : Nat} {b : Bk} {np : Nat} {P : Ps} {need of : Int} {len : Nat} {D : Nat → Int} {lp : Nat} {X : Nat → Int} (h : SaveOk n b np P need of len D lp X) {old : Int} (ho : 0 ≤ old ∧ old < (n : Int)) :
    rsE (n + 1) (saveB n b need of len lp X) np (saveP n np P need of len D) old = rsE n b np P old ∧ rsD (saveB n b need of len lp X) np (saveP n np P need of len D) old = rsD b np P old ∧ rsB (n + 1) (saveB n b need of len lp X) np (saveP n np P need of len D) old = rsB n b np P old := by
  have hlt : ∀ k, k < np → ∀ j, j < P.m k → (P.t k).V j < (n : Int) := fun k hk j hj => ((h.mesh.peer k hk).right j hj).1.2
  have ha : AlikeV np P (saveP n np P need of len D) old := by
    refine ⟨fun k _ => rfl, fun k hk i hi => ?_, fun k hk => ?_⟩
    · simp only [saveP, giveP]
      by_cases c : 0 ≤ fstAt (forA P (n : Int) np of.toNat) (k : Int) of.toNat 0
      · rw [if_pos c]
        obtain ⟨e1, e2, e3, e4⟩ := keepT_top (N := (((fstAt (forA P (n : Int) np of.toNat) (k : Int) of.toNat 0).toNat : Nat) : Int)) (L := rowsN need (len : Int)) (X := fun r => shv need.toNat len D (fstAt (forA P (n : Int) np of.toNat) (k : Int) of.toNat 0).toNat r) (hlt k hk) i (by omega)
        obtain ⟨g1, g2, g3, g4⟩ := snocT_same (t := P.t k) (m := P.m k) (ver := (n : Int)) (N := (((fstAt (forA P (n : Int) np of.toNat) (k : Int) of.toNat 0).toNat : Nat) : Int)) (L := rowsN need (len : Int)) (X := fun r => shv need.toNat len D (fstAt (forA P (n : Int) np of.toNat) (k : Int) of.toNat 0).toNat r) hi
        exact ⟨e1.trans g1, e2.trans g2, e3.trans g3, e4.trans g4⟩
      · rw [if_neg c]; exact ⟨rfl, rfl, rfl, rfl⟩
    · simp only [saveP, giveP]
      by_cases c : 0 ≤ fstAt (forA P (n : Int) np of.toNat) (k : Int) of.toNat 0
      · rw [if_pos c, if_pos c]
        refine Or.inr ⟨rfl, ?_⟩
        have e1 := (keepT_top (N := (((fstAt (forA P (n : Int) np of.toNat) (k : Int) of.toNat 0).toNat : Nat) : Int)) (L := rowsN need (len : Int)) (X := fun r => shv need.toNat len D (fstAt (forA P (n : Int) np of.toNat) (k : Int) of.toNat 0).toNat r) (hlt k hk) (P.m k) (by omega)).1
        rw [e1]
        simp [snocT]
        omega
      · rw [if_neg c]; exact Or.inl rfl
  have hb : ∀ q : Nat, q ≠ n → (saveB n b need of len lp X).nd q = b.nd q ∧ (saveB n b need of len lp X).of q = b.of q ∧ (saveB n b need of len lp X).sz q = b.sz q := fun q hq => by simp [saveB, snocB, hq]
  obtain ⟨b1, b2, b3⟩ := hb old.toNat (by omega)
  obtain ⟨s1, s2, s3⟩ := ha.shares
  have hv : verM (n + 1) (saveB n b need of len lp X) np (saveP n np P need of len D) old = 0 := by unfold verM; rw [if_pos h.right.e, if_pos ⟨ho.1, by omega⟩]
  have hv' : verM n b np P old = 0 := by unfold verM; rw [if_pos h.mesh.e, if_pos ho]
  refine ⟨?_, ?_, ?_⟩
  · unfold rsE; rw [hv, hv', ha.there, b1, b2, b3, s1, s2, s3]
  · unfold rsD; rw [ha.there, b1, b3, s1, s3]
  · unfold rsB; rw [hv, hv', ha.there, b1, b2, b3, s1, s2, s3]

end Go.Proofs.YtikchpffkhohlaaGreat
