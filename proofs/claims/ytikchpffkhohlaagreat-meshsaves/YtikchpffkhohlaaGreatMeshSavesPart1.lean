/- Several texts of one proof, in their order. -/
import Derived.Test.YtikchpffkhohlaaGreatMeshSavesPart0
import Derived.Test.YtikchpffkhohlaaGreatMSum10

namespace Go.Proofs.YtikchpffkhohlaaGreat

open Go.RowKit CurveMath
set_option linter.unusedVariables false

def goP (P : Ps) (t : Nat → Bool) : Ps := ⟨t, P.rm, P.m, P.t⟩

section

variable {n : Nat} {b : Bk} {np : Nat} {P : Ps} {need of : Int} {len : Nat} {D : Nat → Int} {lp : Nat} {X : Nat → Int} {t : Nat → Bool}

def gvn (n np : Nat) (P : Ps) (of : Int) (k : Nat) : Int := fstAt (forA P (n : Int) np of.toNat) (k : Int) of.toNat 0

theorem gvn_at {k : Nat} (h : 0 ≤ gvn n np P of k) : ∃ i : Nat, gvn n np P of k = (i : Int) ∧ i < of.toNat ∧ forA P (n : Int) np of.toNat i = (k : Int) := by
  obtain ⟨i, h1, _, h2, h3⟩ := fstAt_place _ _ _ _ h
  exact ⟨i, h1, by omega, h3⟩

theorem gvn_inj {k k' : Nat} (h : 0 ≤ gvn n np P of k) (e : gvn n np P of k = gvn n np P of k') : k = k' := by
  obtain ⟨i, h1, _, h3⟩ := gvn_at h
  obtain ⟨i', g1, _, g3⟩ := gvn_at (k := k') (by rw [← e]; exact h)
  have : i = i' := by omega
  subst this
  rw [h3] at g3
  omega

def hereB (n np : Nat) (P : Ps) (of : Int) (t : Nat → Bool) (k : Nat) : Bool := t k && decide (0 ≤ gvn n np P of k)
def hereL (n np : Nat) (P : Ps) (of : Int) (t : Nat → Bool) (f : Nat) : List (Nat × Nat) := ((List.range f).filter (hereB n np P of t)).map fun k => (k, P.m k)

theorem hereL_succ (f : Nat) : hereL n np P of t (f + 1) = hereL n np P of t f ++ (if hereB n np P of t f = true then [(f, P.m f)] else []) := by
  unfold hereL
  rw [List.range_succ, List.filter_append, List.map_append, List.filter_cons, List.filter_nil]
  by_cases c : hereB n np P of t f = true
  · rw [if_pos c, if_pos c]; rfl
  · rw [if_neg c, if_neg c]; rfl

theorem mem_hereL {f : Nat} {x : Nat × Nat} : x ∈ hereL n np P of t f ↔ ∃ k, k < f ∧ hereB n np P of t k = true ∧ x = (k, P.m k) := by
  unfold hereL
  rw [List.mem_map]
  constructor
  · rintro ⟨k, hk, rfl⟩
    rw [List.mem_filter, List.mem_range] at hk
    exact ⟨k, hk.1, hk.2, rfl⟩
  · rintro ⟨k, h1, h2, rfl⟩
    exact ⟨k, List.mem_filter.2 ⟨List.mem_range.2 h1, h2⟩, rfl⟩

theorem save_old (h : SaveOk n b np P need of len D lp X) {k i : Nat} (hk : k < np) (hi : i < P.m k) : ((saveP n np P need of len D).t k).V i = (P.t k).V i := by
  have hlt : ∀ j, j < P.m k → (P.t k).V j < (n : Int) := fun j hj => ((h.mesh.peer k hk).right j hj).1.2
  simp only [saveP, giveP]
  by_cases c : 0 ≤ fstAt (forA P (n : Int) np of.toNat) (k : Int) of.toNat 0
  · rw [if_pos c, (keepT_top hlt i (by omega)).1, (snocT_same hi).1]
  · rw [if_neg c]

theorem save_new (h : SaveOk n b np P need of len D lp X) {k : Nat} (hk : k < np) (c : 0 ≤ gvn n np P of k) : (saveP n np P need of len D).m k = P.m k + 1 ∧ ((saveP n np P need of len D).t k).V (P.m k) = (n : Int) ∧ ((saveP n np P need of len D).t k).N (P.m k) = gvn n np P of k ∧
    ((saveP n np P need of len D).t k).L (P.m k) = rowsN need (len : Int) ∧ ((saveP n np P need of len D).t k).X (P.m k) = fun r => shv need.toNat len D (gvn n np P of k).toNat r := by
  have hlt : ∀ j, j < P.m k → (P.t k).V j < (n : Int) := fun j hj => ((h.mesh.peer k hk).right j hj).1.2
  have c' : 0 ≤ fstAt (forA P (n : Int) np of.toNat) (k : Int) of.toNat 0 := c
  obtain ⟨i, hi, _, _⟩ := gvn_at c
  have hi' : fstAt (forA P (n : Int) np of.toNat) (k : Int) of.toNat 0 = (i : Int) := hi
  simp only [saveP, giveP]
  rw [if_pos c', if_pos c', hi, hi', Int.toNat_natCast]
  obtain ⟨e1, e2, e3, e4⟩ := keepT_top (N := (i : Int)) (L := rowsN need (len : Int)) (X := fun r => shv need.toNat len D i r) hlt (P.m k) (by omega)
  refine ⟨rfl, e1.trans ?_, e2.trans ?_, e3.trans ?_, e4.trans ?_⟩ <;> simp [snocT]

theorem save_not {k : Nat} (c : ¬ 0 ≤ gvn n np P of k) : (saveP n np P need of len D).m k = P.m k := by
  have c' : ¬ 0 ≤ fstAt (forA P (n : Int) np of.toNat) (k : Int) of.toNat 0 := c
  simp only [saveP, giveP]
  rw [if_neg c']

theorem rowE_none (h : SaveOk n b np P need of len D lp X) {k : Nat} (hk : k < np) (l : List (Nat × Nat)) : ∀ f, f ≤ P.m k → thRow (goP (saveP n np P need of len D) t) (n : Int) k l f = l := by
  intro f
  induction f with
  | zero => intro _; rfl
  | succ f ih =>
    intro hf
    rw [thRow_succ, ih (by omega)]
    have hv : ((goP (saveP n np P need of len D) t).t k).V f = (P.t k).V f := save_old h hk (by omega)
    have hlt := ((h.mesh.peer k hk).right f (by omega)).1.2
    unfold thStep isTh
    rw [hv, decide_eq_false (by omega), Bool.and_false, Bool.false_and, if_neg (by decide)]

theorem there_new (h : SaveOk n b np P need of len D lp X) : ∀ f, f ≤ np → thAll (goP (saveP n np P need of len D) t) (n : Int) f = hereL n np P of t f := by
  intro f
  induction f with
  | zero => intro _; rfl
  | succ f ih =>
    intro hf
    rw [thAll_succ, ih (by omega), hereL_succ]
    have hfn : f < np := by omega
    by_cases c : 0 ≤ gvn n np P of f
    · obtain ⟨e1, e2, e3, _⟩ := save_new h hfn c
      have em : (goP (saveP n np P need of len D) t).m f = P.m f + 1 := e1
      rw [em, thRow_succ, rowE_none h hfn _ _ (Nat.le_refl _)]
      have ev : ((goP (saveP n np P need of len D) t).t f).V (P.m f) = (n : Int) := e2
      have en : ((goP (saveP n np P need of len D) t).t f).N (P.m f) = gvn n np P of f := e3
      have hs : seenN (goP (saveP n np P need of len D) t) (hereL n np P of t f) (gvn n np P of f) = false := by
        rw [Bool.eq_false_iff]
        intro hb
        obtain ⟨x, hx, e⟩ := seenN_iff.1 hb
        obtain ⟨k, hk, hh, rfl⟩ := mem_hereL.1 hx
        unfold hereB at hh
        rw [Bool.and_eq_true, decide_eq_true_iff] at hh
        have e9 : ((goP (saveP n np P need of len D) t).t k).N (P.m k) = gvn n np P of k := (save_new h (by omega) hh.2).2.2.1
        have := gvn_inj hh.2 (e9.symm.trans e)
        omega
      unfold thStep isTh hereB
      rw [ev, en, hs, decide_eq_true rfl, decide_eq_true c, Bool.and_true, Bool.not_false, Bool.and_true]
      have et : (goP (saveP n np P need of len D) t).th f = t f := rfl
      rw [et, Bool.and_true]
      by_cases ct : t f = true
      · rw [if_pos ct, if_pos ct]
      · rw [if_neg ct, if_neg ct, List.append_nil]
    · have em : (goP (saveP n np P need of len D) t).m f = P.m f := save_not (need := need) (len := len) (D := D) c
      rw [em, rowE_none h hfn _ _ (Nat.le_refl _)]
      unfold hereB
      rw [decide_eq_false c, Bool.and_false, if_neg (by decide), List.append_nil]
theorem here_at (h : SaveOk n b np P need of len D lp X) {j : Nat} (hj : j < (hereL n np P of t np).length) : ∃ (k i : Nat), (hereL n np P of t np).getD j (0, 0) = (k, P.m k) ∧ k < np ∧ gvn n np P of k = (i : Int) ∧ i < of.toNat := by
  obtain ⟨k, h1, h2, h3⟩ := mem_hereL.1 (getD_in (d := (0, 0)) hj)
  unfold hereB at h2
  rw [Bool.and_eq_true, decide_eq_true_iff] at h2
  obtain ⟨i, g1, g2, _⟩ := gvn_at h2.2
  exact ⟨k, i, h3, h1, g1, g2⟩

theorem SaveOk.shares (h : SaveOk n b np P need of len D lp X) : RightS need.toNat of.toNat len (rowsN need (len : Int)) (hereL n np P of t np).length (fun j => (nT (goP (saveP n np P need of len D) t) (hereL n np P of t np) j).toNat) D
    (nT (goP (saveP n np P need of len D) t) (hereL n np P of t np)) (lT (goP (saveP n np P need of len D) t) (hereL n np P of t np)) (xT (goP (saveP n np P need of len D) t) (hereL n np P of t np)) := by
  obtain ⟨hpl, _, hD⟩ := splitE_ok h.split
  obtain ⟨b1, b2, b3⟩ := planOk_spec hpl
  have e1 : (need.toNat : Int) = need := by omega
  have hone : List.Pairwise (fun x y => ((goP (saveP n np P need of len D) t).t x.1).N x.2 ≠ ((goP (saveP n np P need of len D) t).t y.1).N y.2) (hereL n np P of t np) := by
    rw [← there_new h np (Nat.le_refl _)]
    exact (thAll_ok _ (n : Int) np np (Nat.le_refl _)).once
  have key : ∀ j, j < (hereL n np P of t np).length → ∃ k i : Nat, nT (goP (saveP n np P need of len D) t) (hereL n np P of t np) j = (i : Int) ∧ i < of.toNat ∧ lT (goP (saveP n np P need of len D) t) (hereL n np P of t np) j = rowsN need (len : Int) ∧ xT (goP (saveP n np P need of len D) t) (hereL n np P of t np) j = fun r => shv need.toNat len D i r := fun j hj => by
    obtain ⟨k, i, g1, g2, g3, g4⟩ := here_at h hj
    obtain ⟨_, _, s3, s4, s5⟩ := save_new h g2 (by rw [g3]; omega)
    obtain ⟨t1, t2, t3⟩ := tT_eq (goP (saveP n np P need of len D) t) (hereL n np P of t np) hj
    refine ⟨k, i, ?_, g4, ?_, ?_⟩
    · rw [← t1]; unfold nL; rw [g1]; exact s3.trans g3
    · rw [← t2]; unfold lL; rw [g1]; exact s4
    · rw [← t3]; unfold xL; rw [g1]; exact s5.trans (by rw [g3, Int.toNat_natCast])
  refine ⟨by rw [e1, h.of_]; exact hpl, by rw [e1], hD, ?_, fun j => ?_, fun j hj => ?_, fun i j hi hj e => ?_, fun j hj => ?_, fun j hj r hr => ?_⟩
  · refine once_len hone fun x hx => ?_
    obtain ⟨k, g1, g2, rfl⟩ := mem_hereL.1 hx
    unfold hereB at g2
    rw [Bool.and_eq_true, decide_eq_true_iff] at g2
    obtain ⟨i, q1, q2, _⟩ := gvn_at g2.2
    have e9 : ((goP (saveP n np P need of len D) t).t k).N (P.m k) = gvn n np P of k := (save_new h g1 g2.2).2.2.1
    show 0 ≤ ((goP (saveP n np P need of len D) t).t k).N (P.m k) ∧ ((goP (saveP n np P need of len D) t).t k).N (P.m k) < _
    rw [e9, q1]
    omega
  · by_cases c : j < (hereL n np P of t np).length
    · obtain ⟨k, i, g1, _⟩ := key j c
      simp only [g1]
      rfl
    · simp only [nT]
      rw [if_neg c]
      rfl
  · obtain ⟨k, i, g1, g2, _⟩ := key j hj
    simp only [g1, Int.toNat_natCast]
    exact g2
  · obtain ⟨k1, i1, g1, _⟩ := key i hi
    obtain ⟨k2, i2, q1, _⟩ := key j hj
    simp only [g1, q1, Int.toNat_natCast] at e
    have en : nL (goP (saveP n np P need of len D) t) (hereL n np P of t np) i = nL (goP (saveP n np P need of len D) t) (hereL n np P of t np) j := by
      rw [(tT_eq _ _ hi).1, (tT_eq _ _ hj).1, g1, q1, e]
    rcases Nat.lt_trichotomy i j with hl | hl | hl
    · exact absurd en (pairwise_getD hone hl hj)
    · exact hl
    · exact absurd en.symm (pairwise_getD hone hl hi)
  · obtain ⟨_, _, _, _, g3, _⟩ := key j hj
    exact g3
  · obtain ⟨k, i, g1, _, _, g4⟩ := key j hj
    simp only [g1, Int.toNat_natCast]
    rw [g4]

theorem SaveOk.newer (h : SaveOk n b np P need of len D lp X) (t : Nat → Bool) :
    (((hereL n np P of t np).length : Int) < need → rsE (n + 1) (saveB n b need of len lp X) np (goP (saveP n np P need of len D) t) (n : Int) = 7) ∧
    (need ≤ ((hereL n np P of t np).length : Int) → rsE (n + 1) (saveB n b need of len lp X) np (goP (saveP n np P need of len D) t) (n : Int) = 0 ∧ (∀ i, i < len → rsD (saveB n b need of len lp X) np (goP (saveP n np P need of len D) t) (n : Int) i = D i) ∧ rsB (n + 1) (saveB n b need of len lp X) np (goP (saveP n np P need of len D) t) (n : Int) = []) := by
  obtain ⟨hpl, _, hD⟩ := splitE_ok h.split
  obtain ⟨b1, b2, b3⟩ := planOk_spec hpl
  have e1 : (need.toNat : Int) = need := by omega
  have hR : MeshR (n + 1) (saveB n b need of len lp X) np (goP (saveP n np P need of len D) t) := ⟨h.right.book, h.right.few, fun k hk => h.right.peer k hk⟩
  have hv : verM (n + 1) (saveB n b need of len lp X) np (goP (saveP n np P need of len D) t) (n : Int) = 0 := by unfold verM; rw [if_pos hR.e, if_pos ⟨by omega, by omega⟩]
  have hth : thereL (goP (saveP n np P need of len D) t) (n : Int) np = hereL n np P of t np := there_new h np (Nat.le_refl _)
  have c1 : (saveB n b need of len lp X).nd (n : Int).toNat = (need.toNat : Int) := by rw [e1]; simp [saveB, snocB]
  have c2 : (saveB n b need of len lp X).of (n : Int).toNat = (of.toNat : Int) := by rw [h.of_]; simp [saveB, snocB]
  have c3 : (saveB n b need of len lp X).sz (n : Int).toNat = (len : Int) := by simp [saveB, snocB]
  have hS := h.shares (t := t)
  refine ⟨fun hc => ?_, fun hc => ?_⟩
  · unfold rsE
    rw [if_pos hv, hth, c1, c2, c3]
    exact hS.few (by omega)
  · obtain ⟨m1, m2, m3⟩ := hS.most (by omega)
    refine ⟨?_, fun i hi => ?_, ?_⟩
    · unfold rsE; rw [if_pos hv, hth, c1, c2, c3]; exact m1
    · unfold rsD; rw [hth, c1, c3]; exact m2 i hi
    · unfold rsB; rw [if_pos hv, hth, c1, c2, c3]; exact m3

end

end Go.Proofs.YtikchpffkhohlaaGreat
