/- Several texts of one proof, in their order. -/
import Derived.Test.YtjfnpjmhippdoafGreatBundle12
import Derived.Test.YtjfnpjmhippdoafGreatBundle11
import Derived.Test.YtjfnpjmhippdoafGreatBundle2
import Derived.Test.YtjfnpjmhippdoafGreatBundle10
import Derived.Test.YtjfnpjmhippdoafGreatBundle6
import Derived.Test.YtjfnpjmhippdoafGreatBundle5

/- What was saved is restored, whoever goes, as long as enough shares are there; fewer are never enough. Plain: it speaks of no program. -/
namespace Go.Proofs.YtjfnpjmhippdoafGreat

open Go.RowKit CurveMath
set_option linter.unusedVariables false

/-- the same peers, these of them there -/
def goP (P : Ps) (t : Nat → Bool) : Ps := ⟨t, P.rm, P.m, P.t⟩

section

variable {n : Nat} {b : Bk} {np : Nat} {P : Ps} {need of : Int} {len : Nat} {D : Nat → Int} {lp : Nat} {X : Nat → Int} {t : Nat → Bool}

/-- which share peer k was given; below 0: none -/
def gvn (n np : Nat) (P : Ps) (of : Int) (k : Nat) : Int := fstAt (forA P (n : Int) np of.toNat) (k : Int) of.toNat 0

theorem gvn_at {k : Nat} (h : 0 ≤ gvn n np P of k) : ∃ i : Nat, gvn n np P of k = (i : Int) ∧ i < of.toNat ∧ forA P (n : Int) np of.toNat i = (k : Int) := by
  obtain ⟨i, h1, _, h2, h3⟩ := fstAt_place _ _ _ _ h
  exact ⟨i, h1, by omega, h3⟩

theorem gvn_inj {k k' : Nat} (h : 0 ≤ gvn n np P of k) (e : gvn n np P of k = gvn n np P of k') : k = k' := by
  obtain ⟨i, h1, _, h3⟩ := gvn_at h
  obtain ⟨i', g1, _, g3⟩ := gvn_at (k := k') (by rw [← e]; exact h)
  have : i = i' := by omega
  subst this
  rw [h3] at g3
  omega

/-- who is there and was given something -/
def hereB (n np : Nat) (P : Ps) (of : Int) (t : Nat → Bool) (k : Nat) : Bool := t k && decide (0 ≤ gvn n np P of k)
def hereL (n np : Nat) (P : Ps) (of : Int) (t : Nat → Bool) (f : Nat) : List (Nat × Nat) := ((List.range f).filter (hereB n np P of t)).map fun k => (k, P.m k)

theorem hereL_succ (f : Nat) : hereL n np P of t (f + 1) = hereL n np P of t f ++ (if hereB n np P of t f = true then [(f, P.m f)] else []) := by
  unfold hereL
  rw [List.range_succ, List.filter_append, List.map_append, List.filter_cons, List.filter_nil]
  by_cases c : hereB n np P of t f = true
  · rw [if_pos c, if_pos c]; rfl
  · rw [if_neg c, if_neg c]; rfl

theorem mem_hereL {f : Nat} {x : Nat × Nat} : x ∈ hereL n np P of t f ↔ ∃ k, k < f ∧ hereB n np P of t k = true ∧ x = (k, P.m k) := by
  unfold hereL
  rw [List.mem_map]
  constructor
  · rintro ⟨k, hk, rfl⟩
    rw [List.mem_filter, List.mem_range] at hk
    exact ⟨k, hk.1, hk.2, rfl⟩
  · rintro ⟨k, h1, h2, rfl⟩
    exact ⟨k, List.mem_filter.2 ⟨List.mem_range.2 h1, h2⟩, rfl⟩

/-- what the peers keep behind: the elder ones, and the new one -/
theorem save_old (h : SaveOk n b np P need of len D lp X) {k i : Nat} (hk : k < np) (hi : i < P.m k) : ((saveP n np P need of len D).t k).V i = (P.t k).V i := by
  have hlt : ∀ j, j < P.m k → (P.t k).V j < (n : Int) := fun j hj => ((h.mesh.peer k hk).right j hj).1.2
  simp only [saveP, giveP]
  by_cases c : 0 ≤ fstAt (forA P (n : Int) np of.toNat) (k : Int) of.toNat 0
  · rw [if_pos c, (keepT_top hlt i (by omega)).1, (snocT_same hi).1]
  · rw [if_neg c]

theorem save_new (h : SaveOk n b np P need of len D lp X) {k : Nat} (hk : k < np) (c : 0 ≤ gvn n np P of k) : (saveP n np P need of len D).m k = P.m k + 1 ∧ ((saveP n np P need of len D).t k).V (P.m k) = (n : Int) ∧ ((saveP n np P need of len D).t k).N (P.m k) = gvn n np P of k ∧
    ((saveP n np P need of len D).t k).L (P.m k) = rowsN need (len : Int) ∧ ((saveP n np P need of len D).t k).X (P.m k) = fun r => shv need.toNat len D (gvn n np P of k).toNat r := by
  have hlt : ∀ j, j < P.m k → (P.t k).V j < (n : Int) := fun j hj => ((h.mesh.peer k hk).right j hj).1.2
  have c' : 0 ≤ fstAt (forA P (n : Int) np of.toNat) (k : Int) of.toNat 0 := c
  obtain ⟨i, hi, _, _⟩ := gvn_at c
  have hi' : fstAt (forA P (n : Int) np of.toNat) (k : Int) of.toNat 0 = (i : Int) := hi
  simp only [saveP, giveP]
  rw [if_pos c', if_pos c', hi, hi', Int.toNat_natCast]
  obtain ⟨e1, e2, e3, e4⟩ := keepT_top (N := (i : Int)) (L := rowsN need (len : Int)) (X := fun r => shv need.toNat len D i r) hlt (P.m k) (by omega)
  refine ⟨rfl, e1.trans ?_, e2.trans ?_, e3.trans ?_, e4.trans ?_⟩ <;> simp [snocT]

theorem save_not {k : Nat} (c : ¬ 0 ≤ gvn n np P of k) : (saveP n np P need of len D).m k = P.m k := by
  have c' : ¬ 0 ≤ fstAt (forA P (n : Int) np of.toNat) (k : Int) of.toNat 0 := c
  simp only [saveP, giveP]
  rw [if_neg c']

/-- nothing of the new version among the elder ones -/
theorem rowE_none (h : SaveOk n b np P need of len D lp X) {k : Nat} (hk : k < np) (l : List (Nat × Nat)) : ∀ f, f ≤ P.m k → thRow (goP (saveP n np P need of len D) t) (n : Int) k l f = l := by
  intro f
  induction f with
  | zero => intro _; rfl
  | succ f ih =>
    intro hf
    rw [thRow_succ, ih (by omega)]
    have hv : ((goP (saveP n np P need of len D) t).t k).V f = (P.t k).V f := save_old h hk (by omega)
    have hlt := ((h.mesh.peer k hk).right f (by omega)).1.2
    unfold thStep isTh
    rw [hv, decide_eq_false (by omega), Bool.and_false, Bool.false_and, if_neg (by decide)]

/-- the shares of the new version that are there -/
theorem there_new (h : SaveOk n b np P need of len D lp X) : ∀ f, f ≤ np → thAll (goP (saveP n np P need of len D) t) (n : Int) f = hereL n np P of t f := by
  intro f
  induction f with
  | zero => intro _; rfl
  | succ f ih =>
    intro hf
    rw [thAll_succ, ih (by omega), hereL_succ]
    have hfn : f < np := by omega
    by_cases c : 0 ≤ gvn n np P of f
    · obtain ⟨e1, e2, e3, _⟩ := save_new h hfn c
      have em : (goP (saveP n np P need of len D) t).m f = P.m f + 1 := e1
      rw [em, thRow_succ, rowE_none h hfn _ _ (Nat.le_refl _)]
      have ev : ((goP (saveP n np P need of len D) t).t f).V (P.m f) = (n : Int) := e2
      have en : ((goP (saveP n np P need of len D) t).t f).N (P.m f) = gvn n np P of f := e3
      have hs : seenN (goP (saveP n np P need of len D) t) (hereL n np P of t f) (gvn n np P of f) = false := by
        rw [Bool.eq_false_iff]
        intro hb
        obtain ⟨x, hx, e⟩ := seenN_iff.1 hb
        obtain ⟨k, hk, hh, rfl⟩ := mem_hereL.1 hx
        unfold hereB at hh
        rw [Bool.and_eq_true, decide_eq_true_iff] at hh
        have e9 : ((goP (saveP n np P need of len D) t).t k).N (P.m k) = gvn n np P of k := (save_new h (by omega) hh.2).2.2.1
        have := gvn_inj hh.2 (e9.symm.trans e)
        omega
      unfold thStep isTh hereB
      rw [ev, en, hs, decide_eq_true rfl, decide_eq_true c, Bool.and_true, Bool.not_false, Bool.and_true]
      have et : (goP (saveP n np P need of len D) t).th f = t f := rfl
      rw [et, Bool.and_true]
      by_cases ct : t f = true
      · rw [if_pos ct, if_pos ct]
      · rw [if_neg ct, if_neg ct, List.append_nil]
    · have em : (goP (saveP n np P need of len D) t).m f = P.m f := save_not (need := need) (len := len) (D := D) c
      rw [em, rowE_none h hfn _ _ (Nat.le_refl _)]
      unfold hereB
      rw [decide_eq_false c, Bool.and_false, if_neg (by decide), List.append_nil]
theorem here_at (h : SaveOk n b np P need of len D lp X) {j : Nat} (hj : j < (hereL n np P of t np).length) : ∃ (k i : Nat), (hereL n np P of t np).getD j (0, 0) = (k, P.m k) ∧ k < np ∧ gvn n np P of k = (i : Int) ∧ i < of.toNat := by
  obtain ⟨k, h1, h2, h3⟩ := mem_hereL.1 (getD_in (d := (0, 0)) hj)
  unfold hereB at h2
  rw [Bool.and_eq_true, decide_eq_true_iff] at h2
  obtain ⟨i, g1, g2, _⟩ := gvn_at h2.2
  exact ⟨k, i, h3, h1, g1, g2⟩

/-- the shares that are there are right, each number once -/
theorem SaveOk.shares (h : SaveOk n b np P need of len D lp X) : RightS need.toNat of.toNat len (rowsN need (len : Int)) (hereL n np P of t np).length (fun j => (nT (goP (saveP n np P need of len D) t) (hereL n np P of t np) j).toNat) D
    (nT (goP (saveP n np P need of len D) t) (hereL n np P of t np)) (lT (goP (saveP n np P need of len D) t) (hereL n np P of t np)) (xT (goP (saveP n np P need of len D) t) (hereL n np P of t np)) := by
  obtain ⟨hpl, _, hD⟩ := splitE_ok h.split
  obtain ⟨b1, b2, b3⟩ := planOk_spec hpl
  have e1 : (need.toNat : Int) = need := by omega
  have hone : List.Pairwise (fun x y => ((goP (saveP n np P need of len D) t).t x.1).N x.2 ≠ ((goP (saveP n np P need of len D) t).t y.1).N y.2) (hereL n np P of t np) := by
    rw [← there_new h np (Nat.le_refl _)]
    exact (thAll_ok _ (n : Int) np np (Nat.le_refl _)).once
  have key : ∀ j, j < (hereL n np P of t np).length → ∃ k i : Nat, nT (goP (saveP n np P need of len D) t) (hereL n np P of t np) j = (i : Int) ∧ i < of.toNat ∧ lT (goP (saveP n np P need of len D) t) (hereL n np P of t np) j = rowsN need (len : Int) ∧ xT (goP (saveP n np P need of len D) t) (hereL n np P of t np) j = fun r => shv need.toNat len D i r := fun j hj => by
    obtain ⟨k, i, g1, g2, g3, g4⟩ := here_at h hj
    obtain ⟨_, _, s3, s4, s5⟩ := save_new h g2 (by rw [g3]; omega)
    obtain ⟨t1, t2, t3⟩ := tT_eq (goP (saveP n np P need of len D) t) (hereL n np P of t np) hj
    refine ⟨k, i, ?_, g4, ?_, ?_⟩
    · rw [← t1]; unfold nL; rw [g1]; exact s3.trans g3
    · rw [← t2]; unfold lL; rw [g1]; exact s4
    · rw [← t3]; unfold xL; rw [g1]; exact s5.trans (by rw [g3, Int.toNat_natCast])
  refine ⟨by rw [e1, h.of_]; exact hpl, by rw [e1], hD, ?_, fun j => ?_, fun j hj => ?_, fun i j hi hj e => ?_, fun j hj => ?_, fun j hj r hr => ?_⟩
  · refine once_len hone fun x hx => ?_
    obtain ⟨k, g1, g2, rfl⟩ := mem_hereL.1 hx
    unfold hereB at g2
    rw [Bool.and_eq_true, decide_eq_true_iff] at g2
    obtain ⟨i, q1, q2, _⟩ := gvn_at g2.2
    have e9 : ((goP (saveP n np P need of len D) t).t k).N (P.m k) = gvn n np P of k := (save_new h g1 g2.2).2.2.1
    show 0 ≤ ((goP (saveP n np P need of len D) t).t k).N (P.m k) ∧ ((goP (saveP n np P need of len D) t).t k).N (P.m k) < _
    rw [e9, q1]
    omega
  · by_cases c : j < (hereL n np P of t np).length
    · obtain ⟨k, i, g1, _⟩ := key j c
      simp only [g1]
      rfl
    · simp only [nT]
      rw [if_neg c]
      rfl
  · obtain ⟨k, i, g1, g2, _⟩ := key j hj
    simp only [g1, Int.toNat_natCast]
    exact g2
  · obtain ⟨k1, i1, g1, _⟩ := key i hi
    obtain ⟨k2, i2, q1, _⟩ := key j hj
    simp only [g1, q1, Int.toNat_natCast] at e
    have en : nL (goP (saveP n np P need of len D) t) (hereL n np P of t np) i = nL (goP (saveP n np P need of len D) t) (hereL n np P of t np) j := by
      rw [(tT_eq _ _ hi).1, (tT_eq _ _ hj).1, g1, q1, e]
    rcases Nat.lt_trichotomy i j with hl | hl | hl
    · exact absurd en (pairwise_getD hone hl hj)
    · exact hl
    · exact absurd en.symm (pairwise_getD hone hl hi)
  · obtain ⟨_, _, _, _, g3, _⟩ := key j hj
    exact g3
  · obtain ⟨k, i, g1, _, _, g4⟩ := key j hj
    simp only [g1, Int.toNat_natCast]
    rw [g4]

end

end Go.Proofs.YtjfnpjmhippdoafGreat

/- Who is to blame, and how many shares lack: behind a repair nobody, and none; where few are bent behind a save those, and nobody else. Plain: it speaks of no program. -/
namespace Go.Proofs.YtjfnpjmhippdoafGreat

open Go.RowKit CurveMath
set_option linter.unusedVariables false

/-- is peer i to blame? -/
def blB (P : Ps) (ver : Int) (R : Nat) (S : Nat → Nat → Int) (i : Nat) : Bool := hasK P ver i && !goodK P ver R S i
/-- who is to blame for version k -/
def blL (b : Bk) (np : Nat) (P : Ps) (k : Int) : List Int := pickL (blB P k (rowsN (b.nd k.toNat) (b.sz k.toNat)) (rsS b np P k)) np
/-- how many shares of version k lack -/
def laN (b : Bk) (np : Nat) (P : Ps) (k : Int) : Int := b.of k.toNat - ((thereL P k np).length : Int)

/-- behind a repair nobody is to blame, and nothing lacks -/
theorem mend_blame {n : Nat} {b : Bk} {np : Nat} {P : Ps} {k : Int} (h : mendE n b np P k = 0) : rsE n b np (mendP b np P k) k = 0 ∧ verM n b np (mendP b np P k) k = 0 ∧ blL b np (mendP b np P k) k = [] ∧ laN b np (mendP b np P k) k = 0 := by
  obtain ⟨h1, hF⟩ := mend_ok h
  obtain ⟨hv, d, m, s, e1, e2, e3, hp⟩ := rsE_ok h1
  obtain ⟨g1, g2, _⟩ := mend_rest h
  have eS : rsS b np (mendP b np P k) k = rsS b np P k := by
    funext q r
    unfold rsS
    exact shv_congr fun i hi => g2 i (by rw [e3]; rw [e3] at hi; omega)
  refine ⟨g1, (rsE_ok g1).1, ?_, ?_⟩
  · unfold blL
    rw [eS, List.eq_nil_iff_forall_not_mem]
    intro x hx
    obtain ⟨i, hi, hb, _⟩ := mem_pickL.1 hx
    unfold blB at hb
    rw [Bool.and_eq_true, Bool.not_eq_true'] at hb
    have h2 := hF.goodK hi hb.1
    rw [show fillP P k (rowsN (b.nd k.toNat) (b.sz k.toNat)) (rsS b np P k) np (b.of k.toNat).toNat = mendP b np P k from rfl, hb.2] at h2
    cases h2
  · unfold laN
    have h3 := hF.there
    have h4 := hF.count
    rw [show fillP P k (rowsN (b.nd k.toNat) (b.sz k.toNat)) (rsS b np P k) np (b.of k.toNat).toNat = mendP b np P k from rfl] at h3 h4
    rw [h3, h4, e2]
    omega

/-! Who is bent. -/

section

variable {P : Ps} {ver : Int} {W : List Nat} {c : Int}

end

section

variable {n : Nat} {b : Bk} {np : Nat} {P : Ps} {need of : Int} {len : Nat} {D : Nat → Int} {lp : Nat} {X : Nat → Int} {W : List Nat} {c : Int}

/-- who was given something is there, and has it behind the elder ones -/
theorem save_has (h : SaveOk n b np P need of len D lp X) {k : Nat} (hk : k < np) : hasK (saveP n np P need of len D) (n : Int) k = decide (0 ≤ gvn n np P of k) ∧ (0 ≤ gvn n np P of k → atK (saveP n np P need of len D) (n : Int) k = P.m k ∧ P.th k = true) := by
  by_cases c : 0 ≤ gvn n np P of k
  · obtain ⟨e1, e2, _⟩ := save_new h hk c
    have hf : fstAt ((saveP n np P need of len D).t k).V (n : Int) ((saveP n np P need of len D).m k) 0 = ((P.m k : Nat) : Int) := by
      rw [e1]
      have e := fstAt_succ ((saveP n np P need of len D).t k).V (n : Int) (P.m k) 0
      have hno : ¬ 0 ≤ fstAt ((saveP n np P need of len D).t k).V (n : Int) (P.m k) 0 := fun hh => by
        obtain ⟨i, _, hi, e⟩ := (fstAt_neg _ _ _ 0).1 hh
        rw [save_old h hk (by omega)] at e
        have := ((h.mesh.peer k hk).right i (by omega)).1.2
        omega
      rw [Nat.zero_add, if_neg hno, if_pos e2] at e
      exact e
    have hth : P.th k = true := by
      obtain ⟨i, _, hi, e⟩ := gvn_at c
      obtain ⟨q, h1, h2, h3, _⟩ := forA_at h.many hi
      have : q = k := by omega
      subst this
      exact h3.1
    refine ⟨?_, fun _ => ⟨by unfold atK; rw [hf, Int.toNat_natCast], hth⟩⟩
    unfold hasK
    rw [hf, decide_eq_true c, decide_eq_true (by omega), Bool.and_true]
    exact hth
  · refine ⟨?_, fun h => absurd h c⟩
    have hno : ¬ 0 ≤ fstAt ((saveP n np P need of len D).t k).V (n : Int) ((saveP n np P need of len D).m k) 0 := fun hh => by
      rw [save_not (need := need) (len := len) (D := D) c] at hh
      obtain ⟨i, _, hi, e⟩ := (fstAt_neg _ _ _ 0).1 hh
      rw [save_old h hk (by omega)] at e
      have := ((h.mesh.peer k hk).right i (by omega)).1.2
      omega
    unfold hasK
    rw [decide_eq_false hno, decide_eq_false c, Bool.and_false]

theorem SaveOk.all_given (h : SaveOk n b np P need of len D lp X) {q : Nat} (hq : q < of.toNat) : ∃ k, k < np ∧ gvn n np P of k = (q : Int) := by
  obtain ⟨k, h1, h2, h3, _⟩ := forA_at h.many hq
  have h0 : 0 ≤ gvn n np P of k := (fstAt_neg _ _ _ 0).2 ⟨q, Nat.zero_le _, by omega, h1⟩
  refine ⟨k, h2, ?_⟩
  obtain ⟨i, g1, g2, g3⟩ := gvn_at h0
  have : i = q := by
    rcases Nat.lt_trichotomy i q with hl | hl | hl
    · exact absurd (g3.trans h1.symm) (forA_ne h.many hl hq)
    · exact hl
    · exact absurd (h1.trans g3.symm) (forA_ne h.many hl g2)
  rw [g1, this]

/-- all shares are there -/
theorem SaveOk.count (h : SaveOk n b np P need of len D lp X) : (hereL n np P of P.th np).length = of.toNat := by
  have h1 := (h.shares (t := P.th)).le
  have h2 := cover_len of.toNat ((hereL n np P of P.th np).map fun x => gvn n np P of x.1) (fun q hq => by
    obtain ⟨k, g1, g2⟩ := h.all_given hq
    refine List.mem_map.2 ⟨(k, P.m k), mem_hereL.2 ⟨k, g1, ?_, rfl⟩, g2⟩
    unfold hereB
    rw [decide_eq_true (by omega), Bool.and_true]
    exact ((save_has h g1).2 (by omega)).2)
  rw [List.length_map] at h2
  omega

end

end Go.Proofs.YtjfnpjmhippdoafGreat

/- Lists in new memory, which may be written to. Plain: it speaks of no program. -/
namespace Go.Proofs.YtjfnpjmhippdoafGreat

open Go.RowKit
set_option linter.unusedVariables false

/-- the list v lies at or above block B, in memory that may be written to -/
def NewV (B : Nat) (w : World) (v : Value) : Prop := ∀ ad n c, v = .slice (some ad) n c → B ≤ ad.block ∧ ad.block < w.heap.size ∧ ∀ i, w.frozen? ⟨ad.block, i, none⟩ = false

theorem NewV.none (B : Nat) (w : World) (n c : Nat) : NewV B w (.slice .none n c) := fun ad n' c' e => by cases e

theorem NewV.up {B : Nat} {w w' : World} {v : Value} (h : NewV B w v) (hb : Below w.heap.size w w') : NewV B w' v := fun ad n c e => by
  obtain ⟨h1, h2, h3⟩ := h ad n c e
  exact ⟨h1, Nat.lt_of_lt_of_le h2 hb.size, fun i => by rw [← h3 i]; exact World.frozen?_of_block (hb.block _ h2)⟩

theorem NewV.mono {B B' : Nat} {w : World} {v : Value} (h : NewV B w v) (hb : B' ≤ B) : NewV B' w v := fun ad n c e => ⟨Nat.le_trans hb (h ad n c e).1, (h ad n c e).2⟩

theorem frozen_setN {w : World} {a b : Addr} {u : Value} : (w.setCell a u).frozen? b = w.frozen? b := by
  unfold World.frozen? World.setCell
  simp only [Array.getElem?_modify]
  by_cases h : a.block = b.block
  · rw [if_pos h]
    cases hb : w.heap[b.block]? with
    | none => rfl
    | some x => cases x <;> rfl
  · rw [if_neg h]

theorem NewV.set {B : Nat} {w : World} {v : Value} (h : NewV B w v) (a : Addr) (u : Value) : NewV B (w.setCell a u) v := fun ad n c e => by
  obtain ⟨h1, h2, h3⟩ := h ad n c e
  exact ⟨h1, by simpa [World.setCell] using h2, fun i => by rw [frozen_setN]; exact h3 i⟩

theorem NewV.above {B : Nat} {w : World} {v : Value} (h : NewV B w v) : Above B v := fun ad n c e => (h ad n c e).1

theorem NewV.grown {B : Nat} {w w' : World} {v : Value} {row : Option Nat} (h : NewV B w v) (hg : w.grownBy w' row) (hne : ∀ ad n c, v = .slice (some ad) n c → some ad.block ≠ row) : NewV B w' v := fun ad n c e => by
  obtain ⟨h1, h2, h3⟩ := h ad n c e
  exact ⟨h1, Nat.lt_of_lt_of_le h2 hg.size, fun i => by rw [← h3 i]; exact World.frozen?_of_block (hg.block _ h2 (hne ad n c e))⟩

theorem newV_block {B : Nat} {w : World} {g n c : Nat} {cs : Array Value} {T : TypeId} (h : w.heap[g]? = some (.cells cs T (0, 0))) (hB : B ≤ g) : NewV B w (.slice (some ⟨g, 0, .none⟩) n c) := fun ad n' c' e => by
  injection e with e1
  injection e1 with e1
  subst e1
  exact ⟨hB, (Array.getElem?_eq_some_iff.1 h).1, fun i => frozen_at h⟩

theorem owns_new {w : World} {base : Nat} {e : TypeId} {size : Nat} {v : Value} {n : Nat} {xs : List Value} (h : w.ownsRow base e size v n xs) : NewV base w v := by
  rcases h.2 with ⟨rfl, _⟩ | ⟨g, cap, cur, rfl, hg, hh, _⟩
  · exact NewV.none base w _ _
  · exact newV_block hh hg

end Go.Proofs.YtjfnpjmhippdoafGreat

/- What package mesh owes: its six functions in plain words; what it answers lies in new memory. -/
namespace Go.Proofs.YtjfnpjmhippdoafGreat

open Go.RowKit CurveMath
set_option linter.unusedVariables false

/-- a list of peers, what they keep, and its numbers, in memory at or above block B that may be written to -/
def NewP (B : Nat) (w : World) (vl : Value) (np : Nat) (KV : Nat → Value) (UV : Nat → Nat → Value) (P : Ps) : Prop := NewV B w vl ∧ ∀ k, k < np → NewV B w (KV k) ∧ ∀ i, i < P.m k → (P.t k).L i = 0 ∨ NewV B w (UV k i)

/-- a mesh and an error that were answered, the peers in new memory -/
def MeshPostN (w : World) (er : Int) (n : Nat) (b : Bk) (np : Nat) (P : Ps) (e : Ending) (w' : World) : Prop :=
  Below w.heap.size w w' ∧ ∃ (vb vl : Value) (n' np' : Nat) (PV KV : Nat → Value) (UV : Nat → Nat → Value), e = .returned (.tuple #[meshV vb vl, .int .i64 er]) ∧ n' = (if er = 0 then n else 0) ∧ np' = (if er = 0 then np else 0) ∧
    VeSl w' w'.heap.size vb n' PV b ∧ PsSl w' w'.heap.size vl np' KV UV P ∧ NewP w.heap.size w' vl np' KV UV P

theorem MeshPostN.old {w : World} {er : Int} {n : Nat} {b : Bk} {np : Nat} {P : Ps} {e : Ending} {w' : World} (h : MeshPostN w er n b np P e w') : MeshPost w er n b np P e w' := by
  obtain ⟨h1, vb, vl, n', np', PV, KV, UV, h2, h3, h4, h5, h6, _⟩ := h
  exact ⟨h1, vb, vl, n', np', PV, KV, UV, h2, h3, h4, h5, h6⟩

/-- what package mesh owes, but that two are held against each other -/
structure MeshCore : Prop where
  check : ∀ (vb : Value) (n : Nat) (PV : Nat → Value) (b : Bk) (vl : Value) (np : Nat) (KV : Nat → Value) (UV : Nat → Nat → Value) (P : Ps) (w : World), VeSl w w.heap.size vb n PV b → PsSl w w.heap.size vl np KV UV P →
    Calls Tryz.prog 23 #[meshV vb vl] w fun e w' => e = .returned (.int .i64 (peersE n b np P)) ∧ Below w.heap.size w w'
  new : ∀ (vr : Value) (len : Nat) (X : Nat → Int) (w : World), IntSl w w.heap.size vr len X → len ≤ 1048576 →
    Calls Tryz.prog 52 #[vr] w (MeshPostN w (newE len X) 0 noB len (freshP X))
  restore : ∀ (vb : Value) (n : Nat) (PV : Nat → Value) (b : Bk) (vl : Value) (np : Nat) (KV : Nat → Value) (UV : Nat → Nat → Value) (P : Ps) (k : Int) (w : World), VeSl w w.heap.size vb n PV b → PsSl w w.heap.size vl np KV UV P →
    Calls Tryz.prog 18 #[meshV vb vl, .int .i64 k] w (RestPost w n b np P k)
  save : ∀ (vb : Value) (n : Nat) (PV : Nat → Value) (b : Bk) (vl : Value) (np : Nat) (KV : Nat → Value) (UV : Nat → Nat → Value) (P : Ps) (vd : Value) (len : Nat) (D : Nat → Int) (vp : Value) (lp : Nat) (X : Nat → Int) (need of : Int) (w : World),
    VeSl w w.heap.size vb n PV b → PsSl w w.heap.size vl np KV UV P → IntSl w w.heap.size vd len D → IntSl w w.heap.size vp lp X →
    Calls Tryz.prog 12 #[meshV vb vl, vd, vp, .int .i64 need, .int .i64 of] w (MeshPostN w (saveE n b np P need of len D lp X) (n + 1) (saveB n b need of len lp X) np (saveP n np P need of len D))
  repair : ∀ (vb : Value) (n : Nat) (PV : Nat → Value) (b : Bk) (vl : Value) (np : Nat) (KV : Nat → Value) (UV : Nat → Nat → Value) (P : Ps) (k : Int) (w : World), VeSl w w.heap.size vb n PV b → PsSl w w.heap.size vl np KV UV P →
    Calls Tryz.prog 17 #[meshV vb vl, .int .i64 k] w (MeshPostN w (mendE n b np P k) n b np (mendP b np P k))

/-- block g holds this mesh -/
def MsAt (w : World) (g : Nat) (ab : Option Addr) (n cb : Nat) (PV : Nat → Value) (b : Bk) (al : Option Addr) (np cl : Nat) (KV : Nat → Value) (UV : Nat → Nat → Value) (P : Ps) : Prop :=
  w.heap[g]? = some (.cells #[.slice ab n cb, .slice al np cl] 27 (0, 0)) ∧ VeSl w w.heap.size (.slice ab n cb) n PV b ∧ PsSl w w.heap.size (.slice al np cl) np KV UV P

section

variable {w w' : World} {g : Nat} {ab : Option Addr} {n cb : Nat} {PV : Nat → Value} {b : Bk} {al : Option Addr} {np cl : Nat} {KV : Nat → Value} {UV : Nat → Nat → Value} {P : Ps}

theorem MsAt.up (h : MsAt w g ab n cb PV b al np cl KV UV P) (hb : Below w.heap.size w w') : MsAt w' g ab n cb PV b al np cl KV UV P := ⟨stayB h.1 hb, h.2.1.up hb, h.2.2.up hb⟩

theorem MsAt.cells (h : MsAt w g ab n cb PV b al np cl KV UV P) : w.cell? ⟨g, 0, none⟩ = some (.slice ab n cb) ∧ w.cell? ⟨g, 1, none⟩ = some (.slice al np cl) := two_at h.1

theorem MsAt.box (hv : VeSl w w.heap.size (.slice ab n cb) n PV b) (hl : PsSl w w.heap.size (.slice al np cl) np KV UV P) : MsAt (w.alloc (.cells #[.slice ab n cb, .slice al np cl] 27)) w.heap.size ab n cb PV b al np cl KV UV P :=
  ⟨heap_alloc_new _ _, hv.up (below_alloc _ _), hl.up (below_alloc _ _)⟩

end

/-- what was answered, its lists as slices -/
theorem mesh_open {w : World} {er : Int} {n : Nat} {b : Bk} {np : Nat} {P : Ps} {e : Ending} {w' : World} (h : MeshPost w er n b np P e w') :
    Below w.heap.size w w' ∧ ∃ (ab : Option Addr) (n' cb : Nat) (PV : Nat → Value) (al : Option Addr) (np' cl : Nat) (KV : Nat → Value) (UV : Nat → Nat → Value), e = .returned (.tuple #[.agg #[.slice ab n' cb, .slice al np' cl], .int .i64 er]) ∧
      n' = (if er = 0 then n else 0) ∧ np' = (if er = 0 then np else 0) ∧ VeSl w' w'.heap.size (.slice ab n' cb) n' PV b ∧ PsSl w' w'.heap.size (.slice al np' cl) np' KV UV P := by
  obtain ⟨h1, vb, vl, n', np', PV, KV, UV, rfl, h3, h4, h5, h6⟩ := h
  have h5' := h5
  have h6' := h6
  obtain ⟨ab, cb, rfl, _, _⟩ := h5'
  obtain ⟨al, cl, rfl, _, _⟩ := h6'
  exact ⟨h1, ab, n', cb, PV, al, np', cl, KV, UV, rfl, h3, h4, h5, h6⟩

end Go.Proofs.YtjfnpjmhippdoafGreat

/- The closed fact of chapter 9's laws, in plain words: what is reckoned of it. -/
namespace Go.Proofs.YtjfnpjmhippdoafGreat

open Go.RowKit CurveMath
set_option linter.unusedVariables false

def wX : Nat → Int := fun i => [(2 : Int), 2, 2, 2, 2].getD i 0
def wD : Nat → Int := fun i => [(5 : Int), 7, 9].getD i 0
def w0 : Nat → Int := fun _ => 0
def wB : Bk := saveB 0 noB 2 4 3 0 w0
/-- four shares at four of five peers; the first one there or not, the second one's first number -/
def wP (t0 : Bool) (x : Int) : Ps := ⟨fun k => if k = 0 then t0 else true, fun _ => 2, fun k => if k < 4 then 1 else 0, fun k => ⟨fun _ => 0, fun _ => (k : Int), fun _ => 2, fun _ r => if k = 1 ∧ r = 0 then x else ([[(5 : Int), 9], [7, 0], [9, 22], [11, 13]].getD k []).getD r 0⟩⟩

theorem w_new : newE 5 wX = 0 := by decide +kernel
theorem w_save : saveE 0 noB 5 (freshP wX) 2 4 3 wD 0 w0 = 0 := by decide +kernel
theorem w_for : forL (freshP wX) 0 5 4 = [0, 1, 2, 3] := by decide +kernel
theorem w_shv : ∀ k, k < 4 → ∀ r, r < 2 → shv 2 3 wD k r = ([[(5 : Int), 9], [7, 0], [9, 22], [11, 13]].getD k []).getD r 0 := by decide +kernel
theorem w_ok : peersE 1 wB 5 (wP false 7) = 0 ∧ peersE 1 wB 5 (wP false 8) = 0 := by decide +kernel
theorem w_there : thereL (wP false 7) 0 5 = [(1, 0), (2, 0), (3, 0)] ∧ thereL (wP false 8) 0 5 = [(1, 0), (2, 0), (3, 0)] := by decide +kernel
theorem w_e7 : rsE 1 wB 5 (wP false 7) 0 = 0 := by decide +kernel
theorem w_e8 : rsE 1 wB 5 (wP false 8) 0 = 0 := by decide +kernel
theorem w_d7 : eqB 3 3 (rsD wB 5 (wP false 7) 0) wD = true := by decide +kernel
theorem w_none : rsE 1 wB 5 (wP false 7) 1 = 4 := by decide +kernel
theorem w_mend : mendE 1 wB 5 (wP false 7) 0 = 0 := by decide +kernel
theorem w_m4 : (mendP wB 5 (wP false 7) 0).m 4 = 1 ∧ ((mendP wB 5 (wP false 7) 0).t 4).N 0 = 0 := by decide +kernel
theorem w_mok : peersE 1 wB 5 (mendP wB 5 (wP false 7) 0) = 0 := by decide +kernel
theorem w_b7 : (rsB 1 wB 5 (wP false 7) 0).length = 0 := by decide +kernel
theorem w_b8 : (rsB 1 wB 5 (wP false 8) 0).length = 1 := by decide +kernel

end Go.Proofs.YtjfnpjmhippdoafGreat

/- A list of peers in memory of the call's own: cloned, and one of them written anew. -/
namespace Go.Proofs.YtjfnpjmhippdoafGreat

open Go.RowKit
set_option linter.unusedVariables false

theorem cell_set_lit {w : World} {g o g' o' : Nat} (h : g' ≠ g ∨ o' ≠ o) (u : Value) : (w.setCell ⟨g, o, none⟩ u).cell? ⟨g', o', none⟩ = w.cell? ⟨g', o', none⟩ := by
  by_cases hg : g' = g
  · subst hg
    have ho : o' ≠ o := by rcases h with h | h; exact absurd rfl h; exact h
    unfold World.cell? World.setCell
    simp only [Array.getElem?_modify]
    cases hb : w.heap[g']? with
    | none => simp
    | some x =>
      cases x <;> simp [Array.getElem?_setIfInBounds_ne (Ne.symm ho)]
  · exact World.cell?_of_block (Below.heap_setCell _ _ _ _ (by show g' ≠ g; exact hg))

theorem cell_set_same {w : World} {g o : Nat} {v : Value} (h : w.cell? ⟨g, o, none⟩ = some v) (u : Value) : (w.setCell ⟨g, o, none⟩ u).cell? ⟨g, o, none⟩ = some u := by
  unfold World.cell? at h
  unfold World.cell? World.setCell
  simp only [Array.getElem?_modify]
  cases hb : w.heap[g]? with
  | none => rw [hb] at h; simp at h
  | some x =>
    rw [hb] at h
    cases x with
    | cells c e f =>
      simp at h
      have ho : o < c.size := (Array.getElem?_eq_some_iff.1 h).1
      simp [ho]
    | _ => simp at h

theorem world_eq {w w' : World} (h1 : w'.heap = w.heap) (h2 : w'.tape = w.tape) (h3 : w'.drawn = w.drawn) (h4 : w'.os = w.os) (h5 : w'.output = w.output) : w' = w := by
  cases w'
  cases w
  simp_all

theorem setCell_same {w : World} {g o : Nat} {u : Value} (h : w.cell? ⟨g, o, none⟩ = some u) : w.setCell ⟨g, o, none⟩ u = w := by
  refine world_eq ?_ rfl rfl rfl rfl
  unfold World.cell? at h
  unfold World.setCell
  apply Array.ext_getElem?
  intro i
  simp only [Array.getElem?_modify]
  by_cases hi : g = i
  · subst hi
    rw [if_pos rfl]
    cases hb : w.heap[g]? with
    | none => rfl
    | some x =>
      rw [hb] at h
      cases x with
      | cells c e f =>
        simp at h
        obtain ⟨ho, hoe⟩ := Array.getElem?_eq_some_iff.1 h
        simp only [Option.map_some, Option.isSome_none, Bool.false_eq_true, if_false, Option.some.injEq, Obj.cells.injEq, and_true]
        apply Array.ext_getElem?
        intro j
        rw [Array.getElem?_setIfInBounds]
        by_cases hj : o = j
        · subst hj; rw [if_pos rfl, if_pos ho, h]
        · rw [if_neg hj]
      | _ => rfl
  · rw [if_neg hi]

theorem frozen_set {w : World} {a b : Addr} {u : Value} : (w.setCell a u).frozen? b = w.frozen? b := by
  unfold World.frozen? World.setCell
  simp only [Array.getElem?_modify]
  by_cases h : a.block = b.block
  · rw [if_pos h]
    cases hb : w.heap[b.block]? with
    | none => rfl
    | some x => cases x <;> rfl
  · rw [if_neg h]

/-- a list of numbers holds no slice -/
theorem isl_slice {w : World} {B g o : Nat} {v : Value} {m : Nat} {X : Nat → Int} {a : Option Addr} {n c : Nat} (h : IntSl w B v m X) (hc : w.cell? ⟨g, o, none⟩ = some (.slice a n c)) (u : Value) : IntSl (w.setCell ⟨g, o, none⟩ u) B v m X := by
  obtain ⟨ad, cap, rfl, h0, h2⟩ := h
  refine ⟨ad, cap, rfl, h0, ?_⟩
  rcases h2 with h2 | ⟨b, off, rfl, h4, h5⟩
  · exact Or.inl h2
  · refine Or.inr ⟨b, off, rfl, h4, fun j hj => ?_⟩
    have h6 := h5 j hj
    rw [cell_set_lit]
    · exact h6
    · by_cases e1 : b = g
      · right
        intro e2
        rw [e1, e2, hc] at h6
        injection h6 with h6
        cases h6
      · exact Or.inl e1

/-- a list of kept ones has no bool two cells ahead of a slice -/
theorem kel_slice {w : World} {B g o : Nat} {v : Value} {m : Nat} {UV : Nat → Value} {t : Kt} {a : Option Addr} {n c : Nat} {th : Bool} (h : KeSl w B v m UV t) (hc : w.cell? ⟨g, o + 2, none⟩ = some (.slice a n c)) (hb : w.cell? ⟨g, o, none⟩ = some (.bool th)) (u : Value) : KeSl (w.setCell ⟨g, o + 2, none⟩ u) B v m UV t := by
  obtain ⟨ad, cap, rfl, h0, h2⟩ := h
  refine ⟨ad, cap, rfl, h0, ?_⟩
  rcases h2 with h2 | ⟨b, off, rfl, h4, h5⟩
  · exact Or.inl h2
  · refine Or.inr ⟨b, off, rfl, h4, fun j hj => ?_⟩
    obtain ⟨x0, x1, x2, x3⟩ := h5 j hj
    refine ⟨?_, ?_, ?_, isl_slice x3 hc u⟩
    · rw [cell_set_lit]
      · exact x0
      · by_cases e1 : b = g
        · right; intro e2; rw [e1, e2, hc] at x0; injection x0 with x0; cases x0
        · exact Or.inl e1
    · rw [cell_set_lit]
      · exact x1
      · by_cases e1 : b = g
        · right; intro e2; rw [e1, e2, hc] at x1; injection x1 with x1; cases x1
        · exact Or.inl e1
    · rw [cell_set_lit]
      · exact x2
      · by_cases e1 : b = g
        · right
          intro e2
          have e3 : off + j * 3 = o := by omega
          rw [e1, e3, hb] at x0
          injection x0 with x0
          cases x0
        · exact Or.inl e1

/-- the cells of a list of peers -/
def flatP (KV : Nat → Value) (P : Ps) (np : Nat) : List Value := (List.range np).flatMap fun k => [.bool (P.th k), .int .i64 (P.rm k), KV k]

theorem flatP_len (KV : Nat → Value) (P : Ps) (np : Nat) : (flatP KV P np).length = np * 3 := by
  induction np with
  | zero => rfl
  | succ np ih =>
    unfold flatP at ih ⊢
    rw [List.range_succ, List.flatMap_append, List.length_append, ih]
    simp
    omega

theorem flatP_succ (KV : Nat → Value) (P : Ps) (np : Nat) : flatP KV P (np + 1) = flatP KV P np ++ [.bool (P.th np), .int .i64 (P.rm np), KV np] := by
  unfold flatP
  rw [List.range_succ, List.flatMap_append]
  simp

theorem flatP_get (KV : Nat → Value) (P : Ps) : ∀ (np k : Nat), k < np → (flatP KV P np)[k * 3]? = some (.bool (P.th k)) ∧ (flatP KV P np)[k * 3 + 1]? = some (.int .i64 (P.rm k)) ∧ (flatP KV P np)[k * 3 + 2]? = some (KV k) := by
  intro np
  induction np with
  | zero => intro k hk; omega
  | succ np ih =>
    intro k hk
    rw [flatP_succ]
    by_cases e : k = np
    · subst e
      have hl := flatP_len KV P k
      refine ⟨?_, ?_, ?_⟩
      · rw [List.getElem?_append_right (by omega), hl, Nat.sub_self]; rfl
      · rw [List.getElem?_append_right (by omega), hl, show k * 3 + 1 - k * 3 = 1 by omega]; rfl
      · rw [List.getElem?_append_right (by omega), hl, show k * 3 + 2 - k * 3 = 2 by omega]; rfl
    · have hl := flatP_len KV P np
      obtain ⟨h1, h2, h3⟩ := ih k (by omega)
      refine ⟨?_, ?_, ?_⟩
      · rw [List.getElem?_append_left (by omega)]; exact h1
      · rw [List.getElem?_append_left (by omega)]; exact h2
      · rw [List.getElem?_append_left (by omega)]; exact h3

theorem flatP_one {KV : Nat → Value} {P : Ps} {np : Nat} (h : ∀ k, k < np → (KV k).oneCell' = true) : ∀ u ∈ flatP KV P np, u.oneCell' = true := by
  intro u hu
  unfold flatP at hu
  obtain ⟨i, hi, hu⟩ := List.mem_flatMap.1 hu
  simp only [List.mem_cons, List.not_mem_nil, or_false] at hu
  rcases hu with rfl | rfl | rfl
  · rfl
  · rfl
  · exact h i (List.mem_range.1 hi)

/-- the cells of a list of peers in block g, told by places -/
structure RowP (wr : World) (g np : Nat) (KV : Nat → Value) (P : Ps) : Prop where
  cell : ∀ k, k < np → wr.cell? ⟨g, k * 3, none⟩ = some (.bool (P.th k)) ∧ wr.cell? ⟨g, k * 3 + 1, none⟩ = some (.int .i64 (P.rm k)) ∧ wr.cell? ⟨g, k * 3 + 2, none⟩ = some (KV k)
  free : ∀ i, i < np * 3 → wr.frozen? ⟨g, i, none⟩ = false
  lt : g < wr.heap.size

theorem RowP.up {wr w' : World} {g np : Nat} {KV : Nat → Value} {P : Ps} (h : RowP wr g np KV P) (hb : Below wr.heap.size wr w') : RowP w' g np KV P :=
  ⟨fun k hk => by
    obtain ⟨h1, h2, h3⟩ := h.cell k hk
    exact ⟨by rw [hb.cell h.lt]; exact h1, by rw [hb.cell h.lt]; exact h2, by rw [hb.cell h.lt]; exact h3⟩,
   fun i hi => by rw [← h.free i hi]; exact World.frozen?_of_block (hb.block g h.lt), Nat.lt_of_lt_of_le h.lt hb.size⟩

theorem RowP.kel {wr : World} {g np cap : Nat} {KV : Nat → Value} {P : Ps} {UV : Nat → Nat → Value} (h : RowP wr g np KV P) (hc : np ≤ cap) (hr : np * 40 ≤ 140737488351232) (hk : ∀ k, k < np → KeSl wr wr.heap.size (KV k) (P.m k) (UV k) (P.t k)) : PsSl wr wr.heap.size (.slice (some ⟨g, 0, none⟩) np cap) np KV UV P := by
  refine ⟨_, cap, rfl, ⟨hc, hr⟩, Or.inr ⟨g, 0, rfl, h.lt, fun k hk' => ?_⟩⟩
  obtain ⟨h1, h2, h3⟩ := h.cell k hk'
  rw [Nat.zero_add]
  exact ⟨h1, h2, h3, hk k hk'⟩

/-- the kept ones of peer q written anew -/
theorem RowP.put {wr : World} {g np q : Nat} {KV : Nat → Value} {P P' : Ps} (h : RowP wr g np KV P) (hq : q < np) (u : Value) (e1 : ∀ k, k < np → P'.th k = P.th k) (e2 : ∀ k, k < np → P'.rm k = P.rm k) : RowP (wr.setCell ⟨g, q * 3 + 2, none⟩ u) g np (fun k => if k = q then u else KV k) P' :=
  ⟨fun k hk => by
    obtain ⟨h1, h2, h3⟩ := h.cell k hk
    rw [e1 k hk, e2 k hk]
    refine ⟨by rw [cell_set_lit (Or.inr (by omega))]; exact h1, by rw [cell_set_lit (Or.inr (by omega))]; exact h2, ?_⟩
    show _ = some (if k = q then u else KV k)
    by_cases e : k = q
    · subst e; rw [if_pos rfl]; exact cell_set_same h3 u
    · rw [if_neg e, cell_set_lit (Or.inr (by omega))]; exact h3,
   fun i hi => by rw [frozen_set]; exact h.free i hi, by simpa [World.setCell] using h.lt⟩

/-- the own list of peers, as cells by places -/
theorem rowP_of {wr : World} {base : Nat} {v : Value} {np : Nat} {KV : Nat → Value} {P : Ps} (h : wr.ownsRow base 45 3 v np (flatP KV P np)) (hn : 1 ≤ np) : ∃ g cap, v = .slice (some ⟨g, 0, none⟩) np cap ∧ base ≤ g ∧ np ≤ cap ∧ RowP wr g np KV P := by
  obtain ⟨hl, h2⟩ := h
  rcases h2 with ⟨rfl, h0⟩ | ⟨g, cap, cur, rfl, hg, hh, hc1, hc2, hsz, hcur⟩
  · omega
  · have key : ∀ i u, i < np * 3 → (flatP KV P np)[i]? = some u → wr.cell? ⟨g, i, none⟩ = some u := fun i u hi h3 => by
      rw [← hcur, List.getElem?_take, if_pos hi] at h3
      exact cell_at hh (by simpa using h3)
    refine ⟨g, cap, rfl, hg, hc1, fun k hk => ?_, fun i hi => frozen_at hh, (Array.getElem?_eq_some_iff.1 hh).1⟩
    obtain ⟨q1, q2, q3⟩ := flatP_get KV P np k hk
    exact ⟨key _ _ (by omega) q1, key _ _ (by omega) q2, key _ _ (by omega) q3⟩

/-- the own list of peers, empty or not -/
theorem rowP_any {wr : World} {base g0 : Nat} {v : Value} {np : Nat} {KV : Nat → Value} {P : Ps} (h : wr.ownsRow base 45 3 v np (flatP KV P np)) (hg0 : g0 < wr.heap.size) : ∃ av g cap, v = .slice av np cap ∧ (1 ≤ np → av = some ⟨g, 0, none⟩ ∧ base ≤ g) ∧ np ≤ cap ∧ RowP wr g np KV P := by
  by_cases hn : 1 ≤ np
  · obtain ⟨g, cap, e, h1, h2, h3⟩ := rowP_of h hn
    exact ⟨_, g, cap, e, fun _ => ⟨rfl, h1⟩, h2, h3⟩
  · have h0 : np = 0 := by omega
    subst h0
    rcases h.2 with ⟨rfl, _⟩ | ⟨g, cap, cur, rfl, _, _, hc1, _⟩
    · exact ⟨none, g0, 0, rfl, fun h => absurd h hn, Nat.le_refl _, fun k hk => (by omega), fun i hi => (by omega), hg0⟩
    · exact ⟨_, g0, cap, rfl, fun h => absurd h hn, hc1, fun k hk => (by omega), fun i hi => (by omega), hg0⟩

theorem RowP.sl {wr : World} {av : Option Addr} {g np cap : Nat} {KV : Nat → Value} {P : Ps} {UV : Nat → Nat → Value} (h : RowP wr g np KV P) (ha : 1 ≤ np → av = some ⟨g, 0, none⟩) (hc : np ≤ cap) (hr : np * 40 ≤ 140737488351232) (hk : ∀ k, k < np → KeSl wr wr.heap.size (KV k) (P.m k) (UV k) (P.t k)) : PsSl wr wr.heap.size (.slice av np cap) np KV UV P := by
  by_cases hn : 1 ≤ np
  · rw [ha hn]; exact h.kel hc hr hk
  · exact ⟨av, cap, rfl, ⟨hc, hr⟩, Or.inl (by omega)⟩

theorem Tryz.infoPeer : (Tryz.prog.info? 45).map (fun i => (i.zero, i.size, i.bytes)) = some (some (.agg #[.bool false, .int .i64 0, .slice none 0 0]), 3, 40) := by kernel_rfl

/-- slices.Clone of a list of peers -/
theorem cloneP {w : World} {v : Value} {m : Nat} {KV : Nat → Value} {UV : Nat → Nat → Value} {P : Ps} (h : PsSl w w.heap.size v m KV UV P) (hn : m ≤ 1000) :
    Calls Tryz.prog 70 #[v] w fun e w' => ∃ v', e = .returned v' ∧ w'.ownsRow w.heap.size 45 3 v' m (flatP KV P m) ∧ Below w.heap.size w w' := by
  obtain ⟨ad, cap, rfl, ⟨hc, hr⟩, hx⟩ := h
  have q34 : ∀ (w : World) (a : Option Addr) (n c : Nat), (binOp .eql 25 (.slice a n c) (.slice none 0 0)).run Tryz.prog w = .ok (.bool a.isNone) w := fun w a n c => Lib.run_eql_slice_nil w _ _ a n c 0 0 Tryz.underlying25
  cases ad with
  | none =>
    have h0 : m = 0 := by
      rcases hx with h0 | ⟨bl, off, e, _⟩
      · exact h0
      · cases e
    subst h0
    clear hx
    go_enter Tryz.func70, Tryz.ntmps70
    go_wp2
    go_ret
    exact ⟨_, rfl, World.ownsRow_nil _ _ _ _, Below.refl _ _⟩
  | some a =>
    have hnews : ∀ j u, (flatP KV P m)[j]? = some u → w.cell? (Addr.add a j) = some u := by
      intro j u hu
      have hj : j < m * 3 := by
        have := (List.getElem?_eq_some_iff.1 hu).1
        rw [flatP_len] at this
        exact this
      rcases hx with h0 | ⟨bl, off, e, hbl, hx⟩
      · omega
      injection e with e
      subst e
      obtain ⟨g1, g2, g3, _⟩ := hx (j / 3) (by omega)
      obtain ⟨q1, q2, q3⟩ := flatP_get KV P m (j / 3) (by omega)
      rw [Addr.add_lit]
      rcases (show j = j / 3 * 3 ∨ j = j / 3 * 3 + 1 ∨ j = j / 3 * 3 + 2 by omega) with e | e | e
      · rw [e] at hu ⊢
        rw [q1] at hu
        rw [g1, ← hu]
      · rw [e] at hu ⊢
        rw [q2] at hu
        rw [← Nat.add_assoc, g2, ← hu]
      · rw [e] at hu ⊢
        rw [q3] at hu
        rw [← Nat.add_assoc, g3, ← hu]
    have h1 : ∀ u ∈ flatP KV P m, u.oneCell' = true := flatP_one fun i hi => by
      rcases hx with h0 | ⟨bl, off, e, hbl, hx⟩
      · omega
      · obtain ⟨ap, cp, e2, _⟩ := (hx i hi).2.2.2
        rw [e2]; rfl
    have HNw := hid hnews
    have H1 := hid h1
    obtain ⟨ii, hi, hz0, hz1, hz2⟩ := info_parts Tryz.infoPeer
    have HLn : Hid ((flatP KV P m).length = m * 3) := flatP_len KV P m
    obtain ⟨F, hF⟩ : ∃ F, flatP KV P m = F := ⟨_, rfl⟩
    rw [hF] at HNw H1 HLn
    have HF := hid hF
    clear hx hnews h1 hF
    go_enter Tryz.func70, Tryz.ntmps70
    go_wp2_with (at_builtin; go_must (refine wpList_append_own _ rfl _ _ 25 rfl w.heap.size 45 ii (.agg #[.bool false, .int .i64 0, .slice none 0 0]) 3 40 Tryz.underlying25 hi hz0 hz1 hz2 rfl (by decide) _ _ _ rfl (World.ownsRow_made w #[] 0 (Nat.le_refl _) (Nat.zero_le _) (by simp)) a m cap F rfl HLn.out (fun j u hu => Lib.cell?_alloc_some _ (HNw.out j u hu)) H1.out (by unfold maxLen; omega) (by omega) (by simp) ?_; intro v1 w2 ho hg _; have HO := hid ho; have HG := hid hg; clear ho hg))
    go_ret
    refine ⟨_, rfl, ?_, ?_⟩
    · have h := HO.out
      rw [Nat.zero_add, List.nil_append, ← HF.out] at h
      exact h
    · exact ((Below.refl _ _).alloc (Nat.le_refl _) _).grown HG.out (by simp) (fun k hk => by cases hk; exact Nat.le_refl _)

end Go.Proofs.YtjfnpjmhippdoafGreat
