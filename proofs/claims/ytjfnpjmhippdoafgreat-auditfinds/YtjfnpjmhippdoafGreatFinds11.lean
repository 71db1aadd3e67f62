/- Several texts of one proof, in their order. -/
import Derived.Test.YtjfnpjmhippdoafGreatFinds10
import Derived.Test.YtjfnpjmhippdoafGreatFinds9

/- What was saved is restored, whoever goes, as long as enough shares are there; fewer are never enough. Plain: it speaks of no program. -/
namespace Go.Proofs.YtjfnpjmhippdoafGreat

open Go.RowKit CurveMath
set_option linter.unusedVariables false

/-- the same peers, these of them there -/
def goP (P : Ps) (t : Nat → Bool) : Ps := ⟨t, P.rm, P.m, P.t⟩

section

variable {n : Nat} {b : Bk} {np : Nat} {P : Ps} {need of : Int} {len : Nat} {D : Nat → Int} {lp : Nat} {X : Nat → Int} {t : Nat → Bool}

/-- which share peer k was given; below 0: none -/
def gvn (n np : Nat) (P : Ps) (of : Int) (k : Nat) : Int := fstAt (forA P (n : Int) np of.toNat) (k : Int) of.toNat 0

theorem gvn_at {k : Nat} (h : 0 ≤ gvn n np P of k) : ∃ i : Nat, gvn n np P of k = (i : Int) ∧ i < of.toNat ∧ forA P (n : Int) np of.toNat i = (k : Int) := by
  obtain ⟨i, h1, _, h2, h3⟩ := fstAt_place _ _ _ _ h
  exact ⟨i, h1, by omega, h3⟩

theorem gvn_inj {k k' : Nat} (h : 0 ≤ gvn n np P of k) (e : gvn n np P of k = gvn n np P of k') : k = k' := by
  obtain ⟨i, h1, _, h3⟩ := gvn_at h
  obtain ⟨i', g1, _, g3⟩ := gvn_at (k := k') (by rw [← e]; exact h)
  have : i = i' := by omega
  subst this
  rw [h3] at g3
  omega

/-- who is there and was given something -/
def hereB (n np : Nat) (P : Ps) (of : Int) (t : Nat → Bool) (k : Nat) : Bool := t k && decide (0 ≤ gvn n np P of k)
def hereL (n np : Nat) (P : Ps) (of : Int) (t : Nat → Bool) (f : Nat) : List (Nat × Nat) := ((List.range f).filter (hereB n np P of t)).map fun k => (k, P.m k)

theorem hereL_succ (f : Nat) : hereL n np P of t (f + 1) = hereL n np P of t f ++ (if hereB n np P of t f = true then [(f, P.m f)] else []) := by
  unfold hereL
  rw [List.range_succ, List.filter_append, List.map_append, List.filter_cons, List.filter_nil]
  by_cases c : hereB n np P of t f = true
  · rw [if_pos c, if_pos c]; rfl
  · rw [if_neg c, if_neg c]; rfl

theorem mem_hereL {f : Nat} {x : Nat × Nat} : x ∈ hereL n np P of t f ↔ ∃ k, k < f ∧ hereB n np P of t k = true ∧ x = (k, P.m k) := by
  unfold hereL
  rw [List.mem_map]
  constructor
  · rintro ⟨k, hk, rfl⟩
    rw [List.mem_filter, List.mem_range] at hk
    exact ⟨k, hk.1, hk.2, rfl⟩
  · rintro ⟨k, h1, h2, rfl⟩
    exact ⟨k, List.mem_filter.2 ⟨List.mem_range.2 h1, h2⟩, rfl⟩

/-- what the peers keep behind: the elder ones, and the new one -/
theorem save_old (h : SaveOk n b np P need of len D lp X) {k i : Nat} (hk : k < np) (hi : i < P.m k) : ((saveP n np P need of len D).t k).V i = (P.t k).V i := by
  have hlt : ∀ j, j < P.m k → (P.t k).V j < (n : Int) := fun j hj => ((h.mesh.peer k hk).right j hj).1.2
  simp only [saveP, giveP]
  by_cases c : 0 ≤ fstAt (forA P (n : Int) np of.toNat) (k : Int) of.toNat 0
  · rw [if_pos c, (keepT_top hlt i (by omega)).1, (snocT_same hi).1]
  · rw [if_neg c]

theorem save_new (h : SaveOk n b np P need of len D lp X) {k : Nat} (hk : k < np) (c : 0 ≤ gvn n np P of k) : (saveP n np P need of len D).m k = P.m k + 1 ∧ ((saveP n np P need of len D).t k).V (P.m k) = (n : Int) ∧ ((saveP n np P need of len D).t k).N (P.m k) = gvn n np P of k ∧
    ((saveP n np P need of len D).t k).L (P.m k) = rowsN need (len : Int) ∧ ((saveP n np P need of len D).t k).X (P.m k) = fun r => shv need.toNat len D (gvn n np P of k).toNat r := by
  have hlt : ∀ j, j < P.m k → (P.t k).V j < (n : Int) := fun j hj => ((h.mesh.peer k hk).right j hj).1.2
  have c' : 0 ≤ fstAt (forA P (n : Int) np of.toNat) (k : Int) of.toNat 0 := c
  obtain ⟨i, hi, _, _⟩ := gvn_at c
  have hi' : fstAt (forA P (n : Int) np of.toNat) (k : Int) of.toNat 0 = (i : Int) := hi
  simp only [saveP, giveP]
  rw [if_pos c', if_pos c', hi, hi', Int.toNat_natCast]
  obtain ⟨e1, e2, e3, e4⟩ := keepT_top (N := (i : Int)) (L := rowsN need (len : Int)) (X := fun r => shv need.toNat len D i r) hlt (P.m k) (by omega)
  refine ⟨rfl, e1.trans ?_, e2.trans ?_, e3.trans ?_, e4.trans ?_⟩ <;> simp [snocT]

theorem save_not {k : Nat} (c : ¬ 0 ≤ gvn n np P of k) : (saveP n np P need of len D).m k = P.m k := by
  have c' : ¬ 0 ≤ fstAt (forA P (n : Int) np of.toNat) (k : Int) of.toNat 0 := c
  simp only [saveP, giveP]
  rw [if_neg c']

/-- nothing of the new version among the elder ones -/
theorem rowE_none (h : SaveOk n b np P need of len D lp X) {k : Nat} (hk : k < np) (l : List (Nat × Nat)) : ∀ f, f ≤ P.m k → thRow (goP (saveP n np P need of len D) t) (n : Int) k l f = l := by
  intro f
  induction f with
  | zero => intro _; rfl
  | succ f ih =>
    intro hf
    rw [thRow_succ, ih (by omega)]
    have hv : ((goP (saveP n np P need of len D) t).t k).V f = (P.t k).V f := save_old h hk (by omega)
    have hlt := ((h.mesh.peer k hk).right f (by omega)).1.2
    unfold thStep isTh
    rw [hv, decide_eq_false (by omega), Bool.and_false, Bool.false_and, if_neg (by decide)]

/-- the shares of the new version that are there -/
theorem there_new (h : SaveOk n b np P need of len D lp X) : ∀ f, f ≤ np → thAll (goP (saveP n np P need of len D) t) (n : Int) f = hereL n np P of t f := by
  intro f
  induction f with
  | zero => intro _; rfl
  | succ f ih =>
    intro hf
    rw [thAll_succ, ih (by omega), hereL_succ]
    have hfn : f < np := by omega
    by_cases c : 0 ≤ gvn n np P of f
    · obtain ⟨e1, e2, e3, _⟩ := save_new h hfn c
      have em : (goP (saveP n np P need of len D) t).m f = P.m f + 1 := e1
      rw [em, thRow_succ, rowE_none h hfn _ _ (Nat.le_refl _)]
      have ev : ((goP (saveP n np P need of len D) t).t f).V (P.m f) = (n : Int) := e2
      have en : ((goP (saveP n np P need of len D) t).t f).N (P.m f) = gvn n np P of f := e3
      have hs : seenN (goP (saveP n np P need of len D) t) (hereL n np P of t f) (gvn n np P of f) = false := by
        rw [Bool.eq_false_iff]
        intro hb
        obtain ⟨x, hx, e⟩ := seenN_iff.1 hb
        obtain ⟨k, hk, hh, rfl⟩ := mem_hereL.1 hx
        unfold hereB at hh
        rw [Bool.and_eq_true, decide_eq_true_iff] at hh
        have e9 : ((goP (saveP n np P need of len D) t).t k).N (P.m k) = gvn n np P of k := (save_new h (by omega) hh.2).2.2.1
        have := gvn_inj hh.2 (e9.symm.trans e)
        omega
      unfold thStep isTh hereB
      rw [ev, en, hs, decide_eq_true rfl, decide_eq_true c, Bool.and_true, Bool.not_false, Bool.and_true]
      have et : (goP (saveP n np P need of len D) t).th f = t f := rfl
      rw [et, Bool.and_true]
      by_cases ct : t f = true
      · rw [if_pos ct, if_pos ct]
      · rw [if_neg ct, if_neg ct, List.append_nil]
    · have em : (goP (saveP n np P need of len D) t).m f = P.m f := save_not (need := need) (len := len) (D := D) c
      rw [em, rowE_none h hfn _ _ (Nat.le_refl _)]
      unfold hereB
      rw [decide_eq_false c, Bool.and_false, if_neg (by decide), List.append_nil]
theorem here_at (h : SaveOk n b np P need of len D lp X) {j : Nat} (hj : j < (hereL n np P of t np).length) : ∃ (k i : Nat), (hereL n np P of t np).getD j (0, 0) = (k, P.m k) ∧ k < np ∧ gvn n np P of k = (i : Int) ∧ i < of.toNat := by
  obtain ⟨k, h1, h2, h3⟩ := mem_hereL.1 (getD_in (d := (0, 0)) hj)
  unfold hereB at h2
  rw [Bool.and_eq_true, decide_eq_true_iff] at h2
  obtain ⟨i, g1, g2, _⟩ := gvn_at h2.2
  exact ⟨k, i, h3, h1, g1, g2⟩

/-- the shares that are there are right, each number once -/
theorem SaveOk.shares (h : SaveOk n b np P need of len D lp X) : RightS need.toNat of.toNat len (rowsN need (len : Int)) (hereL n np P of t np).length (fun j => (nT (goP (saveP n np P need of len D) t) (hereL n np P of t np) j).toNat) D
    (nT (goP (saveP n np P need of len D) t) (hereL n np P of t np)) (lT (goP (saveP n np P need of len D) t) (hereL n np P of t np)) (xT (goP (saveP n np P need of len D) t) (hereL n np P of t np)) := by
  obtain ⟨hpl, _, hD⟩ := splitE_ok h.split
  obtain ⟨b1, b2, b3⟩ := planOk_spec hpl
  have e1 : (need.toNat : Int) = need := by omega
  have hone : List.Pairwise (fun x y => ((goP (saveP n np P need of len D) t).t x.1).N x.2 ≠ ((goP (saveP n np P need of len D) t).t y.1).N y.2) (hereL n np P of t np) := by
    rw [← there_new h np (Nat.le_refl _)]
    exact (thAll_ok _ (n : Int) np np (Nat.le_refl _)).once
  have key : ∀ j, j < (hereL n np P of t np).length → ∃ k i : Nat, nT (goP (saveP n np P need of len D) t) (hereL n np P of t np) j = (i : Int) ∧ i < of.toNat ∧ lT (goP (saveP n np P need of len D) t) (hereL n np P of t np) j = rowsN need (len : Int) ∧ xT (goP (saveP n np P need of len D) t) (hereL n np P of t np) j = fun r => shv need.toNat len D i r := fun j hj => by
    obtain ⟨k, i, g1, g2, g3, g4⟩ := here_at h hj
    obtain ⟨_, _, s3, s4, s5⟩ := save_new h g2 (by rw [g3]; omega)
    obtain ⟨t1, t2, t3⟩ := tT_eq (goP (saveP n np P need of len D) t) (hereL n np P of t np) hj
    refine ⟨k, i, ?_, g4, ?_, ?_⟩
    · rw [← t1]; unfold nL; rw [g1]; exact s3.trans g3
    · rw [← t2]; unfold lL; rw [g1]; exact s4
    · rw [← t3]; unfold xL; rw [g1]; exact s5.trans (by rw [g3, Int.toNat_natCast])
  refine ⟨by rw [e1, h.of_]; exact hpl, by rw [e1], hD, ?_, fun j => ?_, fun j hj => ?_, fun i j hi hj e => ?_, fun j hj => ?_, fun j hj r hr => ?_⟩
  · refine once_len hone fun x hx => ?_
    obtain ⟨k, g1, g2, rfl⟩ := mem_hereL.1 hx
    unfold hereB at g2
    rw [Bool.and_eq_true, decide_eq_true_iff] at g2
    obtain ⟨i, q1, q2, _⟩ := gvn_at g2.2
    have e9 : ((goP (saveP n np P need of len D) t).t k).N (P.m k) = gvn n np P of k := (save_new h g1 g2.2).2.2.1
    show 0 ≤ ((goP (saveP n np P need of len D) t).t k).N (P.m k) ∧ ((goP (saveP n np P need of len D) t).t k).N (P.m k) < _
    rw [e9, q1]
    omega
  · by_cases c : j < (hereL n np P of t np).length
    · obtain ⟨k, i, g1, _⟩ := key j c
      simp only [g1]
      rfl
    · simp only [nT]
      rw [if_neg c]
      rfl
  · obtain ⟨k, i, g1, g2, _⟩ := key j hj
    simp only [g1, Int.toNat_natCast]
    exact g2
  · obtain ⟨k1, i1, g1, _⟩ := key i hi
    obtain ⟨k2, i2, q1, _⟩ := key j hj
    simp only [g1, q1, Int.toNat_natCast] at e
    have en : nL (goP (saveP n np P need of len D) t) (hereL n np P of t np) i = nL (goP (saveP n np P need of len D) t) (hereL n np P of t np) j := by
      rw [(tT_eq _ _ hi).1, (tT_eq _ _ hj).1, g1, q1, e]
    rcases Nat.lt_trichotomy i j with hl | hl | hl
    · exact absurd en (pairwise_getD hone hl hj)
    · exact hl
    · exact absurd en.symm (pairwise_getD hone hl hi)
  · obtain ⟨_, _, _, _, g3, _⟩ := key j hj
    exact g3
  · obtain ⟨k, i, g1, _, _, g4⟩ := key j hj
    simp only [g1, Int.toNat_natCast]
    rw [g4]

end

end Go.Proofs.YtjfnpjmhippdoafGreat

/- Who is to blame, and how many shares lack: behind a repair nobody, and none; where few are bent behind a save those, and nobody else. Plain: it speaks of no program. -/
namespace Go.Proofs.YtjfnpjmhippdoafGreat

open Go.RowKit CurveMath
set_option linter.unusedVariables false

theorem nodup_sub {α : Type} [DecidableEq α] : ∀ (l W : List α), l.Nodup → (∀ x, x ∈ l → x ∈ W) → l.length ≤ W.length := by
  intro l
  induction l with
  | nil => intro W _ _; exact Nat.zero_le _
  | cons a l ih =>
    intro W hn hs
    obtain ⟨h1, h2⟩ := List.nodup_cons.1 hn
    have h3 := ih (W.erase a) h2 fun x hx => (List.mem_erase_of_ne (fun e => h1 (by rw [← e]; exact hx))).2 (hs x (List.mem_cons_of_mem _ hx))
    have h4 := hs a List.mem_cons_self
    rw [List.length_erase_of_mem h4] at h3
    have := List.length_pos_of_mem h4
    rw [List.length_cons]
    omega

/-- few are bent, whichever: what was split is found, and who is bent -/
theorem finds_any {d m s R c b : Nat} {O : Nat → Nat} {D : Nat → Int} {X : Nat → Nat → Int} (hp : planOk (d : Int) (m : Int) (s : Int) = true) (hR : rowsN (d : Int) (s : Int) = R) (hD : ∀ j, j < s → 0 ≤ D j ∧ D j ≤ 30) (hdc : d + 2 * b ≤ c) (hcm : c ≤ m) (ho : ∀ j, j < c → O j < m) (hi : ∀ i j, i < c → j < c → O i = O j → i = j)
    (hX : ∀ j, j < c → ∀ r, r < R → 0 ≤ X j r ∧ X j r ≤ 30) (hb : (badL d s R c (fun j => (O j : Int)) X D).length ≤ b) :
    mostE (d : Int) (m : Int) (s : Int) c (fun j => (O j : Int)) (fun _ => R) X = 0 ∧ (∀ i, i < s → mostD (d : Int) (s : Int) c (fun j => (O j : Int)) X i = D i) ∧
      mostB (d : Int) (m : Int) (s : Int) c (fun j => (O j : Int)) (fun _ => R) X = srt (badL d s R c (fun j => (O j : Int)) X D) := by
  obtain ⟨b1, b2, b3⟩ := planOk_spec hp
  have hS : Shares d m s R c (fun j => (O j : Int)) (fun _ => R) X := ⟨hp, hR, ⟨by omega, by omega⟩, fun j hj => by have := ho j hj; show 0 ≤ (O j : Int) ∧ (O j : Int) < (m : Int); omega, fun j _ => rfl, hX, fun i j h1 h2 e => hi i j h1 h2 (by have e2 : (O i : Int) = (O j : Int) := e; omega)⟩
  have hsz := size_le hS
  obtain ⟨G, hG⟩ : ∃ G, (List.range c).filter (fun j => alB d s R (fun j => (O j : Int)) X D j) = G := ⟨_, rfl⟩
  have hGl : G.length + (badL d s R c (fun j => (O j : Int)) X D).length = c := by
    have h := aCnt_bad d s R c (fun j => (O j : Int)) X D
    unfold aCnt at h
    rw [← hG]
    exact h
  have hGr : Rise c G := ⟨by rw [← hG]; exact List.Pairwise.filter _ List.pairwise_lt_range, fun x hx => by rw [← hG] at hx; exact List.mem_range.1 (List.mem_filter.1 hx).1⟩
  have hGa : ∀ j, j < d → ∀ r, r < R → X (G.getD j 0) r = shv d s D (O (G.getD j 0)) r := fun j hj r hr => by
    have h1 := getD_memV (c := G) (j := j) (by omega)
    generalize G.getD j 0 = x at h1
    rw [← hG] at h1
    have h2 := of_decide_eq_true (List.mem_filter.1 h1).2 r hr
    rw [Int.toNat_natCast] at h2
    exact h2
  have hGo : ∀ j, j < d → O (G.getD j 0) < 8 := fun j hj => by have := ho _ (hGr.lt (show j < G.length by omega)); omega
  have hGi : ∀ x y, x < d → y < d → O (G.getD x 0) = O (G.getD y 0) → x = y := fun x y hx hy e => hGr.inj (by omega) (by omega) (hi _ _ (hGr.lt (by omega)) (hGr.lt (by omega)) e)
  obtain ⟨cc, hcr, hcl, hcd⟩ := choice_of hS (O := fun j => G.getD j 0) (fun j hj => hGr.lt (by omega)) (fun i j h1 h2 e => hGr.inj (by omega) (by omega) e)
  have hcD : ∀ i, i < R * d → conD d (fun j => (O j : Int)) X cc i = padD s D i := fun i hi' => by
    rw [hcd i hi']
    rw [← joinD_pick (d := d) (n := s) (O := fun j => O (G.getD j 0)) ⟨by omega, by omega⟩ hD hGo hGi i]
    have hd : 0 < d := by omega
    have hr : i / d < R := (Nat.div_lt_iff_lt_mul hd).2 hi'
    unfold joinD
    have g := good_pick (n := s) (D := D) (O := fun j => O (G.getD j 0)) ⟨(by omega : 1 ≤ d), (by omega : d ≤ 8)⟩ hGo hGi (i / d)
    exact crv_congr g.3 g (fun j _ => rfl) (fun j hj => hGa j hj _ hr)
  have hmk : mkB d s R (fun j => (O j : Int)) X cc = true := decide_eq_true fun i hi' => by
    by_cases h : i < s
    · exact Or.inl h
    · refine Or.inr ?_
      have := hcD i hi'
      unfold padD at this
      rw [if_neg h] at this
      exact this
  have hcmem : cc ∈ comb d (List.range c) := good_comb hcr hcl
  obtain ⟨e, hel⟩ := elect_is hcmem hmk
  obtain ⟨he1, he2, he3⟩ := elect_some hel
  have hmin := he3 cc hcmem hmk
  have hbc : badL d s R c (fun j => (O j : Int)) X (conD d (fun j => (O j : Int)) X cc) = badL d s R c (fun j => (O j : Int)) X D := badL_congr fun i hi' => by
    rw [hcD i (by omega)]
    unfold padD
    rw [if_pos hi']
  rw [hbc] at hmin
  obtain ⟨E, hE⟩ : ∃ E, conD d (fun j => (O j : Int)) X e = E := ⟨_, rfl⟩
  rw [hE] at hmin
  have hEn : ∀ j, j < s → 0 ≤ E j ∧ E j ≤ 30 := fun j _ => by rw [← hE]; unfold conD joinD; exact crv_num _ _ _ _
  have hsame : ∀ i, i < s → E i = D i := by
    by_cases hP : d ≤ ((List.range c).filter fun j => alB d s R (fun j => (O j : Int)) X E j && alB d s R (fun j => (O j : Int)) X D j).length
    · obtain ⟨P, hPe⟩ : ∃ P, ((List.range c).filter fun j => alB d s R (fun j => (O j : Int)) X E j && alB d s R (fun j => (O j : Int)) X D j) = P := ⟨_, rfl⟩
      rw [hPe] at hP
      have hPr : Rise c P := ⟨by rw [← hPe]; exact List.Pairwise.filter _ List.pairwise_lt_range, fun x hx => by rw [← hPe] at hx; exact List.mem_range.1 (List.mem_filter.1 hx).1⟩
      have hPm : ∀ j, j < d → alB d s R (fun j => (O j : Int)) X E (P.getD j 0) = true ∧ alB d s R (fun j => (O j : Int)) X D (P.getD j 0) = true := fun j hj => by
        have h1 := getD_memV (c := P) (j := j) (by omega)
        generalize P.getD j 0 = x at h1
        rw [← hPe] at h1
        have h2 := (List.mem_filter.1 h1).2
        exact Bool.and_eq_true_iff.1 h2
      refine same_content (O := fun j => O (P.getD j 0)) ⟨by omega, by omega⟩ hsz hEn hD (fun j hj => by have := ho _ (hPr.lt (show j < P.length by omega)); omega) (fun i j h1 h2 e' => hPr.inj (by omega) (by omega) (hi _ _ (hPr.lt (by omega)) (hPr.lt (by omega)) e')) (fun j hj r hr => ?_)
      obtain ⟨g1, g2⟩ := hPm j hj
      have k1 := of_decide_eq_true g1 r hr
      have k2 := of_decide_eq_true g2 r hr
      rw [k1] at k2
      exact k2
    · exfalso
      have h1 := filter_two (List.range c) (fun j => alB d s R (fun j => (O j : Int)) X E j) (fun j => alB d s R (fun j => (O j : Int)) X D j)
      have h2 := aCnt_bad d s R c (fun j => (O j : Int)) X E
      have h4 : ((List.range c).filter fun j => !alB d s R (fun j => (O j : Int)) X D j).length = (badL d s R c (fun j => (O j : Int)) X D).length := by
        unfold badL; rw [List.length_map]
      unfold aCnt at h2
      omega
  have hC : mostC (d : Int) (s : Int) c (fun j => (O j : Int)) X = some e := by unfold mostC; rw [Int.toNat_natCast, Int.toNat_natCast, hR]; exact hel
  have hM : mostE (d : Int) (m : Int) (s : Int) c (fun j => (O j : Int)) (fun _ => R) X = 0 := by unfold mostE; rw [if_pos hS.checks, hC]; rfl
  have hMD : mostD (d : Int) (s : Int) c (fun j => (O j : Int)) X = E := by unfold mostD; rw [hC, Int.toNat_natCast, ← hE]; rfl
  refine ⟨hM, fun i hi' => by rw [hMD]; exact hsame i hi', ?_⟩
  unfold mostB
  rw [if_pos hM, hMD, Int.toNat_natCast, Int.toNat_natCast, hR, badL_congr (D := D) hsame]

/-- is peer i to blame? -/
def blB (P : Ps) (ver : Int) (R : Nat) (S : Nat → Nat → Int) (i : Nat) : Bool := hasK P ver i && !goodK P ver R S i
/-- who is to blame for version k -/
def blL (b : Bk) (np : Nat) (P : Ps) (k : Int) : List Int := pickL (blB P k (rowsN (b.nd k.toNat) (b.sz k.toNat)) (rsS b np P k)) np
/-- how many shares of version k lack -/
def laN (b : Bk) (np : Nat) (P : Ps) (k : Int) : Int := b.of k.toNat - ((thereL P k np).length : Int)

/-- behind a repair nobody is to blame, and nothing lacks -/
theorem mend_blame {n : Nat} {b : Bk} {np : Nat} {P : Ps} {k : Int} (h : mendE n b np P k = 0) : rsE n b np (mendP b np P k) k = 0 ∧ verM n b np (mendP b np P k) k = 0 ∧ blL b np (mendP b np P k) k = [] ∧ laN b np (mendP b np P k) k = 0 := by
  obtain ⟨h1, hF⟩ := mend_ok h
  obtain ⟨hv, d, m, s, e1, e2, e3, hp⟩ := rsE_ok h1
  obtain ⟨g1, g2, _⟩ := mend_rest h
  have eS : rsS b np (mendP b np P k) k = rsS b np P k := by
    funext q r
    unfold rsS
    exact shv_congr fun i hi => g2 i (by rw [e3]; rw [e3] at hi; omega)
  refine ⟨g1, (rsE_ok g1).1, ?_, ?_⟩
  · unfold blL
    rw [eS, List.eq_nil_iff_forall_not_mem]
    intro x hx
    obtain ⟨i, hi, hb, _⟩ := mem_pickL.1 hx
    unfold blB at hb
    rw [Bool.and_eq_true, Bool.not_eq_true'] at hb
    have h2 := hF.goodK hi hb.1
    rw [show fillP P k (rowsN (b.nd k.toNat) (b.sz k.toNat)) (rsS b np P k) np (b.of k.toNat).toNat = mendP b np P k from rfl, hb.2] at h2
    cases h2
  · unfold laN
    have h3 := hF.there
    have h4 := hF.count
    rw [show fillP P k (rowsN (b.nd k.toNat) (b.sz k.toNat)) (rsS b np P k) np (b.of k.toNat).toNat = mendP b np P k from rfl] at h3 h4
    rw [h3, h4, e2]
    omega

/-! Who is bent. -/

/-- the share at place i, its first number c more -/
def benT (t : Kt) (i : Nat) (c : Int) : Kt := ⟨t.V, t.N, t.L, fun j => if j = i then fun r => if r = 0 then (t.X j 0 + c) % 31 else t.X j r else t.X j⟩
/-- the peers W bent in what they keep of a version -/
def bentP (P : Ps) (ver : Int) (W : List Nat) (c : Int) : Ps := ⟨P.th, P.rm, P.m, fun k => if k ∈ W then benT (P.t k) (atK P ver k) c else P.t k⟩

section

variable {P : Ps} {ver : Int} {W : List Nat} {c : Int}

theorem bent_VN (k : Nat) : ((bentP P ver W c).t k).V = (P.t k).V ∧ ((bentP P ver W c).t k).N = (P.t k).N ∧ ((bentP P ver W c).t k).L = (P.t k).L := by
  simp only [bentP]
  by_cases h : k ∈ W
  · rw [if_pos h]; exact ⟨rfl, rfl, rfl⟩
  · rw [if_neg h]; exact ⟨rfl, rfl, rfl⟩

theorem bent_at (k : Nat) : hasK (bentP P ver W c) ver k = hasK P ver k ∧ atK (bentP P ver W c) ver k = atK P ver k ∧ numK (bentP P ver W c) ver k = numK P ver k := by
  obtain ⟨e1, e2, _⟩ := bent_VN (P := P) (ver := ver) (W := W) (c := c) k
  have ea : atK (bentP P ver W c) ver k = atK P ver k := by unfold atK; rw [e1]; rfl
  refine ⟨by unfold hasK; rw [e1]; rfl, ea, ?_⟩
  unfold numK
  rw [ea, e2]

theorem bent_rows (k : Nat) (l : List (Nat × Nat)) : ∀ f, thRow (bentP P ver W c) ver k l f = thRow P ver k l f := by
  obtain ⟨e1, e2, _⟩ := bent_VN (P := P) (ver := ver) (W := W) (c := c) k
  have es : ∀ (l : List (Nat × Nat)) N, seenN (bentP P ver W c) l N = seenN P l N := fun l N => by
    unfold seenN
    refine any_eq fun x _ => ?_
    rw [(bent_VN (P := P) (ver := ver) (W := W) (c := c) x.1).2.1]
  intro f
  induction f with
  | zero => rfl
  | succ f ih =>
    rw [thRow_succ, thRow_succ, ih]
    unfold thStep isTh
    rw [e1, e2, es]
    rfl

theorem bent_there (np : Nat) : thereL (bentP P ver W c) ver np = thereL P ver np := by
  have h : ∀ f, thAll (bentP P ver W c) ver f = thAll P ver f := by
    intro f
    induction f with
    | zero => rfl
    | succ f ih => rw [thAll_succ, thAll_succ, ih, bent_rows]; rfl
  exact h np

theorem bent_X (k : Nat) {i r : Nat} : ((bentP P ver W c).t k).X i r = if k ∈ W ∧ i = atK P ver k ∧ r = 0 then ((P.t k).X i 0 + c) % 31 else (P.t k).X i r := by
  simp only [bentP]
  by_cases h : k ∈ W
  · rw [if_pos h]
    simp only [benT]
    by_cases hi : i = atK P ver k
    · rw [if_pos hi]
      by_cases hr : r = 0
      · rw [if_pos hr, if_pos ⟨h, hi, hr⟩]
      · rw [if_neg hr, if_neg (fun q => hr q.2.2)]
    · rw [if_neg hi, if_neg (fun q => hi q.2.1)]
  · rw [if_neg h, if_neg (fun q => h q.1)]

end

/-- another number, modulo 31 -/
theorem turn_ne {x c : Int} (hx : 0 ≤ x ∧ x ≤ 30) (hc : 1 ≤ c ∧ c ≤ 30) : (x + c) % 31 ≠ x := by omega

/-- what is bent stays right, by its form -/
theorem MeshR.bent {n : Nat} {b : Bk} {np : Nat} {P : Ps} (h : MeshR n b np P) (ver : Int) (W : List Nat) (c : Int) : MeshR n b np (bentP P ver W c) := by
  refine ⟨h.book, h.few, fun k hk => ?_⟩
  have hp := h.peer k hk
  obtain ⟨e1, e2, e3⟩ := bent_VN (P := P) (ver := ver) (W := W) (c := c) k
  refine ⟨h.book, hp.room_, hp.few, fun j hj => ?_, fun i j hij hj => by rw [e1]; exact hp.rise i j hij hj⟩
  obtain ⟨h1, h2⟩ := hp.right j hj
  refine ⟨by rw [e1]; exact h1, ?_⟩
  unfold oneK at h2 ⊢
  rw [e1, e2, e3]
  obtain ⟨g1, g2, g3, g4⟩ := oneE_ok h2
  refine oneE_mk g1 g2 g3 fun r hr => ?_
  have h5 := of_decide_eq_true g4 r hr
  unfold isNum at h5
  rw [decide_eq_true_iff] at h5
  rw [bent_X]
  by_cases hc : k ∈ W ∧ j = atK P ver k ∧ r = 0
  · rw [if_pos hc]; omega
  · rw [if_neg hc]; exact h5

section

variable {n : Nat} {b : Bk} {np : Nat} {P : Ps} {need of : Int} {len : Nat} {D : Nat → Int} {lp : Nat} {X : Nat → Int} {W : List Nat} {c : Int}

/-- what was saved, few of it bent -/
structure BentOk (n : Nat) (b : Bk) (np : Nat) (P : Ps) (need of : Int) (len : Nat) (D : Nat → Int) (lp : Nat) (X : Nat → Int) (W : List Nat) (c : Int) : Prop where
  save : SaveOk n b np P need of len D lp X
  got : ∀ w, w ∈ W → w < np ∧ 0 ≤ gvn n np P of w
  once : W.Nodup
  few : 2 * W.length ≤ of.toNat - need.toNat
  by_ : 1 ≤ c ∧ c ≤ 30

/-- who was given something is there, and has it behind the elder ones -/
theorem save_has (h : SaveOk n b np P need of len D lp X) {k : Nat} (hk : k < np) : hasK (saveP n np P need of len D) (n : Int) k = decide (0 ≤ gvn n np P of k) ∧ (0 ≤ gvn n np P of k → atK (saveP n np P need of len D) (n : Int) k = P.m k ∧ P.th k = true) := by
  by_cases c : 0 ≤ gvn n np P of k
  · obtain ⟨e1, e2, _⟩ := save_new h hk c
    have hf : fstAt ((saveP n np P need of len D).t k).V (n : Int) ((saveP n np P need of len D).m k) 0 = ((P.m k : Nat) : Int) := by
      rw [e1]
      have e := fstAt_succ ((saveP n np P need of len D).t k).V (n : Int) (P.m k) 0
      have hno : ¬ 0 ≤ fstAt ((saveP n np P need of len D).t k).V (n : Int) (P.m k) 0 := fun hh => by
        obtain ⟨i, _, hi, e⟩ := (fstAt_neg _ _ _ 0).1 hh
        rw [save_old h hk (by omega)] at e
        have := ((h.mesh.peer k hk).right i (by omega)).1.2
        omega
      rw [Nat.zero_add, if_neg hno, if_pos e2] at e
      exact e
    have hth : P.th k = true := by
      obtain ⟨i, _, hi, e⟩ := gvn_at c
      obtain ⟨q, h1, h2, h3, _⟩ := forA_at h.many hi
      have : q = k := by omega
      subst this
      exact h3.1
    refine ⟨?_, fun _ => ⟨by unfold atK; rw [hf, Int.toNat_natCast], hth⟩⟩
    unfold hasK
    rw [hf, decide_eq_true c, decide_eq_true (by omega), Bool.and_true]
    exact hth
  · refine ⟨?_, fun h => absurd h c⟩
    have hno : ¬ 0 ≤ fstAt ((saveP n np P need of len D).t k).V (n : Int) ((saveP n np P need of len D).m k) 0 := fun hh => by
      rw [save_not (need := need) (len := len) (D := D) c] at hh
      obtain ⟨i, _, hi, e⟩ := (fstAt_neg _ _ _ 0).1 hh
      rw [save_old h hk (by omega)] at e
      have := ((h.mesh.peer k hk).right i (by omega)).1.2
      omega
    unfold hasK
    rw [decide_eq_false hno, decide_eq_false c, Bool.and_false]

theorem SaveOk.all_given (h : SaveOk n b np P need of len D lp X) {q : Nat} (hq : q < of.toNat) : ∃ k, k < np ∧ gvn n np P of k = (q : Int) := by
  obtain ⟨k, h1, h2, h3, _⟩ := forA_at h.many hq
  have h0 : 0 ≤ gvn n np P of k := (fstAt_neg _ _ _ 0).2 ⟨q, Nat.zero_le _, by omega, h1⟩
  refine ⟨k, h2, ?_⟩
  obtain ⟨i, g1, g2, g3⟩ := gvn_at h0
  have : i = q := by
    rcases Nat.lt_trichotomy i q with hl | hl | hl
    · exact absurd (g3.trans h1.symm) (forA_ne h.many hl hq)
    · exact hl
    · exact absurd (h1.trans g3.symm) (forA_ne h.many hl g2)
  rw [g1, this]

/-- all shares are there -/
theorem SaveOk.count (h : SaveOk n b np P need of len D lp X) : (hereL n np P of P.th np).length = of.toNat := by
  have h1 := (h.shares (t := P.th)).le
  have h2 := cover_len of.toNat ((hereL n np P of P.th np).map fun x => gvn n np P of x.1) (fun q hq => by
    obtain ⟨k, g1, g2⟩ := h.all_given hq
    refine List.mem_map.2 ⟨(k, P.m k), mem_hereL.2 ⟨k, g1, ?_, rfl⟩, g2⟩
    unfold hereB
    rw [decide_eq_true (by omega), Bool.and_true]
    exact ((save_has h g1).2 (by omega)).2)
  rw [List.length_map] at h2
  omega

theorem goP_self : goP (saveP n np P need of len D) P.th = saveP n np P need of len D := rfl

/-- all that is so behind a save of which few are bent -/
theorem BentOk.found (h : BentOk n b np P need of len D lp X W c) :
    rsE (n + 1) (saveB n b need of len lp X) np (bentP (saveP n np P need of len D) (n : Int) W c) (n : Int) = 0 ∧
    (∀ i, i < len → rsD (saveB n b need of len lp X) np (bentP (saveP n np P need of len D) (n : Int) W c) (n : Int) i = D i) := by
  obtain ⟨hpl, _, hD⟩ := splitE_ok h.save.split
  obtain ⟨b1, b2, b3⟩ := planOk_spec hpl
  obtain ⟨Z, hZ⟩ : ∃ Z, bentP (saveP n np P need of len D) (n : Int) W c = Z := ⟨_, rfl⟩
  have hR : MeshR (n + 1) (saveB n b need of len lp X) np Z := by rw [← hZ]; exact h.save.right.bent _ _ _
  have hth : thereL Z (n : Int) np = hereL n np P of P.th np := by
    rw [← hZ, bent_there]
    have := there_new h.save (t := P.th) np (Nat.le_refl _)
    rw [goP_self] at this
    exact this
  have hcnt := h.save.count
  have hS := h.save.shares (t := P.th)
  rw [goP_self] at hS
  obtain ⟨l, hl⟩ : ∃ l, hereL n np P of P.th np = l := ⟨_, rfl⟩
  rw [hl] at hth hcnt hS
  have hmem : ∀ j, j < l.length → ∃ k, l.getD j (0, 0) = (k, P.m k) ∧ k < np ∧ 0 ≤ gvn n np P of k := fun j hj => by
    have hg := getD_in (l := l) (d := (0, 0)) hj
    rw [← hl] at hg
    obtain ⟨k, h1, h2, h3⟩ := mem_hereL.1 hg
    unfold hereB at h2
    rw [Bool.and_eq_true, decide_eq_true_iff] at h2
    rw [← hl]
    exact ⟨k, h3, h1, h2.2⟩
  have e1 : (need.toNat : Int) = need := by omega
  have eN : nT Z l = nT (saveP n np P need of len D) l := by
    funext j
    unfold nT nL
    rw [← hZ, (bent_VN _).2.1]
  have eL : lT Z l = lT (saveP n np P need of len D) l := by
    funext j
    unfold lT lL
    rw [← hZ, (bent_VN _).2.2]
  have hN : nT Z l = fun j => (((nT (saveP n np P need of len D) l j).toNat : Nat) : Int) := by rw [eN]; exact funext hS.num
  have hL : ∀ j, j < l.length → lT Z l j = rowsN need (len : Int) := fun j hj => by rw [eL]; exact hS.len j hj
  have hXs : ∀ j, j < l.length → ((l.getD j (0, 0)).1 ∉ W) → ∀ r, xT Z l j r = xT (saveP n np P need of len D) l j r := fun j hj hw r => by
    unfold xT
    rw [if_pos hj, if_pos hj]
    unfold xL
    rw [← hZ, bent_X, if_neg (fun q => hw q.1)]
  have hbad : (badL need.toNat len (rowsN need (len : Int)) l.length (fun j => (((nT (saveP n np P need of len D) l j).toNat : Nat) : Int)) (xT Z l) D).length ≤ W.length := by
    unfold badL
    rw [List.length_map, ← List.length_map (f := fun j => (l.getD j (0, 0)).1)]
    refine nodup_sub _ _ ?_ fun x hx => ?_
    · rw [List.Nodup, List.pairwise_map]
      refine (List.Pairwise.filter _ List.nodup_range).imp_of_mem fun {i j} hi hj hij e => hij ?_
      have hi' := List.mem_range.1 (List.mem_filter.1 hi).1
      have hj' := List.mem_range.1 (List.mem_filter.1 hj).1
      obtain ⟨k1, a1, _⟩ := hmem i hi'
      obtain ⟨k2, a2, _⟩ := hmem j hj'
      have e' : (l.getD i (0, 0)).1 = (l.getD j (0, 0)).1 := e
      refine hS.inj i j hi' hj' ?_
      simp only [nT, if_pos hi', if_pos hj']
      unfold nL
      rw [a1, a2] at e'
      have e'' : k1 = k2 := e'
      rw [a1, a2, e'']
    · obtain ⟨j, hj, rfl⟩ := List.mem_map.1 hx
      obtain ⟨h1, h2⟩ := List.mem_filter.1 hj
      have hj' := List.mem_range.1 h1
      by_cases hw : (l.getD j (0, 0)).1 ∈ W
      · exact hw
      · exfalso
        rw [Bool.not_eq_true'] at h2
        have : alB need.toNat len (rowsN need (len : Int)) (fun j => (((nT (saveP n np P need of len D) l j).toNat : Nat) : Int)) (xT Z l) D j = true := decide_eq_true fun r hr => by
          rw [hXs j hj' hw r, hS.val j hj' r hr, Int.toNat_natCast]
        rw [this] at h2
        cases h2
  have hf := h.few
  obtain ⟨m1, m2, _⟩ := finds_any (d := need.toNat) (m := of.toNat) (s := len) (R := rowsN need (len : Int)) (c := l.length) (b := W.length) (O := fun j => (nT (saveP n np P need of len D) l j).toNat) (D := D) (X := xT Z l) hS.plan hS.rows hD (by omega) (by omega) hS.lt hS.inj
    (fun j hj r hr => by
      obtain ⟨k, a1, a2, a3⟩ := hmem j hj
      have hh := (hR.peer k a2).right (P.m k) (by rw [← hZ]; show P.m k < (saveP n np P need of len D).m k; rw [(save_new h.save a2 a3).1]; omega)
      obtain ⟨_, _, _, g4⟩ := oneE_ok hh.2
      have hlen : (Z.t k).L (P.m k) = rowsN need (len : Int) := by rw [← hL j hj, ← (tT_eq Z l hj).2.1]; unfold lL; rw [a1]
      have h5 := of_decide_eq_true g4 r (by rw [hlen]; exact hr)
      unfold isNum at h5
      rw [decide_eq_true_iff] at h5
      rw [← (tT_eq Z l hj).2.2]
      unfold xL
      rw [a1]
      exact h5) hbad
  have hv : verM (n + 1) (saveB n b need of len lp X) np Z (n : Int) = 0 := by unfold verM; rw [if_pos hR.e, if_pos ⟨by omega, by omega⟩]
  have c1 : (saveB n b need of len lp X).nd (n : Int).toNat = (need.toNat : Int) := by rw [e1]; simp [saveB, snocB]
  have c2 : (saveB n b need of len lp X).of (n : Int).toNat = (of.toNat : Int) := by rw [h.save.of_]; simp [saveB, snocB]
  have c3 : (saveB n b need of len lp X).sz (n : Int).toNat = (len : Int) := by simp [saveB, snocB]
  rw [hZ]
  refine ⟨?_, fun i hi => ?_⟩
  · unfold rsE; rw [if_pos hv, hth, c1, c2, c3, hN, mostE_L (L' := fun _ => rowsN need (len : Int)) hL]; exact m1
  · unfold rsD; rw [hth, c1, c3, hN]; exact m2 i hi

/-- the shares that the version is restored to -/
theorem BentOk.shares_ (h : BentOk n b np P need of len D lp X W c) : rsS (saveB n b need of len lp X) np (bentP (saveP n np P need of len D) (n : Int) W c) (n : Int) = fun q r => shv need.toNat len D q r := by
  funext q r
  unfold rsS
  rw [show (saveB n b need of len lp X).nd (n : Int).toNat = need by simp [saveB, snocB], show (saveB n b need of len lp X).sz (n : Int).toNat = (len : Int) by simp [saveB, snocB], Int.toNat_natCast]
  exact shv_congr fun i hi => h.found.2 i hi

/-- who is good: who is not bent -/
theorem BentOk.good_ (h : BentOk n b np P need of len D lp X W c) {k : Nat} (hk : k < np) (hg : 0 ≤ gvn n np P of k) : goodK (bentP (saveP n np P need of len D) (n : Int) W c) (n : Int) (rowsN need (len : Int)) (fun q r => shv need.toNat len D q r) k = !decide (k ∈ W) := by
  obtain ⟨hpl, _, hD⟩ := splitE_ok h.save.split
  obtain ⟨b1, b2, b3⟩ := planOk_spec hpl
  have hR := rowsN_bd b1 b3
  obtain ⟨_, e2⟩ := save_has h.save hk
  obtain ⟨e3, _⟩ := e2 hg
  obtain ⟨_, _, s3, s4, s5⟩ := save_new h.save hk hg
  obtain ⟨a1, a2, a3⟩ := bent_at (P := saveP n np P need of len D) (ver := (n : Int)) (W := W) (c := c) k
  have hn : numK (saveP n np P need of len D) (n : Int) k = gvn n np P of k := by unfold numK; rw [e3]; exact s3
  unfold goodK sameB eqB
  rw [decide_eq_true rfl, Bool.true_and, a2, a3, e3, hn, (bent_VN k).2.2, s4]
  by_cases hw : k ∈ W
  · rw [decide_eq_true hw, Bool.not_true, decide_eq_false_iff_not]
    rintro ⟨_, h2⟩
    have h3 := h2 0 (by omega)
    rw [bent_X, if_pos ⟨hw, e3.symm, rfl⟩, s5] at h3
    exact turn_ne (shv_num _ _ _ _ _) h.by_ h3
  · rw [decide_eq_false hw, Bool.not_false, decide_eq_true_iff]
    refine ⟨rfl, fun r hr => ?_⟩
    rw [bent_X, if_neg (fun q => hw q.1), s5]

/-- who is to blame is found, and nobody else; nothing lacks -/
theorem BentOk.blame (h : BentOk n b np P need of len D lp X W c) : blL (saveB n b need of len lp X) np (bentP (saveP n np P need of len D) (n : Int) W c) (n : Int) = srt (W.map fun w : Nat => (w : Int)) ∧ laN (saveB n b need of len lp X) np (bentP (saveP n np P need of len D) (n : Int) W c) (n : Int) = 0 := by
  have c1 : (saveB n b need of len lp X).nd (n : Int).toNat = need := by simp [saveB, snocB]
  have c2 : (saveB n b need of len lp X).of (n : Int).toNat = of := by simp [saveB, snocB]
  have c3 : (saveB n b need of len lp X).sz (n : Int).toNat = (len : Int) := by simp [saveB, snocB]
  constructor
  · unfold blL
    rw [c1, c3, h.shares_]
    have hp : ∀ k, k < np → blB (bentP (saveP n np P need of len D) (n : Int) W c) (n : Int) (rowsN need (len : Int)) (fun q r => shv need.toNat len D q r) k = decide (k ∈ W) := fun k hk => by
      unfold blB
      rw [(bent_at k).1, (save_has h.save hk).1]
      by_cases hg : 0 ≤ gvn n np P of k
      · rw [h.good_ hk hg, decide_eq_true hg, Bool.true_and, Bool.not_not]
      · have : k ∉ W := fun hw => hg (h.got k hw).2
        rw [decide_eq_false hg, decide_eq_false this, Bool.false_and]
    rw [pickL_congr hp]
    have n1 : (pickL (fun k => decide (k ∈ W)) np).Nodup := (pickL_rise _ np).imp fun {a b} h => by omega
    have n2 : (W.map fun w : Nat => (w : Int)).Nodup := by
      rw [List.Nodup, List.pairwise_map]
      exact h.once.imp fun {a b} h e => h (by omega)
    have hpm : (pickL (fun k => decide (k ∈ W)) np).Perm (srt (W.map fun w : Nat => (w : Int))) := by
      refine List.Perm.trans ?_ (List.mergeSort_perm _ _).symm
      refine (List.perm_ext_iff_of_nodup n1 n2).2 fun x => ?_
      rw [mem_pickL, List.mem_map]
      constructor
      · rintro ⟨k, _, h2, rfl⟩; exact ⟨k, of_decide_eq_true h2, rfl⟩
      · rintro ⟨k, h2, rfl⟩; exact ⟨k, (h.got k h2).1, decide_eq_true h2, rfl⟩
    refine hpm.eq_of_pairwise (le := fun a b => a ≤ b) (fun a b _ _ h1 h2 => by omega) ((pickL_rise _ np).imp fun {a b} h => by omega) ?_
    have hs := List.pairwise_mergeSort (le := fun x y : Int => decide (x ≤ y)) (fun a b c h1 h2 => by simp at *; omega) (fun a b => by simp; omega) (W.map fun w : Nat => (w : Int))
    unfold srt
    exact hs.imp fun {a b} h => by simpa using h
  · unfold laN
    rw [c2, bent_there]
    have := there_new h.save (t := P.th) np (Nat.le_refl _)
    rw [goP_self] at this
    rw [show thereL (saveP n np P need of len D) (n : Int) np = hereL n np P of P.th np from this, h.save.count, h.save.of_]
    omega

/-- who was not bent keeps its share -/
theorem BentOk.stay_ (h : BentOk n b np P need of len D lp X W c) {k : Nat} (hk : k < np) : stayK (bentP (saveP n np P need of len D) (n : Int) W c) (n : Int) (rowsN need (len : Int)) (fun q r => shv need.toNat len D q r) k = (decide (0 ≤ gvn n np P of k) && !decide (k ∈ W)) := by
  by_cases hg : 0 ≤ gvn n np P of k
  · unfold stayK
    rw [(bent_at k).1, (save_has h.save hk).1, h.good_ hk hg, decide_eq_true hg, Bool.true_and, Bool.true_and]
    have hnot : (repS (bentP (saveP n np P need of len D) (n : Int) W c) (n : Int) (rowsN need (len : Int)) (fun q r => shv need.toNat len D q r) k).contains (numK (bentP (saveP n np P need of len D) (n : Int) W c) (n : Int) k) = false := by
      rw [Bool.eq_false_iff]
      intro hc
      obtain ⟨i, hi, hs, e⟩ := mem_repS.1 (List.contains_iff_mem.1 hc)
      obtain ⟨h1, _⟩ := stay_parts hs
      rw [(bent_at i).1, (save_has h.save (by omega)).1, decide_eq_true_iff] at h1
      rw [(bent_at i).2.2, (bent_at k).2.2] at e
      have n1 : numK (saveP n np P need of len D) (n : Int) i = gvn n np P of i := by unfold numK; rw [((save_has h.save (by omega)).2 h1).1]; exact (save_new h.save (by omega) h1).2.2.1
      have n2 : numK (saveP n np P need of len D) (n : Int) k = gvn n np P of k := by unfold numK; rw [((save_has h.save hk).2 hg).1]; exact (save_new h.save hk hg).2.2.1
      rw [n1, n2] at e
      have := gvn_inj h1 e
      omega
    rw [hnot]
    simp
  · unfold stayK
    rw [(bent_at k).1, (save_has h.save hk).1, decide_eq_false hg, Bool.false_and, Bool.false_and]

/-- it can be repaired -/
theorem BentOk.mends (h : BentOk n b np P need of len D lp X W c) : mendE (n + 1) (saveB n b need of len lp X) np (bentP (saveP n np P need of len D) (n : Int) W c) (n : Int) = 0 := by
  obtain ⟨hpl, _, hD⟩ := splitE_ok h.save.split
  obtain ⟨b1, b2, b3⟩ := planOk_spec hpl
  have c1 : (saveB n b need of len lp X).nd (n : Int).toNat = need := by simp [saveB, snocB]
  have c2 : (saveB n b need of len lp X).of (n : Int).toNat = of := by simp [saveB, snocB]
  have c3 : (saveB n b need of len lp X).sz (n : Int).toNat = (len : Int) := by simp [saveB, snocB]
  unfold mendE
  rw [if_pos h.found.1, c1, c2, c3, h.shares_]
  obtain ⟨Z, hZ⟩ : ∃ Z, bentP (saveP n np P need of len D) (n : Int) W c = Z := ⟨_, rfl⟩
  have hst := fun k (hk : k < np) => h.stay_ hk
  have hhas := fun k => (bent_at (P := saveP n np P need of len D) (ver := (n : Int)) (W := W) (c := c) k)
  have hR : MeshR (n + 1) (saveB n b need of len lp X) np Z := by rw [← hZ]; exact h.save.right.bent _ _ _
  have hthZ : Z.th = P.th := by rw [← hZ]; rfl
  rw [hZ] at hst hhas ⊢
  unfold fillE
  obtain ⟨lk, hlk⟩ : ∃ l, lackL Z (n : Int) (rowsN need (len : Int)) (fun q r => shv need.toNat len D q r) np of.toNat = l := ⟨_, rfl⟩
  have hlackW : lk.length ≤ W.length := by
    rw [show W.length = (W.map fun w => (gvn n np P of w).toNat).length from (List.length_map _).symm]
    refine nodup_sub _ _ ?_ fun q hq => ?_
    · rw [← hlk]; exact List.Pairwise.filter _ List.nodup_range
    · rw [← hlk] at hq
      obtain ⟨h1, h2⟩ := mem_lackL.1 hq
      obtain ⟨k, g1, g2⟩ := h.save.all_given h1
      refine List.mem_map.2 ⟨k, ?_, by rw [g2, Int.toNat_natCast]⟩
      by_cases hw : k ∈ W
      · exact hw
      · exfalso
        refine h2 (mem_repS.2 ⟨k, g1, ?_, ?_⟩)
        · rw [hst k g1, decide_eq_true (by omega), decide_eq_false hw]; rfl
        · rw [(hhas k).2.2]
          unfold numK
          rw [((save_has h.save g1).2 (by omega)).1, (save_new h.save g1 (by omega)).2.2.1, g2]
  have hord : W.length ≤ (orderL (repP Z (n : Int) (rowsN need (len : Int)) (fun q r => shv need.toNat len D q r) np) (n : Int) np).length := by
    rw [show W.length = (W.map fun w : Nat => (w : Int)).length from (List.length_map _).symm]
    refine nodup_sub _ _ ?_ fun x hx => ?_
    · rw [List.Nodup, List.pairwise_map]
      exact h.once.imp fun {a b} h e => h (by omega)
    · obtain ⟨w, hw, rfl⟩ := List.mem_map.1 hx
      obtain ⟨g1, g2⟩ := h.got w hw
      have hhw : hasK Z (n : Int) w = true := by rw [(hhas w).1, (save_has h.save g1).1, decide_eq_true g2]
      have hdr : dropK Z (n : Int) (rowsN need (len : Int)) (fun q r => shv need.toNat len D q r) w = true := stay_not (by rw [hst w g1, decide_eq_true hw, decide_eq_true g2]; rfl) hhw
      obtain ⟨r1, r2⟩ := rep_of (P := Z) (ver := (n : Int)) (R := rowsN need (len : Int)) (S := fun q r => shv need.toNat len D q r) g1
      rw [if_pos hdr] at r1 r2
      obtain ⟨q1, q2, q3⟩ := hasK_at hhw
      have hlt : (butL (Z.t w) (n : Int) (Z.m w)).length < Z.m w := by
        have h9 : (butL (Z.t w) (n : Int) (Z.m w)).length + 1 ≤ (List.range (Z.m w)).length := by
          rw [← List.length_cons (a := atK Z (n : Int) w)]
          refine nodup_sub _ _ (List.nodup_cons.2 ⟨fun hm => ?_, List.Pairwise.filter _ List.nodup_range⟩) fun x hx => ?_
          · have := (List.mem_filter.1 hm).2
            rw [q3] at this
            simp at this
          · rcases List.mem_cons.1 hx with rfl | hx
            · exact List.mem_range.2 q2
            · exact List.mem_range.2 (butL_lt hx)
        rw [List.length_range] at h9
        omega
      have hro := (hR.peer w g1).room_
      have hfe := (hR.peer w g1).few
      refine mem_lefts.2 ⟨w, rfl, g1, ⟨?_, ?_⟩, ?_, ?_⟩
      · show Z.th w = true
        exact q1
      · rw [r1, r2]
        rcases Int.lt_or_le (fstAt (selT (Z.t w) (butL (Z.t w) (n : Int) (Z.m w))).V (n : Int) (butL (Z.t w) (n : Int) (Z.m w)).length 0) 0 with h8 | h8
        · exact h8
        · obtain ⟨i, _, hi, e⟩ := (fstAt_neg _ _ _ 0).1 h8
          exact absurd e (but_gone (by omega))
      · unfold leftK
        rw [r1]
        show 1 ≤ Z.rm w - _
        omega
      · unfold leftK
        rw [r1]
        show Z.rm w - _ ≤ _
        omega
  have hl8 : lk.length ≤ 8 := by
    have := h.few
    omega
  unfold manyE
  rw [hlk, if_pos ⟨by omega, by omega⟩, if_neg (by omega)]

end

end Go.Proofs.YtjfnpjmhippdoafGreat
