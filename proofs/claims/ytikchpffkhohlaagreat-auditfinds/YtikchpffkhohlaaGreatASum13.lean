/- Several texts of one proof, in their order. -/
import Derived.Test.YtikchpffkhohlaaGreatASum12
import Derived.Test.YtikchpffkhohlaaGreatASum2
import Derived.Test.YtikchpffkhohlaaGreatASum6
import Derived.Test.YtikchpffkhohlaaGreatASum10
import Derived.Test.YtikchpffkhohlaaGreatASum11

namespace Go.Proofs.YtikchpffkhohlaaGreat

open Go.RowKit CurveMath
set_option linter.unusedVariables false

theorem nodup_sub {α : Type} [DecidableEq α] : ∀ (l W : List α), l.Nodup → (∀ x, x ∈ l → x ∈ W) → l.length ≤ W.length := by
  intro l
  induction l with
  | nil => intro W _ _; exact Nat.zero_le _
  | cons a l ih =>
    intro W hn hs
    obtain ⟨h1, h2⟩ := List.nodup_cons.1 hn
    have h3 := ih (W.erase a) h2 fun x hx => (List.mem_erase_of_ne (fun e => h1 (by rw [← e]; exact hx))).2 (hs x (List.mem_cons_of_mem _ hx))
    have h4 := hs a List.mem_cons_self
    rw [List.length_erase_of_mem h4] at h3
    have := List.length_pos_of_mem h4
    rw [List.length_cons]
    omega

theorem finds_any {d m s R c b : Nat} {O : Nat → Nat} {D : Nat → Int} {X : Nat → Nat → Int} (hp : planOk (d : Int) (m : Int) (s : Int) = true) (hR : rowsN (d : Int) (s : Int) = R) (hD : ∀ j, j < s → 0 ≤ D j ∧ D j ≤ 30) (hdc : d + 2 * b ≤ c) (hcm : c ≤ m) (ho : ∀ j, j < c → O j < m) (hi : ∀ i j, i < c → j < c → O i = O j → i = j)
    (hX : ∀ j, j < c → ∀ r, r < R → 0 ≤ X j r ∧ X j r ≤ 30) (hb : (badL d s R c (fun j => (O j : Int)) X D).length ≤ b) :
    mostE (d : Int) (m : Int) (s : Int) c (fun j => (O j : Int)) (fun _ => R) X = 0 ∧ (∀ i, i < s → mostD (d : Int) (s : Int) c (fun j => (O j : Int)) X i = D i) ∧
      mostB (d : Int) (m : Int) (s : Int) c (fun j => (O j : Int)) (fun _ => R) X = srt (badL d s R c (fun j => (O j : Int)) X D) := by
  obtain ⟨b1, b2, b3⟩ := planOk_spec hp
  have hS : Shares d m s R c (fun j => (O j : Int)) (fun _ => R) X := ⟨hp, hR, ⟨by omega, by omega⟩, fun j hj => by have := ho j hj; show 0 ≤ (O j : Int) ∧ (O j : Int) < (m : Int); omega, fun j _ => rfl, hX, fun i j h1 h2 e => hi i j h1 h2 (by have e2 : (O i : Int) = (O j : Int) := e; omega)⟩
  have hsz := size_le hS
  obtain ⟨G, hG⟩ : ∃ G, (List.range c).filter (fun j => alB d s R (fun j => (O j : Int)) X D j) = G := ⟨_, rfl⟩
  have hGl : G.length + (badL d s R c (fun j => (O j : Int)) X D).length = c := by
    have h := aCnt_bad d s R c (fun j => (O j : Int)) X D
    unfold aCnt at h
    rw [← hG]
    exact h
  have hGr : Rise c G := ⟨by rw [← hG]; exact List.Pairwise.filter _ List.pairwise_lt_range, fun x hx => by rw [← hG] at hx; exact List.mem_range.1 (List.mem_filter.1 hx).1⟩
  have hGa : ∀ j, j < d → ∀ r, r < R → X (G.getD j 0) r = shv d s D (O (G.getD j 0)) r := fun j hj r hr => by
    have h1 := getD_memV (c := G) (j := j) (by omega)
    generalize G.getD j 0 = x at h1
    rw [← hG] at h1
    have h2 := of_decide_eq_true (List.mem_filter.1 h1).2 r hr
    rw [Int.toNat_natCast] at h2
    exact h2
  have hGo : ∀ j, j < d → O (G.getD j 0) < 8 := fun j hj => by have := ho _ (hGr.lt (show j < G.length by omega)); omega
  have hGi : ∀ x y, x < d → y < d → O (G.getD x 0) = O (G.getD y 0) → x = y := fun x y hx hy e => hGr.inj (by omega) (by omega) (hi _ _ (hGr.lt (by omega)) (hGr.lt (by omega)) e)
  obtain ⟨cc, hcr, hcl, hcd⟩ := choice_of hS (O := fun j => G.getD j 0) (fun j hj => hGr.lt (by omega)) (fun i j h1 h2 e => hGr.inj (by omega) (by omega) e)
  have hcD : ∀ i, i < R * d → conD d (fun j => (O j : Int)) X cc i = padD s D i := fun i hi' => by
    rw [hcd i hi']
    rw [← joinD_pick (d := d) (n := s) (O := fun j => O (G.getD j 0)) ⟨by omega, by omega⟩ hD hGo hGi i]
    have hd : 0 < d := by omega
    have hr : i / d < R := (Nat.div_lt_iff_lt_mul hd).2 hi'
    unfold joinD
    have g := good_pick (n := s) (D := D) (O := fun j => O (G.getD j 0)) ⟨(by omega : 1 ≤ d), (by omega : d ≤ 8)⟩ hGo hGi (i / d)
    exact crv_congr g.3 g (fun j _ => rfl) (fun j hj => hGa j hj _ hr)
  have hmk : mkB d s R (fun j => (O j : Int)) X cc = true := decide_eq_true fun i hi' => by
    by_cases h : i < s
    · exact Or.inl h
    · refine Or.inr ?_
      have := hcD i hi'
      unfold padD at this
      rw [if_neg h] at this
      exact this
  have hcmem : cc ∈ comb d (List.range c) := good_comb hcr hcl
  obtain ⟨e, hel⟩ := elect_is hcmem hmk
  obtain ⟨he1, he2, he3⟩ := elect_some hel
  have hmin := he3 cc hcmem hmk
  have hbc : badL d s R c (fun j => (O j : Int)) X (conD d (fun j => (O j : Int)) X cc) = badL d s R c (fun j => (O j : Int)) X D := badL_congr fun i hi' => by
    rw [hcD i (by omega)]
    unfold padD
    rw [if_pos hi']
  rw [hbc] at hmin
  obtain ⟨E, hE⟩ : ∃ E, conD d (fun j => (O j : Int)) X e = E := ⟨_, rfl⟩
  rw [hE] at hmin
  have hEn : ∀ j, j < s → 0 ≤ E j ∧ E j ≤ 30 := fun j _ => by rw [← hE]; unfold conD joinD; exact crv_num _ _ _ _
  have hsame : ∀ i, i < s → E i = D i := by
    by_cases hP : d ≤ ((List.range c).filter fun j => alB d s R (fun j => (O j : Int)) X E j && alB d s R (fun j => (O j : Int)) X D j).length
    · obtain ⟨P, hPe⟩ : ∃ P, ((List.range c).filter fun j => alB d s R (fun j => (O j : Int)) X E j && alB d s R (fun j => (O j : Int)) X D j) = P := ⟨_, rfl⟩
      rw [hPe] at hP
      have hPr : Rise c P := ⟨by rw [← hPe]; exact List.Pairwise.filter _ List.pairwise_lt_range, fun x hx => by rw [← hPe] at hx; exact List.mem_range.1 (List.mem_filter.1 hx).1⟩
      have hPm : ∀ j, j < d → alB d s R (fun j => (O j : Int)) X E (P.getD j 0) = true ∧ alB d s R (fun j => (O j : Int)) X D (P.getD j 0) = true := fun j hj => by
        have h1 := getD_memV (c := P) (j := j) (by omega)
        generalize P.getD j 0 = x at h1
        rw [← hPe] at h1
        have h2 := (List.mem_filter.1 h1).2
        exact Bool.and_eq_true_iff.1 h2
      refine same_content (O := fun j => O (P.getD j 0)) ⟨by omega, by omega⟩ hsz hEn hD (fun j hj => by have := ho _ (hPr.lt (show j < P.length by omega)); omega) (fun i j h1 h2 e' => hPr.inj (by omega) (by omega) (hi _ _ (hPr.lt (by omega)) (hPr.lt (by omega)) e')) (fun j hj r hr => ?_)
      obtain ⟨g1, g2⟩ := hPm j hj
      have k1 := of_decide_eq_true g1 r hr
      have k2 := of_decide_eq_true g2 r hr
      rw [k1] at k2
      exact k2
    · exfalso
      have h1 := filter_two (List.range c) (fun j => alB d s R (fun j => (O j : Int)) X E j) (fun j => alB d s R (fun j => (O j : Int)) X D j)
      have h2 := aCnt_bad d s R c (fun j => (O j : Int)) X E
      have h4 : ((List.range c).filter fun j => !alB d s R (fun j => (O j : Int)) X D j).length = (badL d s R c (fun j => (O j : Int)) X D).length := by
        unfold badL; rw [List.length_map]
      unfold aCnt at h2
      omega
  have hC : mostC (d : Int) (s : Int) c (fun j => (O j : Int)) X = some e := by unfold mostC; rw [Int.toNat_natCast, Int.toNat_natCast, hR]; exact hel
  have hM : mostE (d : Int) (m : Int) (s : Int) c (fun j => (O j : Int)) (fun _ => R) X = 0 := by unfold mostE; rw [if_pos hS.checks, hC]; rfl
  have hMD : mostD (d : Int) (s : Int) c (fun j => (O j : Int)) X = E := by unfold mostD; rw [hC, Int.toNat_natCast, ← hE]; rfl
  refine ⟨hM, fun i hi' => by rw [hMD]; exact hsame i hi', ?_⟩
  unfold mostB
  rw [if_pos hM, hMD, Int.toNat_natCast, Int.toNat_natCast, hR, badL_congr (D := D) hsame]

def blB (P : Ps) (ver : Int) (R : Nat) (S : Nat → Nat → Int) (i : Nat) : Bool := hasK P ver i && !goodK P ver R S i
def blL (b : Bk) (np : Nat) (P : Ps) (k : Int) : List Int := pickL (blB P k (rowsN (b.nd k.toNat) (b.sz k.toNat)) (rsS b np P k)) np
def laN (b : Bk) (np : Nat) (P : Ps) (k : Int) : Int := b.of k.toNat - ((thereL P k np).length : Int)

theorem mend_blame {n : Nat} {b : Bk} {np : Nat} {P : Ps} {k : Int} (h : mendE n b np P k = 0) : rsE n b np (mendP b np P k) k = 0 ∧ verM n b np (mendP b np P k) k = 0 ∧ blL b np (mendP b np P k) k = [] ∧ laN b np (mendP b np P k) k = 0 := by
  obtain ⟨h1, hF⟩ := mend_ok h
  obtain ⟨hv, d, m, s, e1, e2, e3, hp⟩ := rsE_ok h1
  obtain ⟨g1, g2, _⟩ := mend_rest h
  have eS : rsS b np (mendP b np P k) k = rsS b np P k := by
    funext q r
    unfold rsS
    exact shv_congr fun i hi => g2 i (by rw [e3]; rw [e3] at hi; omega)
  refine ⟨g1, (rsE_ok g1).1, ?_, ?_⟩
  · unfold blL
    rw [eS, List.eq_nil_iff_forall_not_mem]
    intro x hx
    obtain ⟨i, hi, hb, _⟩ := mem_pickL.1 hx
    unfold blB at hb
    rw [Bool.and_eq_true, Bool.not_eq_true'] at hb
    have h2 := hF.goodK hi hb.1
    rw [show fillP P k (rowsN (b.nd k.toNat) (b.sz k.toNat)) (rsS b np P k) np (b.of k.toNat).toNat = mendP b np P k from rfl, hb.2] at h2
    cases h2
  · unfold laN
    have h3 := hF.there
    have h4 := hF.count
    rw [show fillP P k (rowsN (b.nd k.toNat) (b.sz k.toNat)) (rsS b np P k) np (b.of k.toNat).toNat = mendP b np P k from rfl] at h3 h4
    rw [h3, h4, e2]
    omega


def benT (t : Kt) (i : Nat) (c : Int) : Kt := ⟨t.V, t.N, t.L, fun j => if j = i then fun r => if r = 0 then (t.X j 0 + c) % 31 else t.X j r else t.X j⟩
def bentP (P : Ps) (ver : Int) (W : List Nat) (c : Int) : Ps := ⟨P.th, P.rm, P.m, fun k => if k ∈ W then benT (P.t k) (atK P ver k) c else P.t k⟩

section

variable {P : Ps} {ver : Int} {W : List Nat} {c : Int}

theorem bent_VN (k : Nat) : ((bentP P ver W c).t k).V = (P.t k).V ∧ ((bentP P ver W c).t k).N = (P.t k).N ∧ ((bentP P ver W c).t k).L = (P.t k).L := by
  simp only [bentP]
  by_cases h : k ∈ W
  · rw [if_pos h]; exact ⟨rfl, rfl, rfl⟩
  · rw [if_neg h]; exact ⟨rfl, rfl, rfl⟩

theorem bent_at (k : Nat) : hasK (bentP P ver W c) ver k = hasK P ver k ∧ atK (bentP P ver W c) ver k = atK P ver k ∧ numK (bentP P ver W c) ver k = numK P ver k := by
  obtain ⟨e1, e2, _⟩ := bent_VN (P := P) (ver := ver) (W := W) (c := c) k
  have ea : atK (bentP P ver W c) ver k = atK P ver k := by unfold atK; rw [e1]; rfl
  refine ⟨by unfold hasK; rw [e1]; rfl, ea, ?_⟩
  unfold numK
  rw [ea, e2]

theorem bent_rows (k : Nat) (l : List (Nat × Nat)) : ∀ f, thRow (bentP P ver W c) ver k l f = thRow P ver k l f := by
  obtain ⟨e1, e2, _⟩ := bent_VN (P := P) (ver := ver) (W := W) (c := c) k
  have es : ∀ (l : List (Nat × Nat)) N, seenN (bentP P ver W c) l N = seenN P l N := fun l N => by
    unfold seenN
    refine any_eq fun x _ => ?_
    rw [(bent_VN (P := P) (ver := ver) (W := W) (c := c) x.1).2.1]
  intro f
  induction f with
  | zero => rfl
  | succ f ih =>
    rw [thRow_succ, thRow_succ, ih]
    unfold thStep isTh
    rw [e1, e2, es]
    rfl

theorem bent_there (np : Nat) : thereL (bentP P ver W c) ver np = thereL P ver np := by
  have h : ∀ f, thAll (bentP P ver W c) ver f = thAll P ver f := by
    intro f
    induction f with
    | zero => rfl
    | succ f ih => rw [thAll_succ, thAll_succ, ih, bent_rows]; rfl
  exact h np

theorem bent_X (k : Nat) {i r : Nat} : ((bentP P ver W c).t k).X i r = if k ∈ W ∧ i = atK P ver k ∧ r = 0 then ((P.t k).X i 0 + c) % 31 else (P.t k).X i r := by
  simp only [bentP]
  by_cases h : k ∈ W
  · rw [if_pos h]
    simp only [benT]
    by_cases hi : i = atK P ver k
    · rw [if_pos hi]
      by_cases hr : r = 0
      · rw [if_pos hr, if_pos ⟨h, hi, hr⟩]
      · rw [if_neg hr, if_neg (fun q => hr q.2.2)]
    · rw [if_neg hi, if_neg (fun q => hi q.2.1)]
  · rw [if_neg h, if_neg (fun q => h q.1)]

end

theorem turn_ne {x c : Int} (hx : 0 ≤ x ∧ x ≤ 30) (hc : 1 ≤ c ∧ c ≤ 30) : (x + c) % 31 ≠ x := by omega

theorem MeshR.bent {n : Nat} {b : Bk} {np : Nat} {P : Ps} (h : MeshR n b np P) (ver : Int) (W : List Nat) (c : Int) : MeshR n b np (bentP P ver W c) := by
  refine ⟨h.book, h.few, fun k hk => ?_⟩
  have hp := h.peer k hk
  obtain ⟨e1, e2, e3⟩ := bent_VN (P := P) (ver := ver) (W := W) (c := c) k
  refine ⟨h.book, hp.room_, hp.few, fun j hj => ?_, fun i j hij hj => by rw [e1]; exact hp.rise i j hij hj⟩
  obtain ⟨h1, h2⟩ := hp.right j hj
  refine ⟨by rw [e1]; exact h1, ?_⟩
  unfold oneK at h2 ⊢
  rw [e1, e2, e3]
  obtain ⟨g1, g2, g3, g4⟩ := oneE_ok h2
  refine oneE_mk g1 g2 g3 fun r hr => ?_
  have h5 := of_decide_eq_true g4 r hr
  unfold isNum at h5
  rw [decide_eq_true_iff] at h5
  rw [bent_X]
  by_cases hc : k ∈ W ∧ j = atK P ver k ∧ r = 0
  · rw [if_pos hc]; omega
  · rw [if_neg hc]; exact h5

section

variable {n : Nat} {b : Bk} {np : Nat} {P : Ps} {need of : Int} {len : Nat} {D : Nat → Int} {lp : Nat} {X : Nat → Int} {W : List Nat} {c : Int}

structure BentOk (n : Nat) (b : Bk) (np : Nat) (P : Ps) (need of : Int) (len : Nat) (D : Nat → Int) (lp : Nat) (X : Nat → Int) (W : List Nat) (c : Int) : Prop where
  save : SaveOk n b np P need of len D lp X
  got : ∀ w, w ∈ W → w < np ∧ 0 ≤ gvn n np P of w
  once : W.Nodup
  few : 2 * W.length ≤ of.toNat - need.toNat
  by_ : 1 ≤ c ∧ c ≤ 30

theorem save_has (h : SaveOk n b np P need of len D lp X) {k : Nat} (hk : k < np) : hasK (saveP n np P need of len D) (n : Int) k = decide (0 ≤ gvn n np P of k) ∧ (0 ≤ gvn n np P of k → atK (saveP n np P need of len D) (n : Int) k = P.m k ∧ P.th k = true) := by
  by_cases c : 0 ≤ gvn n np P of k
  · obtain ⟨e1, e2, _⟩ := save_new h hk c
    have hf : fstAt ((saveP n np P need of len D).t k).V (n : Int) ((saveP n np P need of len D).m k) 0 = ((P.m k : Nat) : Int) := by
      rw [e1]
      have e := fstAt_succ ((saveP n np P need of len D).t k).V (n : Int) (P.m k) 0
      have hno : ¬ 0 ≤ fstAt ((saveP n np P need of len D).t k).V (n : Int) (P.m k) 0 := fun hh => by
        obtain ⟨i, _, hi, e⟩ := (fstAt_neg _ _ _ 0).1 hh
        rw [save_old h hk (by omega)] at e
        have := ((h.mesh.peer k hk).right i (by omega)).1.2
        omega
      rw [Nat.zero_add, if_neg hno, if_pos e2] at e
      exact e
    have hth : P.th k = true := by
      obtain ⟨i, _, hi, e⟩ := gvn_at c
      obtain ⟨q, h1, h2, h3, _⟩ := forA_at h.many hi
      have : q = k := by omega
      subst this
      exact h3.1
    refine ⟨?_, fun _ => ⟨by unfold atK; rw [hf, Int.toNat_natCast], hth⟩⟩
    unfold hasK
    rw [hf, decide_eq_true c, decide_eq_true (by omega), Bool.and_true]
    exact hth
  · refine ⟨?_, fun h => absurd h c⟩
    have hno : ¬ 0 ≤ fstAt ((saveP n np P need of len D).t k).V (n : Int) ((saveP n np P need of len D).m k) 0 := fun hh => by
      rw [save_not (need := need) (len := len) (D := D) c] at hh
      obtain ⟨i, _, hi, e⟩ := (fstAt_neg _ _ _ 0).1 hh
      rw [save_old h hk (by omega)] at e
      have := ((h.mesh.peer k hk).right i (by omega)).1.2
      omega
    unfold hasK
    rw [decide_eq_false hno, decide_eq_false c, Bool.and_false]

theorem SaveOk.all_given (h : SaveOk n b np P need of len D lp X) {q : Nat} (hq : q < of.toNat) : ∃ k, k < np ∧ gvn n np P of k = (q : Int) := by
  obtain ⟨k, h1, h2, h3, _⟩ := forA_at h.many hq
  have h0 : 0 ≤ gvn n np P of k := (fstAt_neg _ _ _ 0).2 ⟨q, Nat.zero_le _, by omega, h1⟩
  refine ⟨k, h2, ?_⟩
  obtain ⟨i, g1, g2, g3⟩ := gvn_at h0
  have : i = q := by
    rcases Nat.lt_trichotomy i q with hl | hl | hl
    · exact absurd (g3.trans h1.symm) (forA_ne h.many hl hq)
    · exact hl
    · exact absurd (h1.trans g3.symm) (forA_ne h.many hl g2)
  rw [g1, this]

theorem SaveOk.count (h : SaveOk n b np P need of len D lp X) : (hereL n np P of P.th np).length = of.toNat := by
  have h1 := (h.shares (t := P.th)).le
  have h2 := cover_len of.toNat ((hereL n np P of P.th np).map fun x => gvn n np P of x.1) (fun q hq => by
    obtain ⟨k, g1, g2⟩ := h.all_given hq
    refine List.mem_map.2 ⟨(k, P.m k), mem_hereL.2 ⟨k, g1, ?_, rfl⟩, g2⟩
    unfold hereB
    rw [decide_eq_true (by omega), Bool.and_true]
    exact ((save_has h g1).2 (by omega)).2)
  rw [List.length_map] at h2
  omega

theorem goP_self : goP (saveP n np P need of len D) P.th = saveP n np P need of len D := rfl

theorem BentOk.found (h : BentOk n b np P need of len D lp X W c) :
    rsE (n + 1) (saveB n b need of len lp X) np (bentP (saveP n np P need of len D) (n : Int) W c) (n : Int) = 0 ∧
    (∀ i, i < len → rsD (saveB n b need of len lp X) np (bentP (saveP n np P need of len D) (n : Int) W c) (n : Int) i = D i) := by
  obtain ⟨hpl, _, hD⟩ := splitE_ok h.save.split
  obtain ⟨b1, b2, b3⟩ := planOk_spec hpl
  obtain ⟨Z, hZ⟩ : ∃ Z, bentP (saveP n np P need of len D) (n : Int) W c = Z := ⟨_, rfl⟩
  have hR : MeshR (n + 1) (saveB n b need of len lp X) np Z := by rw [← hZ]; exact h.save.right.bent _ _ _
  have hth : thereL Z (n : Int) np = hereL n np P of P.th np := by
    rw [← hZ, bent_there]
    have := there_new h.save (t := P.th) np (Nat.le_refl _)
    rw [goP_self] at this
    exact this
  have hcnt := h.save.count
  have hS := h.save.shares (t := P.th)
  rw [goP_self] at hS
  obtain ⟨l, hl⟩ : ∃ l, hereL n np P of P.th np = l := ⟨_, rfl⟩
  rw [hl] at hth hcnt hS
  have hmem : ∀ j, j < l.length → ∃ k, l.getD j (0, 0) = (k, P.m k) ∧ k < np ∧ 0 ≤ gvn n np P of k := fun j hj => by
    have hg := getD_in (l := l) (d := (0, 0)) hj
    rw [← hl] at hg
    obtain ⟨k, h1, h2, h3⟩ := mem_hereL.1 hg
    unfold hereB at h2
    rw [Bool.and_eq_true, decide_eq_true_iff] at h2
    rw [← hl]
    exact ⟨k, h3, h1, h2.2⟩
  have e1 : (need.toNat : Int) = need := by omega
  have eN : nT Z l = nT (saveP n np P need of len D) l := by
    funext j
    unfold nT nL
    rw [← hZ, (bent_VN _).2.1]
  have eL : lT Z l = lT (saveP n np P need of len D) l := by
    funext j
    unfold lT lL
    rw [← hZ, (bent_VN _).2.2]
  have hN : nT Z l = fun j => (((nT (saveP n np P need of len D) l j).toNat : Nat) : Int) := by rw [eN]; exact funext hS.num
  have hL : ∀ j, j < l.length → lT Z l j = rowsN need (len : Int) := fun j hj => by rw [eL]; exact hS.len j hj
  have hXs : ∀ j, j < l.length → ((l.getD j (0, 0)).1 ∉ W) → ∀ r, xT Z l j r = xT (saveP n np P need of len D) l j r := fun j hj hw r => by
    unfold xT
    rw [if_pos hj, if_pos hj]
    unfold xL
    rw [← hZ, bent_X, if_neg (fun q => hw q.1)]
  have hbad : (badL need.toNat len (rowsN need (len : Int)) l.length (fun j => (((nT (saveP n np P need of len D) l j).toNat : Nat) : Int)) (xT Z l) D).length ≤ W.length := by
    unfold badL
    rw [List.length_map, ← List.length_map (f := fun j => (l.getD j (0, 0)).1)]
    refine nodup_sub _ _ ?_ fun x hx => ?_
    · rw [List.Nodup, List.pairwise_map]
      refine (List.Pairwise.filter _ List.nodup_range).imp_of_mem fun {i j} hi hj hij e => hij ?_
      have hi' := List.mem_range.1 (List.mem_filter.1 hi).1
      have hj' := List.mem_range.1 (List.mem_filter.1 hj).1
      obtain ⟨k1, a1, _⟩ := hmem i hi'
      obtain ⟨k2, a2, _⟩ := hmem j hj'
      have e' : (l.getD i (0, 0)).1 = (l.getD j (0, 0)).1 := e
      refine hS.inj i j hi' hj' ?_
      simp only [nT, if_pos hi', if_pos hj']
      unfold nL
      rw [a1, a2] at e'
      have e'' : k1 = k2 := e'
      rw [a1, a2, e'']
    · obtain ⟨j, hj, rfl⟩ := List.mem_map.1 hx
      obtain ⟨h1, h2⟩ := List.mem_filter.1 hj
      have hj' := List.mem_range.1 h1
      by_cases hw : (l.getD j (0, 0)).1 ∈ W
      · exact hw
      · exfalso
        rw [Bool.not_eq_true'] at h2
        have : alB need.toNat len (rowsN need (len : Int)) (fun j => (((nT (saveP n np P need of len D) l j).toNat : Nat) : Int)) (xT Z l) D j = true := decide_eq_true fun r hr => by
          rw [hXs j hj' hw r, hS.val j hj' r hr, Int.toNat_natCast]
        rw [this] at h2
        cases h2
  have hf := h.few
  obtain ⟨m1, m2, _⟩ := finds_any (d := need.toNat) (m := of.toNat) (s := len) (R := rowsN need (len : Int)) (c := l.length) (b := W.length) (O := fun j => (nT (saveP n np P need of len D) l j).toNat) (D := D) (X := xT Z l) hS.plan hS.rows hD (by omega) (by omega) hS.lt hS.inj
    (fun j hj r hr => by
      obtain ⟨k, a1, a2, a3⟩ := hmem j hj
      have hh := (hR.peer k a2).right (P.m k) (by rw [← hZ]; show P.m k < (saveP n np P need of len D).m k; rw [(save_new h.save a2 a3).1]; omega)
      obtain ⟨_, _, _, g4⟩ := oneE_ok hh.2
      have hlen : (Z.t k).L (P.m k) = rowsN need (len : Int) := by rw [← hL j hj, ← (tT_eq Z l hj).2.1]; unfold lL; rw [a1]
      have h5 := of_decide_eq_true g4 r (by rw [hlen]; exact hr)
      unfold isNum at h5
      rw [decide_eq_true_iff] at h5
      rw [← (tT_eq Z l hj).2.2]
      unfold xL
      rw [a1]
      exact h5) hbad
  have hv : verM (n + 1) (saveB n b need of len lp X) np Z (n : Int) = 0 := by unfold verM; rw [if_pos hR.e, if_pos ⟨by omega, by omega⟩]
  have c1 : (saveB n b need of len lp X).nd (n : Int).toNat = (need.toNat : Int) := by rw [e1]; simp [saveB, snocB]
  have c2 : (saveB n b need of len lp X).of (n : Int).toNat = (of.toNat : Int) := by rw [h.save.of_]; simp [saveB, snocB]
  have c3 : (saveB n b need of len lp X).sz (n : Int).toNat = (len : Int) := by simp [saveB, snocB]
  rw [hZ]
  refine ⟨?_, fun i hi => ?_⟩
  · unfold rsE; rw [if_pos hv, hth, c1, c2, c3, hN, mostE_L (L' := fun _ => rowsN need (len : Int)) hL]; exact m1
  · unfold rsD; rw [hth, c1, c3, hN]; exact m2 i hi

theorem BentOk.shares_ (h : BentOk n b np P need of len D lp X W c) : rsS (saveB n b need of len lp X) np (bentP (saveP n np P need of len D) (n : Int) W c) (n : Int) = fun q r => shv need.toNat len D q r := by
  funext q r
  unfold rsS
  rw [show (saveB n b need of len lp X).nd (n : Int).toNat = need by simp [saveB, snocB], show (saveB n b need of len lp X).sz (n : Int).toNat = (len : Int) by simp [saveB, snocB], Int.toNat_natCast]
  exact shv_congr fun i hi => h.found.2 i hi

theorem BentOk.good_ (h : BentOk n b np P need of len D lp X W c) {k : Nat} (hk : k < np) (hg : 0 ≤ gvn n np P of k) : goodK (bentP (saveP n np P need of len D) (n : Int) W c) (n : Int) (rowsN need (len : Int)) (fun q r => shv need.toNat len D q r) k = !decide (k ∈ W) := by
  obtain ⟨hpl, _, hD⟩ := splitE_ok h.save.split
  obtain ⟨b1, b2, b3⟩ := planOk_spec hpl
  have hR := rowsN_bd b1 b3
  obtain ⟨_, e2⟩ := save_has h.save hk
  obtain ⟨e3, _⟩ := e2 hg
  obtain ⟨_, _, s3, s4, s5⟩ := save_new h.save hk hg
  obtain ⟨a1, a2, a3⟩ := bent_at (P := saveP n np P need of len D) (ver := (n : Int)) (W := W) (c := c) k
  have hn : numK (saveP n np P need of len D) (n : Int) k = gvn n np P of k := by unfold numK; rw [e3]; exact s3
  unfold goodK sameB eqB
  rw [decide_eq_true rfl, Bool.true_and, a2, a3, e3, hn, (bent_VN k).2.2, s4]
  by_cases hw : k ∈ W
  · rw [decide_eq_true hw, Bool.not_true, decide_eq_false_iff_not]
    rintro ⟨_, h2⟩
    have h3 := h2 0 (by omega)
    rw [bent_X, if_pos ⟨hw, e3.symm, rfl⟩, s5] at h3
    exact turn_ne (shv_num _ _ _ _ _) h.by_ h3
  · rw [decide_eq_false hw, Bool.not_false, decide_eq_true_iff]
    refine ⟨rfl, fun r hr => ?_⟩
    rw [bent_X, if_neg (fun q => hw q.1), s5]

theorem BentOk.blame (h : BentOk n b np P need of len D lp X W c) : blL (saveB n b need of len lp X) np (bentP (saveP n np P need of len D) (n : Int) W c) (n : Int) = srt (W.map fun w : Nat => (w : Int)) ∧ laN (saveB n b need of len lp X) np (bentP (saveP n np P need of len D) (n : Int) W c) (n : Int) = 0 := by
  have c1 : (saveB n b need of len lp X).nd (n : Int).toNat = need := by simp [saveB, snocB]
  have c2 : (saveB n b need of len lp X).of (n : Int).toNat = of := by simp [saveB, snocB]
  have c3 : (saveB n b need of len lp X).sz (n : Int).toNat = (len : Int) := by simp [saveB, snocB]
  constructor
  · unfold blL
    rw [c1, c3, h.shares_]
    have hp : ∀ k, k < np → blB (bentP (saveP n np P need of len D) (n : Int) W c) (n : Int) (rowsN need (len : Int)) (fun q r => shv need.toNat len D q r) k = decide (k ∈ W) := fun k hk => by
      unfold blB
      rw [(bent_at k).1, (save_has h.save hk).1]
      by_cases hg : 0 ≤ gvn n np P of k
      · rw [h.good_ hk hg, decide_eq_true hg, Bool.true_and, Bool.not_not]
      · have : k ∉ W := fun hw => hg (h.got k hw).2
        rw [decide_eq_false hg, decide_eq_false this, Bool.false_and]
    rw [pickL_congr hp]
    have n1 : (pickL (fun k => decide (k ∈ W)) np).Nodup := (pickL_rise _ np).imp fun {a b} h => by omega
    have n2 : (W.map fun w : Nat => (w : Int)).Nodup := by
      rw [List.Nodup, List.pairwise_map]
      exact h.once.imp fun {a b} h e => h (by omega)
    have hpm : (pickL (fun k => decide (k ∈ W)) np).Perm (srt (W.map fun w : Nat => (w : Int))) := by
      refine List.Perm.trans ?_ (List.mergeSort_perm _ _).symm
      refine (List.perm_ext_iff_of_nodup n1 n2).2 fun x => ?_
      rw [mem_pickL, List.mem_map]
      constructor
      · rintro ⟨k, _, h2, rfl⟩; exact ⟨k, of_decide_eq_true h2, rfl⟩
      · rintro ⟨k, h2, rfl⟩; exact ⟨k, (h.got k h2).1, decide_eq_true h2, rfl⟩
    refine hpm.eq_of_pairwise (le := fun a b => a ≤ b) (fun a b _ _ h1 h2 => by omega) ((pickL_rise _ np).imp fun {a b} h => by omega) ?_
    have hs := List.pairwise_mergeSort (le := fun x y : Int => decide (x ≤ y)) (fun a b c h1 h2 => by simp at *; omega) (fun a b => by simp; omega) (W.map fun w : Nat => (w : Int))
    unfold srt
    exact hs.imp fun {a b} h => by simpa using h
  · unfold laN
    rw [c2, bent_there]
    have := there_new h.save (t := P.th) np (Nat.le_refl _)
    rw [goP_self] at this
    rw [show thereL (saveP n np P need of len D) (n : Int) np = hereL n np P of P.th np from this, h.save.count, h.save.of_]
    omega

theorem BentOk.stay_ (h : BentOk n b np P need of len D lp X W c) {k : Nat} (hk : k < np) : stayK (bentP (saveP n np P need of len D) (n : Int) W c) (n : Int) (rowsN need (len : Int)) (fun q r => shv need.toNat len D q r) k = (decide (0 ≤ gvn n np P of k) && !decide (k ∈ W)) := by
  by_cases hg : 0 ≤ gvn n np P of k
  · unfold stayK
    rw [(bent_at k).1, (save_has h.save hk).1, h.good_ hk hg, decide_eq_true hg, Bool.true_and, Bool.true_and]
    have hnot : (repS (bentP (saveP n np P need of len D) (n : Int) W c) (n : Int) (rowsN need (len : Int)) (fun q r => shv need.toNat len D q r) k).contains (numK (bentP (saveP n np P need of len D) (n : Int) W c) (n : Int) k) = false := by
      rw [Bool.eq_false_iff]
      intro hc
      obtain ⟨i, hi, hs, e⟩ := mem_repS.1 (List.contains_iff_mem.1 hc)
      obtain ⟨h1, _⟩ := stay_parts hs
      rw [(bent_at i).1, (save_has h.save (by omega)).1, decide_eq_true_iff] at h1
      rw [(bent_at i).2.2, (bent_at k).2.2] at e
      have n1 : numK (saveP n np P need of len D) (n : Int) i = gvn n np P of i := by unfold numK; rw [((save_has h.save (by omega)).2 h1).1]; exact (save_new h.save (by omega) h1).2.2.1
      have n2 : numK (saveP n np P need of len D) (n : Int) k = gvn n np P of k := by unfold numK; rw [((save_has h.save hk).2 hg).1]; exact (save_new h.save hk hg).2.2.1
      rw [n1, n2] at e
      have := gvn_inj h1 e
      omega
    rw [hnot]
    simp
  · unfold stayK
    rw [(bent_at k).1, (save_has h.save hk).1, decide_eq_false hg, Bool.false_and, Bool.false_and]

theorem BentOk.mends (h : BentOk n b np P need of len D lp X W c) : mendE (n + 1) (saveB n b need of len lp X) np (bentP (saveP n np P need of len D) (n : Int) W c) (n : Int) = 0 := by
  obtain ⟨hpl, _, hD⟩ := splitE_ok h.save.split
  obtain ⟨b1, b2, b3⟩ := planOk_spec hpl
  have c1 : (saveB n b need of len lp X).nd (n : Int).toNat = need := by simp [saveB, snocB]
  have c2 : (saveB n b need of len lp X).of (n : Int).toNat = of := by simp [saveB, snocB]
  have c3 : (saveB n b need of len lp X).sz (n : Int).toNat = (len : Int) := by simp [saveB, snocB]
  unfold mendE
  rw [if_pos h.found.1, c1, c2, c3, h.shares_]
  obtain ⟨Z, hZ⟩ : ∃ Z, bentP (saveP n np P need of len D) (n : Int) W c = Z := ⟨_, rfl⟩
  have hst := fun k (hk : k < np) => h.stay_ hk
  have hhas := fun k => (bent_at (P := saveP n np P need of len D) (ver := (n : Int)) (W := W) (c := c) k)
  have hR : MeshR (n + 1) (saveB n b need of len lp X) np Z := by rw [← hZ]; exact h.save.right.bent _ _ _
  have hthZ : Z.th = P.th := by rw [← hZ]; rfl
  rw [hZ] at hst hhas ⊢
  unfold fillE
  obtain ⟨lk, hlk⟩ : ∃ l, lackL Z (n : Int) (rowsN need (len : Int)) (fun q r => shv need.toNat len D q r) np of.toNat = l := ⟨_, rfl⟩
  have hlackW : lk.length ≤ W.length := by
    rw [show W.length = (W.map fun w => (gvn n np P of w).toNat).length from (List.length_map _).symm]
    refine nodup_sub _ _ ?_ fun q hq => ?_
    · rw [← hlk]; exact List.Pairwise.filter _ List.nodup_range
    · rw [← hlk] at hq
      obtain ⟨h1, h2⟩ := mem_lackL.1 hq
      obtain ⟨k, g1, g2⟩ := h.save.all_given h1
      refine List.mem_map.2 ⟨k, ?_, by rw [g2, Int.toNat_natCast]⟩
      by_cases hw : k ∈ W
      · exact hw
      · exfalso
        refine h2 (mem_repS.2 ⟨k, g1, ?_, ?_⟩)
        · rw [hst k g1, decide_eq_true (by omega), decide_eq_false hw]; rfl
        · rw [(hhas k).2.2]
          unfold numK
          rw [((save_has h.save g1).2 (by omega)).1, (save_new h.save g1 (by omega)).2.2.1, g2]
  have hord : W.length ≤ (orderL (repP Z (n : Int) (rowsN need (len : Int)) (fun q r => shv need.toNat len D q r) np) (n : Int) np).length := by
    rw [show W.length = (W.map fun w : Nat => (w : Int)).length from (List.length_map _).symm]
    refine nodup_sub _ _ ?_ fun x hx => ?_
    · rw [List.Nodup, List.pairwise_map]
      exact h.once.imp fun {a b} h e => h (by omega)
    · obtain ⟨w, hw, rfl⟩ := List.mem_map.1 hx
      obtain ⟨g1, g2⟩ := h.got w hw
      have hhw : hasK Z (n : Int) w = true := by rw [(hhas w).1, (save_has h.save g1).1, decide_eq_true g2]
      have hdr : dropK Z (n : Int) (rowsN need (len : Int)) (fun q r => shv need.toNat len D q r) w = true := stay_not (by rw [hst w g1, decide_eq_true hw, decide_eq_true g2]; rfl) hhw
      obtain ⟨r1, r2⟩ := rep_of (P := Z) (ver := (n : Int)) (R := rowsN need (len : Int)) (S := fun q r => shv need.toNat len D q r) g1
      rw [if_pos hdr] at r1 r2
      obtain ⟨q1, q2, q3⟩ := hasK_at hhw
      have hlt : (butL (Z.t w) (n : Int) (Z.m w)).length < Z.m w := by
        have h9 : (butL (Z.t w) (n : Int) (Z.m w)).length + 1 ≤ (List.range (Z.m w)).length := by
          rw [← List.length_cons (a := atK Z (n : Int) w)]
          refine nodup_sub _ _ (List.nodup_cons.2 ⟨fun hm => ?_, List.Pairwise.filter _ List.nodup_range⟩) fun x hx => ?_
          · have := (List.mem_filter.1 hm).2
            rw [q3] at this
            simp at this
          · rcases List.mem_cons.1 hx with rfl | hx
            · exact List.mem_range.2 q2
            · exact List.mem_range.2 (butL_lt hx)
        rw [List.length_range] at h9
        omega
      have hro := (hR.peer w g1).room_
      have hfe := (hR.peer w g1).few
      refine mem_lefts.2 ⟨w, rfl, g1, ⟨?_, ?_⟩, ?_, ?_⟩
      · show Z.th w = true
        exact q1
      · rw [r1, r2]
        rcases Int.lt_or_le (fstAt (selT (Z.t w) (butL (Z.t w) (n : Int) (Z.m w))).V (n : Int) (butL (Z.t w) (n : Int) (Z.m w)).length 0) 0 with h8 | h8
        · exact h8
        · obtain ⟨i, _, hi, e⟩ := (fstAt_neg _ _ _ 0).1 h8
          exact absurd e (but_gone (by omega))
      · unfold leftK
        rw [r1]
        show 1 ≤ Z.rm w - _
        omega
      · unfold leftK
        rw [r1]
        show Z.rm w - _ ≤ _
        omega
  have hl8 : lk.length ≤ 8 := by
    have := h.few
    omega
  unfold manyE
  rw [hlk, if_pos ⟨by omega, by omega⟩, if_neg (by omega)]

end

end Go.Proofs.YtikchpffkhohlaaGreat

namespace Go.Proofs.YtikchpffkhohlaaGreat

open Go.RowKit
set_option linter.unusedVariables false

def NewV (B : Nat) (w : World) (v : Value) : Prop := ∀ ad n c, v = .slice (some ad) n c → B ≤ ad.block ∧ ad.block < w.heap.size ∧ ∀ i, w.frozen? ⟨ad.block, i, none⟩ = false

theorem NewV.none (B : Nat) (w : World) (n c : Nat) : NewV B w (.slice .none n c) := fun ad n' c' e => by cases e

theorem NewV.up {B : Nat} {w w' : World} {v : Value} (h : NewV B w v) (hb : Below w.heap.size w w') : NewV B w' v := fun ad n c e => by
  obtain ⟨h1, h2, h3⟩ := h ad n c e
  exact ⟨h1, Nat.lt_of_lt_of_le h2 hb.size, fun i => by rw [← h3 i]; exact World.frozen?_of_block (hb.block _ h2)⟩

theorem NewV.mono {B B' : Nat} {w : World} {v : Value} (h : NewV B w v) (hb : B' ≤ B) : NewV B' w v := fun ad n c e => ⟨Nat.le_trans hb (h ad n c e).1, (h ad n c e).2⟩

theorem frozen_setN {w : World} {a b : Addr} {u : Value} : (w.setCell a u).frozen? b = w.frozen? b := by
  unfold World.frozen? World.setCell
  simp only [Array.getElem?_modify]
  by_cases h : a.block = b.block
  · rw [if_pos h]
    cases hb : w.heap[b.block]? with
    | none => rfl
    | some x => cases x <;> rfl
  · rw [if_neg h]

theorem NewV.set {B : Nat} {w : World} {v : Value} (h : NewV B w v) (a : Addr) (u : Value) : NewV B (w.setCell a u) v := fun ad n c e => by
  obtain ⟨h1, h2, h3⟩ := h ad n c e
  exact ⟨h1, by simpa [World.setCell] using h2, fun i => by rw [frozen_setN]; exact h3 i⟩

theorem NewV.above {B : Nat} {w : World} {v : Value} (h : NewV B w v) : Above B v := fun ad n c e => (h ad n c e).1

theorem NewV.grown {B : Nat} {w w' : World} {v : Value} {row : Option Nat} (h : NewV B w v) (hg : w.grownBy w' row) (hne : ∀ ad n c, v = .slice (some ad) n c → some ad.block ≠ row) : NewV B w' v := fun ad n c e => by
  obtain ⟨h1, h2, h3⟩ := h ad n c e
  exact ⟨h1, Nat.lt_of_lt_of_le h2 hg.size, fun i => by rw [← h3 i]; exact World.frozen?_of_block (hg.block _ h2 (hne ad n c e))⟩

theorem newV_block {B : Nat} {w : World} {g n c : Nat} {cs : Array Value} {T : TypeId} (h : w.heap[g]? = some (.cells cs T (0, 0))) (hB : B ≤ g) : NewV B w (.slice (some ⟨g, 0, .none⟩) n c) := fun ad n' c' e => by
  injection e with e1
  injection e1 with e1
  subst e1
  exact ⟨hB, (Array.getElem?_eq_some_iff.1 h).1, fun i => frozen_at h⟩

theorem owns_new {w : World} {base : Nat} {e : TypeId} {size : Nat} {v : Value} {n : Nat} {xs : List Value} (h : w.ownsRow base e size v n xs) : NewV base w v := by
  rcases h.2 with ⟨rfl, _⟩ | ⟨g, cap, cur, rfl, hg, hh, _⟩
  · exact NewV.none base w _ _
  · exact newV_block hh hg

end Go.Proofs.YtikchpffkhohlaaGreat

namespace Go.Proofs.YtikchpffkhohlaaGreat

open Go.RowKit
set_option linter.unusedVariables false

def OfB (s m : Nat) (v : Value) : Prop := m = 0 ∨ ∀ ad n c, v = .slice (some ad) n c → ad.block ≠ s

theorem OfB.above {s m : Nat} {v : Value} (h : Above (s + 1) v) : OfB s m v := Or.inr fun ad n c e h9 => by
  have := h ad n c e
  omega

theorem offB_isl {w : World} {B s m : Nat} {v : Value} {X : Nat → Int} (h : IntSl w B v m X) (hs : B ≤ s) : OfB s m v := by
  obtain ⟨ad, cap, rfl, _, h2⟩ := h
  rcases h2 with h2 | ⟨b, off, rfl, h4, _⟩
  · exact Or.inl h2
  · refine Or.inr fun a n c e => ?_
    injection e with e1
    injection e1 with e1
    subst e1
    show b ≠ s
    omega

theorem cell_off {w : World} {s o b o' : Nat} {u : Value} (h : b ≠ s) : (w.setCell ⟨s, o, none⟩ u).cell? ⟨b, o', none⟩ = w.cell? ⟨b, o', none⟩ :=
  World.cell?_setCell_other _ _ _ _ (by intro e; injection e with e1; exact h e1.symm)

section

variable {w w' : World} {B s o : Nat} {v : Value} {u : Value}

theorem IntSl.off {m : Nat} {X : Nat → Int} (h : IntSl w B v m X) (hs : OfB s m v) (u : Value) : IntSl (w.setCell ⟨s, o, none⟩ u) B v m X := by
  obtain ⟨ad, cap, rfl, h0, h2⟩ := h
  refine ⟨ad, cap, rfl, h0, ?_⟩
  rcases h2 with h2 | ⟨b, off, rfl, h4, h5⟩
  · exact Or.inl h2
  · rcases hs with h9 | h9
    · exact Or.inl h9
    · exact Or.inr ⟨b, off, rfl, h4, fun j hj => by rw [cell_off (show b ≠ s from h9 _ _ _ rfl)]; exact h5 j hj⟩

def VeOff (s : Nat) (vb : Value) (n : Nat) (PV : Nat → Value) (b : Bk) : Prop := OfB s n vb ∧ ∀ j, j < n → OfB s (b.PL j) (PV j)
def KeOff (s : Nat) (vk : Value) (m : Nat) (UV : Nat → Value) (t : Kt) : Prop := OfB s m vk ∧ ∀ i, i < m → OfB s (t.L i) (UV i)
def PsOff (s : Nat) (vl : Value) (np : Nat) (KV : Nat → Value) (UV : Nat → Nat → Value) (P : Ps) : Prop := OfB s np vl ∧ ∀ k, k < np → KeOff s (KV k) (P.m k) (UV k) (P.t k)

theorem VeSl.off {n : Nat} {PV : Nat → Value} {b : Bk} (h : VeSl w B v n PV b) (hs : VeOff s v n PV b) (u : Value) : VeSl (w.setCell ⟨s, o, none⟩ u) B v n PV b := by
  obtain ⟨ad, cap, rfl, h0, h2⟩ := h
  refine ⟨ad, cap, rfl, h0, ?_⟩
  rcases h2 with h2 | ⟨bl, off, rfl, h4, h5⟩
  · exact Or.inl h2
  · rcases hs.1 with h9 | h9
    · exact Or.inl h9
    · have hb : bl ≠ s := h9 _ _ _ rfl
      refine Or.inr ⟨bl, off, rfl, h4, fun j hj => ?_⟩
      obtain ⟨x0, x1, x2, x3, x4⟩ := h5 j hj
      exact ⟨by rw [cell_off hb]; exact x0, by rw [cell_off hb]; exact x1, by rw [cell_off hb]; exact x2, by rw [cell_off hb]; exact x3, x4.off (hs.2 j hj) u⟩

theorem KeSl.off {m : Nat} {UV : Nat → Value} {t : Kt} (h : KeSl w B v m UV t) (hs : KeOff s v m UV t) (u : Value) : KeSl (w.setCell ⟨s, o, none⟩ u) B v m UV t := by
  obtain ⟨ad, cap, rfl, h0, h2⟩ := h
  refine ⟨ad, cap, rfl, h0, ?_⟩
  rcases h2 with h2 | ⟨bl, off, rfl, h4, h5⟩
  · exact Or.inl h2
  · rcases hs.1 with h9 | h9
    · exact Or.inl h9
    · have hb : bl ≠ s := h9 _ _ _ rfl
      refine Or.inr ⟨bl, off, rfl, h4, fun j hj => ?_⟩
      obtain ⟨x0, x1, x2, x4⟩ := h5 j hj
      exact ⟨by rw [cell_off hb]; exact x0, by rw [cell_off hb]; exact x1, by rw [cell_off hb]; exact x2, x4.off (hs.2 j hj) u⟩

end

end Go.Proofs.YtikchpffkhohlaaGreat

namespace Go.Proofs.YtikchpffkhohlaaGreat

open Go.RowKit CurveMath
set_option linter.unusedVariables false

def NewP (B : Nat) (w : World) (vl : Value) (np : Nat) (KV : Nat → Value) (UV : Nat → Nat → Value) (P : Ps) : Prop := NewV B w vl ∧ ∀ k, k < np → NewV B w (KV k) ∧ ∀ i, i < P.m k → (P.t k).L i = 0 ∨ NewV B w (UV k i)

def MeshPostN (w : World) (er : Int) (n : Nat) (b : Bk) (np : Nat) (P : Ps) (e : Ending) (w' : World) : Prop :=
  Below w.heap.size w w' ∧ ∃ (vb vl : Value) (n' np' : Nat) (PV KV : Nat → Value) (UV : Nat → Nat → Value), e = .returned (.tuple #[meshV vb vl, .int .i64 er]) ∧ n' = (if er = 0 then n else 0) ∧ np' = (if er = 0 then np else 0) ∧
    VeSl w' w'.heap.size vb n' PV b ∧ PsSl w' w'.heap.size vl np' KV UV P ∧ NewP w.heap.size w' vl np' KV UV P ∧ ∀ s, s < w.heap.size → VeOff s vb n' PV b

theorem MeshPostN.old {w : World} {er : Int} {n : Nat} {b : Bk} {np : Nat} {P : Ps} {e : Ending} {w' : World} (h : MeshPostN w er n b np P e w') : MeshPost w er n b np P e w' := by
  obtain ⟨h1, vb, vl, n', np', PV, KV, UV, h2, h3, h4, h5, h6, _⟩ := h
  exact ⟨h1, vb, vl, n', np', PV, KV, UV, h2, h3, h4, h5, h6⟩

structure MeshCore : Prop where
  check : ∀ (vb : Value) (n : Nat) (PV : Nat → Value) (b : Bk) (vl : Value) (np : Nat) (KV : Nat → Value) (UV : Nat → Nat → Value) (P : Ps) (w : World), VeSl w w.heap.size vb n PV b → PsSl w w.heap.size vl np KV UV P →
    Calls Tryz.prog 19 #[meshV vb vl] w fun e w' => e = .returned (.int .i64 (peersE n b np P)) ∧ Below w.heap.size w w'
  new : ∀ (vr : Value) (len : Nat) (X : Nat → Int) (w : World), IntSl w w.heap.size vr len X → len ≤ 1048576 →
    Calls Tryz.prog 10 #[vr] w (MeshPostN w (newE len X) 0 noB len (freshP X))
  restore : ∀ (vb : Value) (n : Nat) (PV : Nat → Value) (b : Bk) (vl : Value) (np : Nat) (KV : Nat → Value) (UV : Nat → Nat → Value) (P : Ps) (k : Int) (w : World), VeSl w w.heap.size vb n PV b → PsSl w w.heap.size vl np KV UV P →
    Calls Tryz.prog 11 #[meshV vb vl, .int .i64 k] w (RestPost w n b np P k)
  save : ∀ (vb : Value) (n : Nat) (PV : Nat → Value) (b : Bk) (vl : Value) (np : Nat) (KV : Nat → Value) (UV : Nat → Nat → Value) (P : Ps) (vd : Value) (len : Nat) (D : Nat → Int) (vp : Value) (lp : Nat) (X : Nat → Int) (need of : Int) (w : World),
    VeSl w w.heap.size vb n PV b → PsSl w w.heap.size vl np KV UV P → IntSl w w.heap.size vd len D → IntSl w w.heap.size vp lp X →
    Calls Tryz.prog 13 #[meshV vb vl, vd, vp, .int .i64 need, .int .i64 of] w (MeshPostN w (saveE n b np P need of len D lp X) (n + 1) (saveB n b need of len lp X) np (saveP n np P need of len D))
  repair : ∀ (vb : Value) (n : Nat) (PV : Nat → Value) (b : Bk) (vl : Value) (np : Nat) (KV : Nat → Value) (UV : Nat → Nat → Value) (P : Ps) (k : Int) (w : World), VeSl w w.heap.size vb n PV b → PsSl w w.heap.size vl np KV UV P →
    Calls Tryz.prog 12 #[meshV vb vl, .int .i64 k] w (MeshPostN w (mendE n b np P k) n b np (mendP b np P k))

def MsAt (w : World) (g : Nat) (ab : Option Addr) (n cb : Nat) (PV : Nat → Value) (b : Bk) (al : Option Addr) (np cl : Nat) (KV : Nat → Value) (UV : Nat → Nat → Value) (P : Ps) : Prop :=
  w.heap[g]? = some (.cells #[.slice ab n cb, .slice al np cl] 27 (0, 0)) ∧ VeSl w w.heap.size (.slice ab n cb) n PV b ∧ PsSl w w.heap.size (.slice al np cl) np KV UV P

section

variable {w w' : World} {g : Nat} {ab : Option Addr} {n cb : Nat} {PV : Nat → Value} {b : Bk} {al : Option Addr} {np cl : Nat} {KV : Nat → Value} {UV : Nat → Nat → Value} {P : Ps}

theorem MsAt.up (h : MsAt w g ab n cb PV b al np cl KV UV P) (hb : Below w.heap.size w w') : MsAt w' g ab n cb PV b al np cl KV UV P := ⟨stayB h.1 hb, h.2.1.up hb, h.2.2.up hb⟩

theorem MsAt.cells (h : MsAt w g ab n cb PV b al np cl KV UV P) : w.cell? ⟨g, 0, none⟩ = some (.slice ab n cb) ∧ w.cell? ⟨g, 1, none⟩ = some (.slice al np cl) := two_at h.1

theorem MsAt.box (hv : VeSl w w.heap.size (.slice ab n cb) n PV b) (hl : PsSl w w.heap.size (.slice al np cl) np KV UV P) : MsAt (w.alloc (.cells #[.slice ab n cb, .slice al np cl] 27)) w.heap.size ab n cb PV b al np cl KV UV P :=
  ⟨heap_alloc_new _ _, hv.up (below_alloc _ _), hl.up (below_alloc _ _)⟩

end

theorem mesh_open {w : World} {er : Int} {n : Nat} {b : Bk} {np : Nat} {P : Ps} {e : Ending} {w' : World} (h : MeshPost w er n b np P e w') :
    Below w.heap.size w w' ∧ ∃ (ab : Option Addr) (n' cb : Nat) (PV : Nat → Value) (al : Option Addr) (np' cl : Nat) (KV : Nat → Value) (UV : Nat → Nat → Value), e = .returned (.tuple #[.agg #[.slice ab n' cb, .slice al np' cl], .int .i64 er]) ∧
      n' = (if er = 0 then n else 0) ∧ np' = (if er = 0 then np else 0) ∧ VeSl w' w'.heap.size (.slice ab n' cb) n' PV b ∧ PsSl w' w'.heap.size (.slice al np' cl) np' KV UV P := by
  obtain ⟨h1, vb, vl, n', np', PV, KV, UV, rfl, h3, h4, h5, h6⟩ := h
  have h5' := h5
  have h6' := h6
  obtain ⟨ab, cb, rfl, _, _⟩ := h5'
  obtain ⟨al, cl, rfl, _, _⟩ := h6'
  exact ⟨h1, ab, n', cb, PV, al, np', cl, KV, UV, rfl, h3, h4, h5, h6⟩

end Go.Proofs.YtikchpffkhohlaaGreat

namespace Go.Proofs.YtikchpffkhohlaaGreat

open Go.RowKit CurveMath
set_option linter.unusedVariables false

def wX : Nat → Int := fun i => [(2 : Int), 2, 2, 2, 2].getD i 0
def wD : Nat → Int := fun i => [(5 : Int), 7, 9].getD i 0
def w0 : Nat → Int := fun _ => 0
def wB : Bk := saveB 0 noB 2 4 3 0 w0
def wP (t0 : Bool) (x : Int) : Ps := ⟨fun k => if k = 0 then t0 else true, fun _ => 2, fun k => if k < 4 then 1 else 0, fun k => ⟨fun _ => 0, fun _ => (k : Int), fun _ => 2, fun _ r => if k = 1 ∧ r = 0 then x else ([[(5 : Int), 9], [7, 0], [9, 22], [11, 13]].getD k []).getD r 0⟩⟩

theorem w_new : newE 5 wX = 0 := by decide +kernel
theorem w_save : saveE 0 noB 5 (freshP wX) 2 4 3 wD 0 w0 = 0 := by decide +kernel
theorem w_for : forL (freshP wX) 0 5 4 = [0, 1, 2, 3] := by decide +kernel
theorem w_shv : ∀ k, k < 4 → ∀ r, r < 2 → shv 2 3 wD k r = ([[(5 : Int), 9], [7, 0], [9, 22], [11, 13]].getD k []).getD r 0 := by decide +kernel
theorem w_ok : peersE 1 wB 5 (wP false 7) = 0 ∧ peersE 1 wB 5 (wP false 8) = 0 := by decide +kernel
theorem w_there : thereL (wP false 7) 0 5 = [(1, 0), (2, 0), (3, 0)] ∧ thereL (wP false 8) 0 5 = [(1, 0), (2, 0), (3, 0)] := by decide +kernel
theorem w_e7 : rsE 1 wB 5 (wP false 7) 0 = 0 := by decide +kernel
theorem w_e8 : rsE 1 wB 5 (wP false 8) 0 = 0 := by decide +kernel
theorem w_d7 : eqB 3 3 (rsD wB 5 (wP false 7) 0) wD = true := by decide +kernel
theorem w_none : rsE 1 wB 5 (wP false 7) 1 = 4 := by decide +kernel
theorem w_mend : mendE 1 wB 5 (wP false 7) 0 = 0 := by decide +kernel
theorem w_m4 : (mendP wB 5 (wP false 7) 0).m 4 = 1 ∧ ((mendP wB 5 (wP false 7) 0).t 4).N 0 = 0 := by decide +kernel
theorem w_mok : peersE 1 wB 5 (mendP wB 5 (wP false 7) 0) = 0 := by decide +kernel
theorem w_b7 : (rsB 1 wB 5 (wP false 7) 0).length = 0 := by decide +kernel
theorem w_b8 : (rsB 1 wB 5 (wP false 8) 0).length = 1 := by decide +kernel

end Go.Proofs.YtikchpffkhohlaaGreat
