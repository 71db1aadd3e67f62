/- What chapter 3's reference joins: the content of a list of shares, errors too. -/
import Derived.Test.YtfcpmpcfbhkacaaShareMade
import Derived.Test.YtfcpmpcfbhkacaaShareMath
namespace Go.Proofs.Ytfcpmpcfbhkacaa
open Go.RowKit CurveMath
set_option linter.unusedVariables false

/-- what Joins leaves -/
def JoinPost (w : World) (nd of sz : Int) (n : Nat) (N : Nat → Int) (L : Nat → Nat) (X : Nat → Nat → Int) (e : Ending) (w' : World) : Prop :=
  Below w.heap.size w w' ∧ ∃ (r : Value) (m : Nat), e = .returned (.tuple #[r, .int .i64 (joinE nd of sz n N L X)]) ∧ (m : Int) = (if joinE nd of sz n N L X = 0 then sz else 0) ∧ IntSl w' w'.heap.size r m (joinD nd.toNat N X)

theorem join_err {w w' : World} {nd of sz : Int} {n : Nat} {N : Nat → Int} {L : Nat → Nat} {X : Nat → Nat → Int} {c : Int} (hb : Below w.heap.size w w') (he : joinE nd of sz n N L X = c) (hc : c ≠ 0) : JoinPost w nd of sz n N L X (.returned (.tuple #[.slice none 0 0, .int .i64 c])) w' := by
  refine ⟨hb, _, 0, by rw [he], ?_, none, 0, rfl, ⟨Nat.le_refl _, by omega⟩, Or.inl rfl⟩
  rw [he, if_neg hc]
  rfl

theorem joinE_checks {nd of sz : Int} {n : Nat} {N : Nat → Int} {L : Nat → Nat} {X : Nat → Nat → Int} : joinE nd of sz n N L X = if checksE nd of sz n N L X = 0 then (if tornB nd.toNat sz.toNat (rowsN nd sz) n N X = true then 9 else 0) else checksE nd of sz n N L X := by
  unfold joinE checksE
  by_cases h1 : planOk nd of sz = true
  · rw [if_pos h1, if_pos h1]
    by_cases h2 : n ≤ 8
    · rw [if_pos h2, if_pos h2]
      by_cases h3 : scanS nd of sz N L X n 0 = 0
      · rw [if_pos h3, if_pos h3]
        by_cases h4 : nd ≤ (n : Int)
        · rw [if_pos h4, if_pos h4, if_pos rfl]
        · rw [if_neg h4, if_neg h4, if_neg (by decide)]
      · rw [if_neg h3, if_neg h3, if_neg h3]
    · rw [if_neg h2, if_neg h2, if_neg (by decide)]
  · rw [if_neg h1, if_neg h1, if_neg (by decide)]

theorem scanS_all {nd of sz : Int} {N : Nat → Int} {L : Nat → Nat} {X : Nat → Nat → Int} (m : Nat) : ∀ k, scanS nd of sz N L X m k = 0 → ∀ j, k ≤ j → j < k + m → oneE nd of sz (N j) (L j) (X j) = 0 ∧ hasB N j (N j) = false := by
  induction m with
  | zero => intro k _ j h1 h2; omega
  | succ m ih =>
    intro k h j h1 h2
    simp only [scanS] at h
    by_cases hb : oneE nd of sz (N k) (L k) (X k) = 0
    · rw [if_pos hb] at h
      by_cases hd : hasB N k (N k) = true
      · rw [if_pos hd] at h; omega
      · rw [if_neg hd] at h
        by_cases hjk : j = k
        · subst hjk; exact ⟨hb, by simpa using hd⟩
        · exact ih (k + 1) h j (by omega) (by omega)
    · rw [if_neg hb] at h; exact absurd h hb

/-- shares that are in order -/
structure Shares (d m s R n : Nat) (N : Nat → Int) (L : Nat → Nat) (X : Nat → Nat → Int) : Prop where
  plan : planOk (d : Int) (m : Int) (s : Int) = true
  rows : rowsN (d : Int) (s : Int) = R
  le : d ≤ n ∧ n ≤ 8
  who : ∀ j, j < n → 0 ≤ N j ∧ N j < (m : Int)
  len : ∀ j, j < n → L j = R
  num : ∀ j, j < n → ∀ r, r < R → 0 ≤ X j r ∧ X j r ≤ 30
  inj : ∀ i j, i < n → j < n → N i = N j → i = j

theorem checks_ok {nd of sz : Int} {n : Nat} {N : Nat → Int} {L : Nat → Nat} {X : Nat → Nat → Int} (h : checksE nd of sz n N L X = 0) : ∃ d m s R : Nat, nd = d ∧ of = m ∧ sz = s ∧ Shares d m s R n N L X := by
  unfold checksE at h
  by_cases h1 : planOk nd of sz = true
  · rw [if_pos h1] at h
    by_cases h2 : n ≤ 8
    · rw [if_pos h2] at h
      by_cases h3 : scanS nd of sz N L X n 0 = 0
      · rw [if_pos h3] at h
        by_cases h4 : nd ≤ (n : Int)
        · obtain ⟨a1, a2, a3⟩ := planOk_spec h1
          have hall := scanS_all n 0 h3
          obtain ⟨d, rfl⟩ : ∃ d : Nat, nd = d := ⟨nd.toNat, by omega⟩
          obtain ⟨m, rfl⟩ : ∃ m : Nat, of = m := ⟨of.toNat, by omega⟩
          obtain ⟨s, rfl⟩ : ∃ s : Nat, sz = s := ⟨sz.toNat, by omega⟩
          have key : ∀ i j, i < j → j < n → N i ≠ N j := fun i j hij hj e => by
            have h5 := (hall j (by omega) (by omega)).2
            have h6 : hasB N j (N j) = true := (hasB_iff N j (N j)).2 ⟨i, hij, e⟩
            rw [h6] at h5
            cases h5
          refine ⟨d, m, s, rowsN (d : Int) (s : Int), rfl, rfl, rfl, h1, rfl, ⟨by omega, h2⟩, fun j hj => (oneE_who (hall j (by omega) (by omega)).1).2.1, fun j hj => ?_, fun j hj r hr => ?_, fun i j hi hj e => ?_⟩
          · have := (oneE_who (hall j (by omega) (by omega)).1).2.2.1; omega
          · have h5 := oneE_who (hall j (by omega) (by omega)).1
            exact h5.2.2.2 r (by have := h5.2.2.1; omega)
          · rcases Nat.lt_trichotomy i j with hlt | heq | hgt
            · exact absurd e (key i j hlt hj)
            · exact heq
            · exact absurd e.symm (key j i hgt hi)
        · rw [if_neg h4] at h; omega
      · rw [if_neg h3] at h; exact absurd h h3
    · rw [if_neg h2] at h; omega
  · rw [if_neg h1] at h; omega

section
variable {d m s R n : Nat} {N : Nat → Int} {L : Nat → Nat} {X : Nat → Nat → Int}

theorem Shares.good (h : Shares d m s R n N L X) (r : Nat) (hr : r < R) : Good d d N (fun j => X j r) := by
  obtain ⟨h1, h2, h3⟩ := planOk_spec h.plan
  have hle := h.le
  exact ⟨rfl, ⟨by omega, by omega⟩, fun j hj => by have := h.who j (by omega); omega, fun j hj => h.num j (by omega) r hr, fun i j hi hj => h.inj i j (by omega) (by omega)⟩

/-- the share of what was joined -/
theorem Shares.again (h : Shares d m s R n N L X) (hm : madeB d s R N X = true) (ν r : Nat) (hr : r < R) : shv d s (joinD d N X) ν r = crv d N (fun i => X i r) (ν : Int) := by
  obtain ⟨h1, h2, h3⟩ := planOk_spec h.plan
  have hm := of_decide_eq_true hm
  unfold shv
  have hrow : ∀ t, t < d → padD s (joinD d N X) (r * d + t) = crv d N (fun i => X i r) (t : Int) := fun t ht => by
    rw [← joinD_row ht]
    have hlt : r * d + t < R * d := by
      have : (r + 1) * d ≤ R * d := Nat.mul_le_mul_right d hr
      rw [Nat.add_mul, Nat.one_mul] at this
      omega
    unfold padD
    by_cases hs : r * d + t < s
    · rw [if_pos hs]
    · rw [if_neg hs]
      rcases hm _ hlt with h5 | h5
      · exact absurd h5 hs
      · exact h5.symm
  have hgr : Good d d (fun i => (i : Int)) (fun t => padD s (joinD d N X) (r * d + t)) := good_row ⟨by omega, by omega⟩ (fun j _ => by unfold joinD; exact crv_num _ _ _ _) r
  exact crv_alike (h.good r hr) hgr (Nat.le_refl _) hrow (ν : Int)

/-- is share j of what was joined? -/
theorem Shares.same (h : Shares d m s R n N L X) (hm : madeB d s R N X = true) (j ν : Nat) (hj : j < n) (hν : N j = (ν : Int)) : sameB (N j) (ν : Int) (L j) R (X j) (fun r => shv d s (joinD d N X) ν r) = decide (∀ r, r < R → crv d N (fun i => X i r) (N j) = X j r) := by
  unfold sameB eqB
  rw [decide_eq_true hν, Bool.true_and, decide_eq_decide, h.len j hj]
  constructor
  · intro h5 r hr
    have h6 : X j r = shv d s (joinD d N X) ν r := h5.2 r hr
    rw [h.again hm ν r hr, ← hν] at h6
    exact h6.symm
  · intro h5
    refine ⟨rfl, fun r hr => ?_⟩
    show X j r = shv d s (joinD d N X) ν r
    rw [h.again hm ν r hr, ← hν]
    exact (h5 r hr).symm
end

theorem torn_iff {d s R n : Nat} {N : Nat → Int} {X : Nat → Nat → Int} (hm : madeB d s R N X = true) (hall : ∀ j, j < n → decide (∀ r, r < R → crv d N (fun i => X i r) (N j) = X j r) = true) : tornB d s R n N X = false := by
  unfold tornB
  have e1 : decide (∀ r, r < R → ∀ j, j < n → crv d N (fun i => X i r) (N j) = X j r) = true := decide_eq_true fun r hr j hj => of_decide_eq_true (hall j hj) r hr
  have e2 : decide (∀ i, i < R * d → i < s ∨ joinD d N X i = 0) = true := hm
  rw [e1, e2]
  rfl

theorem torn_of {d s R n : Nat} {N : Nat → Int} {X : Nat → Nat → Int} (j : Nat) (hj : j < n) (h : decide (∀ r, r < R → crv d N (fun i => X i r) (N j) = X j r) = false) : tornB d s R n N X = true := by
  unfold tornB
  rw [Bool.not_eq_true']
  exact Bool.and_eq_false_iff.2 (Or.inl (decide_eq_false fun h1 => of_decide_eq_false h fun r hr => h1 r hr j hj))

theorem torn_made {d s R n : Nat} {N : Nat → Int} {X : Nat → Nat → Int} (h : madeB d s R N X = false) : tornB d s R n N X = true := by
  unfold tornB
  rw [Bool.not_eq_true']
  exact Bool.and_eq_false_iff.2 (Or.inr h)

set_option maxHeartbeats 2000000 in
set_option maxRecDepth 10000 in
theorem joins_any (nd of sz : Int) (v : Value) (n : Nat) (N : Nat → Int) (V : Nat → Value) (L : Nat → Nat) (X : Nat → Nat → Int) (w : World) (h : ShSl w w.heap.size v n N V L X) :
    Calls Try.prog 15 #[planV nd of sz, v] w fun e w' => JoinPost w nd of sz n N L X e w' := by
  have hbx := below_alloc w (.cells #[.int .i64 nd, .int .i64 of, .int .i64 sz] 23)
  have HCs := hid (checkShares_any nd of sz v n N V L X _ (h.up hbx))
  have HS := hid h
  have HBx := hid hbx
  obtain ⟨ad, cap, rfl, ⟨hcap, hbig⟩, hx⟩ := h
  clear hbx
  by_cases hc : checksE nd of sz n N L X = 0
  · obtain ⟨d, m, s, R, rfl, rfl, rfl, hsh⟩ := checks_ok hc
    rw [hc] at HCs
    have hje : joinE (d : Int) (m : Int) (s : Int) n N L X = if tornB d s R n N X = true then 9 else 0 := by
      rw [joinE_checks, if_pos hc, Int.toNat_natCast, Int.toNat_natCast, hsh.rows]
    have HJe := hid hje
    have HSh := hid hsh
    obtain ⟨a1, a2, a3⟩ := planOk_spec hsh.plan
    have hrb := rowsN_bd a1 a3
    rw [hsh.rows] at hrb
    have hle := hsh.le
    have hRR : 1 ≤ R ∧ R ≤ 24 := by omega
    clear hc hje hsh
    unfold planV
    go_enter Try.func15, Try.ntmps15
    go_wp2_with fail
    refine HCs.out.mono ?_
    rintro e w1 ⟨rfl, hb1⟩
    have p0 : w1.cell? ⟨w.heap.size, 0, none⟩ = some (.int .i64 (d : Int)) := by rw [hb1.cell (by simp)]; exact cell_at (heap_alloc_new _ _) rfl
    have p1 : w1.cell? ⟨w.heap.size, 1, none⟩ = some (.int .i64 (m : Int)) := by rw [hb1.cell (by simp)]; exact cell_at (heap_alloc_new _ _) rfl
    have p2 : w1.cell? ⟨w.heap.size, 2, none⟩ = some (.int .i64 (s : Int)) := by rw [hb1.cell (by simp)]; exact cell_at (heap_alloc_new _ _) rfl
    have KP : Hid (∀ w', Below w1.heap.size w1 w' → w'.cell? ⟨w.heap.size, 0, none⟩ = some (.int .i64 (d : Int)) ∧ w'.cell? ⟨w.heap.size, 1, none⟩ = some (.int .i64 (m : Int)) ∧ w'.cell? ⟨w.heap.size, 2, none⟩ = some (.int .i64 (s : Int))) := fun w' hb' =>
      ⟨by rw [hb'.cell (cell_lt p0)]; exact p0, by rw [hb'.cell (cell_lt p1)]; exact p1, by rw [hb'.cell (cell_lt p2)]; exact p2⟩
    have HB1 := hid (HBx.out.trans (hb1.mono HBx.out.size))
    clear hb1
    go_wp2_with fail
    refine Calls.mono (made_any d m s n ad cap N V L X w1 HSh.out.plan HSh.out.rows hle.1 (fun j hj => HSh.out.len j (by omega)) HSh.out.good (HS.out.up HB1.out)) ?_
    rintro e w2 ⟨hb2, hmd⟩
    have HB2 := hid hb2
    have HBw := hid (HB1.out.trans (hb2.mono HB1.out.size))
    clear hb2 p0 p1 p2
    rcases hmd with ⟨hm, vd, rfl, hvd⟩ | ⟨hm, rfl⟩
    · have HM := hid hm
      have HVd := hid hvd
      obtain ⟨avd, cvd, hve, _, _⟩ := hvd
      subst hve
      clear hm
      rcases hx with h0 | ⟨b, off, rfl, hb, hx⟩
      · omega
      have HXc := hid hx
      clear hx
      go_wp2
      go_loopw [27] (fun iv wr => ∃ j : Nat, j ≤ n ∧ iv = .int .i64 j ∧ Hid (Below w2.heap.size w2 wr) ∧ Hid (∀ i, i < j → decide (∀ r, r < R → crv d N (fun i => X i r) (N i) = X i r) = true)) (fun iv _ => n - (intOf iv).toNat)
      case atStart => exact ⟨0, Nat.zero_le _, rfl, Below.refl _ _, fun i hi => by omega⟩
      case round =>
        obtain ⟨j, hj, rfl, HQ, HD⟩ := hrel
        by_cases hlt : j < n
        · have hji : (j : Int) < (n : Int) := by omega
          obtain ⟨x1, x2, x3⟩ := HXc.out j hlt
          have HBr := hid (HBw.out.trans (HQ.out.mono HBw.out.size))
          have HI3 : Hid (∀ w', Below w.heap.size w w' → IntSl w' w'.heap.size (V j) (L j) (X j)) := fun w' hb' => x3.up hb'
          obtain ⟨av, cv, hve, _, _⟩ := x3
          rw [hve] at HI3
          obtain ⟨ν, hν⟩ : ∃ ν : Nat, N j = ν := ⟨(N j).toNat, by have := HSh.out.who j hlt; omega⟩
          have hνb : ν ≤ 30 := by have := HSh.out.who j hlt; omega
          have g1 : wr.cell? ⟨b, off + j * 2, none⟩ = some (.int .i64 (ν : Int)) := by rw [HBr.out.cell hb, ← hν]; exact x1
          have g2 : wr.cell? ⟨b, off + j * 2 + 1, none⟩ = some (.slice av (L j) cv) := by rw [HBr.out.cell hb, x2, hve]
          have HN := hid hν
          clear x1 x2 hve hν
          have hbA := below_alloc wr (.cells #[.int .i64 (ν : Int), .slice av (L j) cv] 27)
          obtain ⟨W, hW⟩ : ∃ W, wr.alloc (.cells #[.int .i64 (ν : Int), .slice av (L j) cv] 27) = W := ⟨_, rfl⟩
          rw [hW] at hbA
          have s0 : W.cell? ⟨wr.heap.size, 0, none⟩ = some (.int .i64 (ν : Int)) := by rw [← hW]; exact cell_at (heap_alloc_new _ _) rfl
          have s1 : W.cell? ⟨wr.heap.size, 1, none⟩ = some (.slice av (L j) cv) := by rw [← hW]; exact cell_at (heap_alloc_new _ _) rfl
          have HB2W := hid (HQ.out.trans (hbA.mono HQ.out.size))
          have HBwW := hid (HBw.out.trans (HB2W.out.mono HBw.out.size))
          have hne : Nonempty (Of (Below W.heap.size W)) := ⟨⟨W, Below.refl _ _⟩⟩
          have K2 : ∀ u : Of (Below W.heap.size W), Below w1.heap.size w1 u.val := fun u => HB2.out.trans ((HB2W.out.mono HB2.out.size).trans (u.is.mono (Nat.le_trans HB2.out.size HB2W.out.size)))
          have F0 : ∀ u : Of (Below W.heap.size W), u.val.cell? ⟨w.heap.size, 0, none⟩ = some (.int .i64 (d : Int)) := fun u => (KP.out u.val (K2 u)).1
          have F1 : ∀ u : Of (Below W.heap.size W), u.val.cell? ⟨w.heap.size, 1, none⟩ = some (.int .i64 (m : Int)) := fun u => (KP.out u.val (K2 u)).2.1
          have F2 : ∀ u : Of (Below W.heap.size W), u.val.cell? ⟨w.heap.size, 2, none⟩ = some (.int .i64 (s : Int)) := fun u => (KP.out u.val (K2 u)).2.2
          have F3 : ∀ u : Of (Below W.heap.size W), u.val.cell? ⟨wr.heap.size, 0, none⟩ = some (.int .i64 (ν : Int)) := fun u => by rw [u.is.cell (cell_lt s0)]; exact s0
          have F4 : ∀ u : Of (Below W.heap.size W), u.val.cell? ⟨wr.heap.size, 1, none⟩ = some (.slice av (L j) cv) := fun u => by rw [u.is.cell (cell_lt s1)]; exact s1
          clear hbA K2
          go_wp2_with fail
          have HDr : Hid (Below W.heap.size W W.drew) := ⟨rfl, rfl, rfl, Nat.le_refl _, fun _ _ => rfl⟩
          refine region_mixed (Below W.heap.size W) [([0, 1, 2, 3, 4], 5), ([], 6)] [7] (by kernel_rfl) (by kernel_rfl) HDr.out ?_
          refine mixO_cons ?_
          repeat (go_big_quiet_step (fail))
          refine wpQuiet_nil ?_
          intro K hK
          go_wp2_with fail
          refine Calls.mono (shareOf_any d m s (s : Int) avd cvd (joinD d N X) ν W.drew HSh.out.plan (fun j _ => by unfold joinD; exact crv_num _ _ _ _) (by omega) hνb HSh.out.rows ((HVd.out.up HB2W.out).up HDr.out)) ?_
          rintro e w3 ⟨Vn, rfl, hvn, hb3, _⟩
          have HB3 := hid (HDr.out.trans (hb3.mono HDr.out.size))
          have HVn := hid hvn
          clear hb3 hvn
          unfold shareV
          go_wp2
          refine ⟨rfl, hK _ _ HB3.out ?_⟩
          clear hK K
          refine mixO_cons (lq := []) ?_ rfl
          refine wpQuiet_nil ?_
          intro K hK
          go_wp2_with fail
          refine Calls.mono (sameShare_any (ν : Int) (ν : Int) _ _ (L j) R (X j) _ w3 (HI3.out w3 (HBwW.out.trans (HB3.out.mono HBwW.out.size))) HVn.out) ?_
          rintro e w4 ⟨rfl, hb4⟩
          have HB4 := hid (HB3.out.trans (hb4.mono HB3.out.size))
          have hsm := HSh.out.same HM.out j ν hlt HN.out
          rw [HN.out] at hsm
          rw [hsm]
          clear hb4 hsm
          cases hdj : decide (∀ r, r < R → crv d N (fun i => X i r) (ν : Int) = X j r) with
          | true =>
            go_wp2
            refine ⟨rfl, hK _ _ HB4.out ?_⟩
            clear hK K
            refine mixO_nil ?_
            repeat (go_big_quiet_step (fail))
            refine wpQuiet_nil ?_
            go_wp2
            go_roundw
            case rel =>
              refine ⟨j + 1, by omega, by go_num, HB2W.out.trans (HB4.out.mono HB2W.out.size), fun i hi => ?_⟩
              by_cases e : i = j
              · subst e; rw [HN.out]; exact hdj
              · exact HD.out i (by omega)
            case measure => simp only [intOf]; omega
          | false =>
            go_wp2
            refine ⟨rfl, hK _ _ HB4.out ?_⟩
            clear hK K
            refine mixO_nil ?_
            repeat (go_big_quiet_step (fail))
            refine wpQuiet_nil ?_
            go_wp2
            go_ret2
            refine join_err (HBwW.out.trans (HB4.out.mono HBwW.out.size)) ?_ (by decide)
            rw [HJe.out, if_pos (torn_of j hlt (by rw [HN.out]; exact hdj))]
        · have hje : j = n := by omega
          subst hje
          go_wp2
          go_ret2
          have ht := torn_iff HM.out HD.out
          have he : joinE (d : Int) (m : Int) (s : Int) j N L X = 0 := by rw [HJe.out, ht, if_neg (by decide)]
          refine ⟨HBw.out.trans (HQ.out.mono HBw.out.size), _, s, by rw [he]; rfl, by rw [he, if_pos rfl], ?_⟩
          rw [Int.toNat_natCast]
          exact HVd.out.up HQ.out
    · have HM := hid hm
      clear hm
      go_wp2
      go_ret2
      refine join_err HBw.out ?_ (by decide)
      rw [HJe.out, if_pos (torn_made HM.out)]
  · have he : joinE nd of sz n N L X = checksE nd of sz n N L X := by rw [joinE_checks, if_neg hc]
    generalize checksE nd of sz n N L X = c at *
    have hcb : (c != 0) = true := by simpa using hc
    have HE := hid he
    have HC := hid hc
    clear he hc hx
    unfold planV
    go_enter Try.func15, Try.ntmps15
    go_wp2_with (go_at_call 45; go_must (refine HCs.out.mono ?_; rintro e w1 ⟨rfl, hb1⟩; have HB1 := hid (HBx.out.trans (hb1.mono HBx.out.size)); clear hb1))
    go_ret2
    exact join_err HB1.out HE.out HC.out

end Go.Proofs.Ytfcpmpcfbhkacaa
