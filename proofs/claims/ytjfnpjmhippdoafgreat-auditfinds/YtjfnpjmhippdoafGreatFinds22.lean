/- Several texts of one proof, in their order. -/
import Derived.Test.YtjfnpjmhippdoafGreatFinds19
import Derived.Test.YtjfnpjmhippdoafGreatFinds13
import Derived.Test.YtjfnpjmhippdoafGreatFinds20
import Derived.Maps.AppendAt
import Derived.Test.YtjfnpjmhippdoafGreatFinds21
import Derived.Test.YtjfnpjmhippdoafGreatFinds4

/- What package mesh shows of one peer, copies of one list; the shares that are there. -/
namespace Go.Proofs.YtjfnpjmhippdoafGreat

open Go.RowKit Go.Maps CurveMath
set_option linter.unusedVariables false

set_option maxHeartbeats 1000000 in
set_option maxRecDepth 10000 in
/-- a list of numbers, copied -/
theorem msOwn (v : Value) (m : Nat) (X : Nat → Int) (w : World) (h : IntSl w w.heap.size v m X) :
    Calls Tryz.prog 97 #[v] w fun e w' => Below w.heap.size w w' ∧ e = .returned (.slice (some ⟨w.heap.size, 0, none⟩) m m) ∧ IntSl w' w'.heap.size (.slice (some ⟨w.heap.size, 0, none⟩) m m) m X ∧ NewV w.heap.size w' (.slice (some ⟨w.heap.size, 0, none⟩) m m) := by
  have HI := hid h
  obtain ⟨ap, cp, rfl, ⟨hcap, hbig⟩, hpc⟩ := h
  obtain ⟨ii, hii, hz0, hz1, hz2⟩ := info_parts Tryz.infoInt
  clear hpc
  go_enter Tryz.func97, Tryz.ntmps97
  go_wp2_with (at_make; go_must (refine wpList_make_full _ rfl (.tmp 5) (.tmp 5) 28 rfl _ 3 ii (.int .i64 0) 1 Tryz.underlying28 hii hz0 hz1 _ _ _ _ m rfl rfl rfl rfl (by rw [hz2]; omega) (by unfold maxLen; omega) (Nat.le_refl _) ?_; intro w1 ho1 hg1; have HB1 := hid (below_of_grown hg1); obtain ⟨w2, hrun, hm2, hb2, cs2, hh2⟩ := copy_all2 (made_block ho1) (HI.out.up HB1.out) HB1.out; have HM2 := hid hm2; have HB2 := hid hb2; have HH2 := hid hh2; clear ho1 hg1 hm2 hb2 hh2))
  go_ret
  refine ⟨HB2.out, rfl, ⟨_, _, rfl, ⟨Nat.le_refl _, by omega⟩, ?_⟩, newV_block HH2.out (Nat.le_refl _)⟩
  by_cases hm : m = 0
  · exact Or.inl hm
  · exact Or.inr ⟨_, 0, rfl, cell_lt (HM2.out 0 (by omega)), fun j hj => by rw [Nat.zero_add]; exact HM2.out j hj⟩

/-- has the peer something of it, and is there? -/
def hasV (th : Bool) (t : Kt) (ver : Int) (m : Nat) : Bool := th && decide (0 ≤ fstAt t.V ver m 0)
/-- what a peer shows -/
def shownV (th : Bool) (UV : Nat → Value) (t : Kt) (ver : Int) (m : Nat) : Value := if hasV th t ver m = true then .agg #[.int .i64 (t.N (fstAt t.V ver m 0).toNat), UV (fstAt t.V ver m 0).toNat] else .agg #[.int .i64 0, .slice none 0 0]

set_option maxHeartbeats 2000000 in
theorem msShows (th : Bool) (room : Int) (v : Value) (m : Nat) (UV : Nat → Value) (t : Kt) (ver : Int) (w : World) (h : KeSl w w.heap.size v m UV t) :
    Calls Tryz.prog 71 #[peerV th room v, .int .i64 ver] w fun e w' => e = .returned (.tuple #[shownV th UV t ver m, .bool (hasV th t ver m)]) ∧ Below w.heap.size w w' := by
  have hb := ((Below.refl w.heap.size w).alloc (Nat.le_refl _) (.cells #[.bool th, .int .i64 room, v] 45)).alloc (by simp) (.cells #[.int .i64 0, .slice none 0 0] 48)
  have k0 := heap_two_old w (.cells #[.bool th, .int .i64 room, v] 45) (.cells #[.int .i64 0, .slice none 0 0] 48)
  have k1 := heap_two_new w (.cells #[.bool th, .int .i64 room, v] 45) (.cells #[.int .i64 0, .slice none 0 0] 48)
  have HK := hid h
  obtain ⟨ak, ck, rfl, _, hx⟩ := h
  obtain ⟨W, hW⟩ : ∃ W, (w.alloc (.cells #[.bool th, .int .i64 room, .slice ak m ck] 45)).alloc (.cells #[.int .i64 0, .slice none 0 0] 48) = W := ⟨_, rfl⟩
  rw [hW] at hb k0 k1
  have CF := hid (peFind th room _ m UV t ver W (HK.out.up hb))
  obtain ⟨q0, q1, q2⟩ := three_at k0
  have HB := hid hb
  have K0 := hid k0
  have K1 := hid k1
  have HX := hid hx
  obtain ⟨fa, hfa⟩ : ∃ x, fstAt t.V ver m 0 = x := ⟨_, rfl⟩
  obtain ⟨hv, hhv⟩ : ∃ x, hasV th t ver m = x := ⟨_, rfl⟩
  obtain ⟨sv, hsv⟩ : ∃ x, shownV th UV t ver m = x := ⟨_, rfl⟩
  have hpl : 0 ≤ fa → ∃ i : Nat, fa = (i : Int) ∧ i < m := fun h9 => by
    rw [← hfa] at h9
    obtain ⟨i, e1, _, e2, _⟩ := fstAt_place _ _ _ _ h9
    exact ⟨i, by rw [← hfa]; exact e1, by omega⟩
  rw [hfa] at CF
  rw [hsv, hhv]
  unfold shownV at hsv
  rw [hhv] at hsv
  unfold hasV at hhv
  rw [hfa] at hsv hhv
  have HSv := hid hsv
  have HHv := hid hhv
  have HPl := hid hpl
  clear hb k0 k1 hx hfa hsv hhv hpl
  unfold peerV at CF
  unfold peerV
  go_enter Tryz.func71, Tryz.ntmps71
  go_wp2_with fail
  refine Calls.mono CF.out ?_
  rintro e w2 ⟨rfl, hb2⟩
  have B2 := hid (HB.out.trans (hb2.mono HB.out.size))
  have d0 := stayB K0.out hb2
  have d1 := stayB K1.out hb2
  have D1 := hid d1
  have HK2 := hid (HK.out.up B2.out)
  clear q0 q1 q2
  obtain ⟨q0, q1, q2⟩ := three_at d0
  obtain ⟨r0, r1⟩ := two_at d1
  have f0 := frozen_at (i := 0) d1
  have f1 := frozen_at (i := 1) d1
  clear hb2 d0 d1 CF
  cases th with
  | false =>
    have e1 := HHv.out
    rw [Bool.false_and] at e1
    subst e1
    have e2 := HSv.out
    rw [if_neg (by decide)] at e2
    subst e2
    go_wp2
    refine bodyPost_ret (results_cell2 rfl _ _ (w.heap.size + 1) 48 #[.int .i64 0, .slice none 0 0] (0, 0) _ rfl (put2_whole D1.out _ _) Tryz.underlying48 rfl (by kernel_rfl)) rfl ?_
    exact ⟨rfl, put2_below B2.out (by omega)⟩
  | true =>
    by_cases hf : 0 ≤ fa
    · obtain ⟨i, rfl, him⟩ := HPl.out hf
      have e1 := HHv.out
      rw [Bool.true_and, decide_eq_true hf] at e1
      subst e1
      have e2 := HSv.out
      rw [if_pos rfl, Int.toNat_natCast] at e2
      subst e2
      rcases HX.out with h0 | ⟨bl, off, rfl, hbl, hx⟩
      · omega
      obtain ⟨x0, x1, x2, x3⟩ := hx i him
      obtain ⟨au, cu, hue, _, _⟩ := x3
      rw [hue] at x2
      have y1 : w2.cell? ⟨bl, off + i * 3 + 1, none⟩ = some (.int .i64 (t.N i)) := by rw [B2.out.cell hbl]; exact x1
      have y2 : w2.cell? ⟨bl, off + i * 3 + 2, none⟩ = some (.slice au (t.L i) cu) := by rw [B2.out.cell hbl]; exact x2
      have hii : (i : Int) < (m : Int) := by omega
      have HU := hid hue
      clear x0 x1 x2 hx hf hue
      go_wp2
      refine bodyPost_ret (results_cell2 rfl _ _ (w.heap.size + 1) 48 #[.int .i64 (t.N i), .slice au (t.L i) cu] (0, 0) _ rfl (put2_whole D1.out _ _) Tryz.underlying48 rfl (by kernel_rfl)) rfl ?_
      exact ⟨by rw [HU.out]; rfl, put2_below B2.out (by omega)⟩
    · have hf2 : fa < 0 := by omega
      have e1 := HHv.out
      rw [Bool.true_and, decide_eq_false hf] at e1
      subst e1
      have e2 := HSv.out
      rw [if_neg (by decide)] at e2
      subst e2
      clear hf
      go_wp2
      refine bodyPost_ret (results_cell2 rfl _ _ (w.heap.size + 1) 48 #[.int .i64 0, .slice none 0 0] (0, 0) _ rfl (put2_whole D1.out _ _) Tryz.underlying48 rfl (by kernel_rfl)) rfl ?_
      exact ⟨rfl, put2_below B2.out (by omega)⟩

/-- the mesh's box, the map that counts, the list of shares -/
structure PrInv (w wr : World) (vb vl : Value) (P : Ps) (UV : Nat → Nat → Value) (l s : List (Nat × Nat)) (M : Nat) (vo : Value) : Prop where
  below : Below w.heap.size w wr
  box : wr.heap[w.heap.size]? = some (.cells #[vb, vl] 27 (0, 0))
  map : ∃ (mm : Nat) (c : Int → Int), mm ≤ M ∧ CntM wr (w.heap.size + 1) mm c ∧ (∀ x, 0 ≤ c x ∧ c x ≤ (M : Int)) ∧ ∀ x, c x = 0 ↔ seenN P s x = false
  own : wr.ownsRow (w.heap.size + 2) 48 2 vo l.length (flatS l.length (nL P l) (vaL UV l))

section

variable {w wr w' : World} {vb vl : Value} {P : Ps} {UV : Nat → Nat → Value} {l s s' : List (Nat × Nat)} {M : Nat} {vo : Value}

theorem PrInv.up (h : PrInv w wr vb vl P UV l s M vo) (hb : Below wr.heap.size wr w') : PrInv w w' vb vl P UV l s M vo := by
  obtain ⟨mm, c, h0, h1, h2⟩ := h.map
  exact ⟨h.below.trans (hb.mono h.below.size), stayB h.box hb, ⟨mm, c, h0, h1.up hb, h2⟩, owns_below h.own hb⟩

theorem PrInv.ne (h : PrInv w wr vb vl P UV l s M vo) : some (w.heap.size + 1) ≠ vo.ownBlock ∧ some w.heap.size ≠ vo.ownBlock := by
  refine ⟨fun e => ?_, fun e => ?_⟩
  · have := (h.own.lt _ e.symm).1; omega
  · have := (h.own.lt _ e.symm).1; omega

theorem PrInv.push (h : PrInv w wr vb vl P UV l s M vo) {k i : Nat} {v1 : Value} {o : Obj} (ho : w'.ownsRow (w.heap.size + 2) 48 2 v1 (l.length + 1) (flatS l.length (nL P l) (vaL UV l) ++ [.int .i64 ((P.t k).N i), UV k i])) (hg : (wr.alloc o).grownBy w' vo.ownBlock) : PrInv w w' vb vl P UV (l ++ [(k, i)]) s M v1 := by
  have hA := h.up (below_alloc wr o)
  obtain ⟨mm, c, h0, h1, h2⟩ := hA.map
  refine ⟨hA.below.grown hg hA.below.size (fun g hgg => by have := (hA.own.lt g hgg).1; omega), ?_, ⟨mm, c, h0, h1.kept hg hA.ne.1, h2⟩, ?_⟩
  · rw [hg.block _ (Array.getElem?_eq_some_iff.1 hA.box).1 hA.ne.2]; exact hA.box
  · rw [flatS_snoc, List.length_append]; exact ho

theorem PrInv.count (h : PrInv w wr vb vl P UV l s M vo) (hg : wr.grownBy w' (some (w.heap.size + 1))) {mm : Nat} {c : Int → Int} (hmm : mm ≤ M + 1) (hm : CntM w' (w.heap.size + 1) mm c) (hc : (∀ x, 0 ≤ c x ∧ c x ≤ ((M + 1 : Nat) : Int)) ∧ ∀ x, c x = 0 ↔ seenN P s' x = false) : PrInv w w' vb vl P UV l s' (M + 1) vo := by
  refine ⟨h.below.grown hg h.below.size (fun g hgg => by injection hgg with hgg; omega), ?_, ⟨mm, c, hmm, hm, hc.1, hc.2⟩, ?_⟩
  · rw [hg.block _ (Array.getElem?_eq_some_iff.1 h.box).1 (by intro e; injection e with e; omega)]; exact h.box
  · exact h.own.kept hg (Or.inr fun e => h.ne.1 e.symm)

end

set_option maxHeartbeats 8000000 in
set_option maxRecDepth 10000 in
theorem msPresent (vb : Value) (n : Nat) (b : Bk) (vl : Value) (np : Nat) (KV : Nat → Value) (UV : Nat → Nat → Value) (P : Ps) (ver : Int) (w : World) (hvb : ∃ a n c, vb = .slice a n c) (hl : PsSl w w.heap.size vl np KV UV P) (hR : MeshR n b np P) :
    Calls Tryz.prog 40 #[meshV vb vl, .int .i64 ver] w fun e w' => Below w.heap.size w w' ∧ ∃ vo, e = .returned vo ∧ ShSl w' w'.heap.size vo (thereL P ver np).length (nL P (thereL P ver np)) (vaL UV (thereL P ver np)) (lL P (thereL P ver np)) (xL P (thereL P ver np)) := by
  obtain ⟨ab, nb, cb, rfl⟩ := hvb
  have HL := hid hl
  have HR := hid hR
  have h8 := hR.few
  obtain ⟨al, cl, rfl, _, _⟩ := hl
  obtain ⟨ii, hii, hz0, hz1, hz2⟩ := info_parts Tryz.infoShare
  have hb0 := ((Below.refl w.heap.size w).alloc (Nat.le_refl _) (.cells #[.slice ab nb cb, .slice al np cl] 27)).alloc (by simp) (.map #[] 0)
  have k0 := heap_two_old w (.cells #[.slice ab nb cb, .slice al np cl] 27) (.map #[] 0)
  have hcm : CntM ((w.alloc (.cells #[.slice ab nb cb, .slice al np cl] 27)).alloc (.map #[] 0)) (w.heap.size + 1) 0 (fun _ => 0) := by
    have := cntM_made (w.alloc (.cells #[.slice ab nb cb, .slice al np cl] 27))
    simpa using this
  have J0 : Hid (PrInv w ((w.alloc (.cells #[.slice ab nb cb, .slice al np cl] 27)).alloc (.map #[] 0)) (.slice ab nb cb) (.slice al np cl) P UV (thAll P ver 0) (thAll P ver 0) 0 (.slice none 0 0)) :=
    ⟨hb0, k0, ⟨0, _, Nat.le_refl _, hcm, fun x => ⟨Int.le_refl _, Int.le_refl _⟩, fun x => ⟨fun _ => rfl, fun _ => rfl⟩⟩, World.ownsRow_nil _ _ _ _⟩
  have c1 := (two_at k0).2
  have HStep : Hid (∀ k, k < np → thAll P ver (k + 1) = if (hasK P ver k && !seenN P (thAll P ver k) (numK P ver k)) = true then thAll P ver k ++ [(k, atK P ver k)] else thAll P ver k) := fun k hk => thAll_has HR.out ver hk
  have HLen : Hid (∀ k, k ≤ np → (thAll P ver k).length ≤ k) := thAll_len HR.out ver
  clear hb0 k0 hcm hR
  unfold meshV thereL
  go_enter Tryz.func40, Tryz.ntmps40
  have hmm := @run_makeMap Tryz.prog
  go_wp2
  clear hmm c1
  go_loopw [6, 15] (fun vo kv wr => ∃ k : Nat, k ≤ np ∧ kv = .int .i64 k ∧ Hid (PrInv w wr (.slice ab nb cb) (.slice al np cl) P UV (thAll P ver k) (thAll P ver k) k vo)) (fun _ kv _ => np - (intOf kv).toNat)
  case atStart => exact ⟨0, Nat.zero_le _, rfl, J0⟩
  case round =>
    obtain ⟨k, hk, rfl, J⟩ := hrel
    by_cases hlt : k < np
    · have hki : (k : Int) < (np : Int) := by omega
      obtain ⟨bl, off, rfl, hbl, g0, g1, g2, g3⟩ := (HL.out.up J.out.below).at hlt
      have G3 := hid g3
      obtain ⟨ak, ck, hke, _, _⟩ := g3
      rw [hke] at g2 G3
      have hbA := below_alloc wr (.cells #[.bool (P.th k), .int .i64 (P.rm k), .slice ak (P.m k) ck] 45)
      have kp := heap_alloc_new wr (.cells #[.bool (P.th k), .int .i64 (P.rm k), .slice ak (P.m k) ck] 45)
      obtain ⟨W1, hW1⟩ : ∃ u, wr.alloc (.cells #[.bool (P.th k), .int .i64 (P.rm k), .slice ak (P.m k) ck] 45) = u := ⟨_, rfl⟩
      rw [hW1] at hbA kp
      obtain ⟨p0, p1, p2⟩ := three_at kp
      have JA := hid (J.out.up hbA)
      have CS := hid (msShows (P.th k) (P.rm k) _ (P.m k) (UV k) (P.t k) ver W1 (G3.out.up hbA))
      have hst := HStep.out k hlt
      have hln := HLen.out k (by omega)
      have hhk : hasV (P.th k) (P.t k) ver (P.m k) = hasK P ver k := rfl
      have hsk : shownV (P.th k) (UV k) (P.t k) ver (P.m k) = if hasK P ver k = true then .agg #[.int .i64 (numK P ver k), UV k (atK P ver k)] else .agg #[.int .i64 0, .slice none 0 0] := rfl
      rw [hhk, hsk] at CS
      have HNum : Hid (hasK P ver k = true → (0 ≤ numK P ver k ∧ numK P ver k < 8) ∧ ∃ a c, UV k (atK P ver k) = .slice a ((P.t k).L (atK P ver k)) c) := fun hh => by
        obtain ⟨_, h1, _⟩ := hasK_at hh
        refine ⟨HR.out.num k _ hlt h1, ?_⟩
        obtain ⟨a, c, e, _⟩ := HL.out.ints hlt h1
        exact ⟨a, c, e⟩
      unfold peerV at CS
      clear hbA kp hke hhk hsk J G3
      cases hh : hasK P ver k with
      | false =>
        rw [hh, if_neg (by decide)] at CS
        rw [hh, Bool.false_and, if_neg (by decide)] at hst
        have HSt := hid hst
        clear hst hh
        go_wp2_with fail
        refine Calls.mono CS.out ?_
        rintro e w2 ⟨rfl, hb2⟩
        have hb3 := hb2.alloc hb2.size (.cells #[.int .i64 0, .slice none 0 0] 48)
        have JB := hid (JA.out.up hb3)
        clear hb2 hb3 CS p0 p1 p2
        go_wp2
        go_roundw
        case rel =>
          refine ⟨k + 1, by omega, by go_num, ?_⟩
          show PrInv _ _ _ _ _ _ _ _ _ _
          rw [HSt.out]
          obtain ⟨mm, c, h0, h1, h2, h3⟩ := JB.out.map
          exact ⟨JB.out.below, JB.out.box, ⟨mm, c, by omega, h1, fun x => by have := h2 x; omega, h3⟩, JB.out.own⟩
        case measure => simp only [intOf]; omega
      | true =>
        obtain ⟨hNb, au, cu, hue⟩ := HNum.out hh
        obtain ⟨q, hq⟩ : ∃ q : Nat, numK P ver k = (q : Int) := ⟨(numK P ver k).toNat, by omega⟩
        have hq8 : (q : Int) < 8 := by omega
        have hqk : 0 ≤ (q : Int) ∧ (q : Int) ≤ 1000 := by omega
        rw [hh, if_pos rfl, hq, hue] at CS
        rw [hh, Bool.true_and, hq] at hst
        have HQ := hid hq
        have HU := hid hue
        clear hh hq hue hNb
        go_wp2_with fail
        refine Calls.mono CS.out ?_
        rintro e w2 ⟨rfl, hb2⟩
        have HOb : Hid (some w2.heap.size ≠ (u6 : Value).ownBlock) := fun e => by have := ((JA.out.up hb2).own.lt _ e.symm).2; omega
        have hb3 := hb2.alloc hb2.size (.cells #[.int .i64 (q : Int), .slice au ((P.t k).L (atK P ver k)) cu] 48)
        have k9 := heap_alloc_new w2 (.cells #[.int .i64 (q : Int), .slice au ((P.t k).L (atK P ver k)) cu] 48)
        obtain ⟨W3, hW3⟩ : ∃ u, w2.alloc (.cells #[.int .i64 (q : Int), .slice au ((P.t k).L (atK P ver k)) cu] 48) = u := ⟨_, rfl⟩
        rw [hW3] at hb3 k9
        have JB := hid (JA.out.up hb3)
        have K9 := hid k9
        obtain ⟨s0, s1⟩ := two_at k9
        obtain ⟨mm, c, h0, hcm, hc2, hc3⟩ := JB.out.map
        obtain ⟨D, hD, hat⟩ := hcm
        have HD := hid hD
        have HAt := hid hat
        have HC2 := hid hc2
        have HC3 := hid hc3
        have HK := hid (keyInt hqk)
        obtain ⟨cx, hcx⟩ : ∃ cx, c (q : Int) = cx := ⟨_, rfl⟩
        have HCx := hid hcx
        have hbd := hc2 (q : Int)
        rw [hcx] at hbd
        have hcq := hc3 (q : Int)
        rw [hcx] at hcq
        have HLst := hid hst
        clear hb2 hb3 CS p0 p1 p2 hD hat hc2 hc3 hcx k9
        have hge : w.heap.size + 2 ≤ W3.heap.size := by have h9 := HD.out.lt; omega
        by_cases hc0 : cx = 0
        · have hs := hcq.1 hc0
          have hst2 := hst
          rw [hs, Bool.not_false, if_pos rfl] at hst2
          have hcb : (cx == 0) = true := by rw [beq_iff_eq]; exact hc0
          have HSt := hid hst2
          have hl9 : (thAll P ver k).length ≤ 8 := by omega
          clear hst hst2 hs hcq hc0
          go_wp2_with (first
            | (at_builtin; go_must (refine wpList_append_own _ rfl (.tmp 32) (.tmp 34) 56 rfl (w.heap.size + 2) 48 ii (.agg #[.int .i64 0, .slice none 0 0]) 2 32 Tryz.underlying56 hii hz0 hz1 hz2 rfl (by decide) _ _ _ rfl (World.ownsRow.alloc JB.out.own _) ⟨_, 0, none⟩ 1 1 [.int .i64 (q : Int), .slice au ((P.t k).L (atK P ver k)) cu] rfl rfl (cells_pr _ _ _ _) (by intro u hu; simp at hu; rcases hu with rfl | rfl <;> rfl) (by unfold maxLen; omega) (by omega) (by simp; omega) ?_; intro v1 w6 ho6 hg6 _; have hb5 := below_alloc W3 (.cells #[.int .i64 (q : Int), .slice au ((P.t k).L (atK P ver k)) cu] 48); have h5 := stayB K9.out hb5; rw [← hg6.block _ (Array.getElem?_eq_some_iff.1 h5).1 HOb.out] at h5; obtain ⟨t0, t1⟩ := two_at h5; have HD6 := hid ((HD.out.kept (grown_of_below hb5 none) (by intro e; cases e)).kept hg6 JB.out.ne.1); have J6 := hid (JB.out.push (k := k) (i := atK P ver k) (by rw [show (P.t k).N (atK P ver k) = (q : Int) from HQ.out, HU.out]; exact ho6) hg6); have hge6 : w.heap.size + 2 ≤ w6.heap.size := HD6.out.lt; clear ho6 hg6 hb5 h5 s0 s1))
            | (at_lookup; refine wpList_lookup_own_int _ rfl _ _ 113 rfl 3 3 .i64 keyedInt Tryz.underlying113 Tryz.underlying3 (zeroInt _) (w.heap.size + 1) mm _ rfl HD.out _ _ rfl HK.out ?_; intro cz hat0 hwc; obtain rfl := (cnt_val HAt.out hat0).trans HCx.out; clear hat0 hwc)
            | (at_lookup; refine wpList_lookup_own_int _ rfl _ _ 113 rfl 3 3 .i64 keyedInt Tryz.underlying113 Tryz.underlying3 (zeroInt _) (w.heap.size + 1) mm _ rfl HD6.out _ _ rfl HK.out ?_; intro cz hat0 hwc; obtain rfl := (cnt_val HAt.out hat0).trans HCx.out; clear hat0 hwc)
            | (at_mapUpdate; refine wpList_mapUpdate_own _ rfl _ _ _ 113 rfl 3 3 keyedInt Tryz.underlying113 _ (w.heap.size + 1) mm _ rfl HD6.out (by unfold maxLen; omega) _ _ _ rfl rfl HK.out _ [] (plainElem_int Tryz.underlying3 (by first | exact wrap64_wf _ | exact WalkArith.wf_i64 (by omega))) ?_; intro w7 hown7 hgrow7; have HO7 := hid hown7; have HG7 := hid hgrow7; clear hown7 hgrow7))
          go_roundw
          case rel =>
            refine ⟨k + 1, by omega, by go_num, ?_⟩
            show PrInv _ _ _ _ _ _ _ _ _ _
            have hst9 := HLst.out
            rw [HSt.out]
            rw [HSt.out] at hst9
            refine J6.out.count HG7.out (by omega) (cntM_put HD6.out HAt.out HO7.out) ?_
            have h9 := seen_hit (M := k) (c := c) HC2.out HC3.out HQ.out hst9
            rw [HCx.out] at h9
            exact h9
          case measure => simp only [intOf]; omega
        · have hs : seenN P (thAll P ver k) (q : Int) = true := by
            cases h9 : seenN P (thAll P ver k) (q : Int) with
            | true => rfl
            | false => exact absurd (hcq.2 h9) hc0
          have hst2 := hst
          rw [hs, Bool.not_true, if_neg (by decide)] at hst2
          have hcb : (cx == 0) = false := by rw [beq_eq_false_iff_ne]; exact hc0
          have HSt := hid hst2
          clear hst hst2 hs hcq hc0
          go_wp2_with (first
            | (at_lookup; refine wpList_lookup_own_int _ rfl _ _ 113 rfl 3 3 .i64 keyedInt Tryz.underlying113 Tryz.underlying3 (zeroInt _) (w.heap.size + 1) mm _ rfl HD.out _ _ rfl HK.out ?_; intro cz hat0 hwc; obtain rfl := (cnt_val HAt.out hat0).trans HCx.out; clear hat0 hwc)
            | (at_mapUpdate; refine wpList_mapUpdate_own _ rfl _ _ _ 113 rfl 3 3 keyedInt Tryz.underlying113 _ (w.heap.size + 1) mm _ rfl HD.out (by unfold maxLen; omega) _ _ _ rfl rfl HK.out _ [] (plainElem_int Tryz.underlying3 (by first | exact wrap64_wf _ | exact WalkArith.wf_i64 (by omega))) ?_; intro w7 hown7 hgrow7; have HO7 := hid hown7; have HG7 := hid hgrow7; clear hown7 hgrow7))
          go_roundw
          case rel =>
            refine ⟨k + 1, by omega, by go_num, ?_⟩
            show PrInv _ _ _ _ _ _ _ _ _ _
            have hst9 := HLst.out
            rw [HSt.out]
            rw [HSt.out] at hst9
            refine JB.out.count HG7.out (by omega) (cntM_put HD.out HAt.out HO7.out) ?_
            have h9 := seen_hit (M := k) (c := c) HC2.out HC3.out HQ.out hst9
            rw [HCx.out] at h9
            exact h9
          case measure => simp only [intOf]; omega
    · have hke : np = k := by omega
      subst hke
      have hlen := HLen.out np (Nat.le_refl _)
      have hsl : ShSl wr wr.heap.size u6 (thAll P ver np).length (nL P (thAll P ver np)) (vaL UV (thAll P ver np)) (lL P (thAll P ver np)) (xL P (thAll P ver np)) := by
        refine OwnS.shl (w0 := w) ⟨owns_base J.out.own (by omega), J.out.below⟩ (by omega) fun j hj => ?_
        obtain ⟨h1, h2, _⟩ := (thAll_ok P ver np np (Nat.le_refl _)).at_ ((thAll P ver np).getD j (0, 0)) (by rw [List.getD_eq_getElem?_getD, List.getElem?_eq_getElem hj]; exact List.getElem_mem hj)
        exact (HL.out.up J.out.below).ints h1 h2
      have HS := hid hsl
      clear hsl
      go_wp2
      go_ret
      exact ⟨J.out.below, _, rfl, HS.out⟩

end Go.Proofs.YtjfnpjmhippdoafGreat

/- What package book makes of its own: a book, copied whole. -/
namespace Go.Proofs.YtjfnpjmhippdoafGreat

open Go.RowKit
set_option linter.unusedVariables false

/-- the copy, as far as it has come -/
structure WhInv (w wr : World) (ad : Option Addr) (n cap : Nat) (b : Bk) (g gc k : Nat) (PV : Nat → Value) : Prop where
  below : Below w.heap.size w wr
  bb : wr.heap[w.heap.size]? = some (.cells #[.slice ad n cap] 24 (0, 0))
  rr : wr.heap[w.heap.size + 1]? = some (.cells #[.slice none 0 0] 24 (0, 0))
  cc : wr.heap[gc]? = some (.cells #[.slice (some ⟨g, 0, none⟩) n n] 24 (0, 0))
  row : ∃ cs : Array Value, wr.heap[g]? = some (.cells cs 60 (0, 0)) ∧ cs.size = n * 4 ∧ ∀ i, i < k * 4 → cs[i]? = some (cellV PV b i)
  og : w.heap.size + 1 < g
  oc : g < gc
  lists : ∀ j, j < k → IntSl wr wr.heap.size (PV j) (b.PL j) (b.PX j) ∧ Above (g + 1) (PV j)

section

variable {w wr w' : World} {ad : Option Addr} {n cap : Nat} {b : Bk} {g gc k : Nat} {PV : Nat → Value}

theorem WhInv.up (h : WhInv w wr ad n cap b g gc k PV) (hb : Below wr.heap.size wr w') : WhInv w w' ad n cap b g gc k PV := by
  have lt : ∀ {i o}, wr.heap[i]? = some o → i < wr.heap.size := fun h => (Array.getElem?_eq_some_iff.1 h).1
  obtain ⟨cs, h1, h2, h3⟩ := h.row
  exact ⟨h.below.trans (hb.mono h.below.size), by rw [hb.block _ (lt h.bb)]; exact h.bb, by rw [hb.block _ (lt h.rr)]; exact h.rr, by rw [hb.block _ (lt h.cc)]; exact h.cc, ⟨cs, by rw [hb.block _ (lt h1)]; exact h1, h2, h3⟩, h.og, h.oc, fun j hj => ⟨(h.lists j hj).1.up hb, (h.lists j hj).2⟩⟩

theorem put4_block {w : World} {g o : Nat} {T : TypeId} {cs : Array Value} (h : w.heap[g]? = some (.cells cs T (0, 0))) (u0 u1 u2 u3 : Value) :
    (put4 w g o u0 u1 u2 u3).heap[g]? = some (.cells ((((cs.setIfInBounds o u0).setIfInBounds (o + 1) u1).setIfInBounds (o + 2) u2).setIfInBounds (o + 3) u3) T (0, 0)) := by
  simp [put4, World.setCell, Array.getElem?_modify, h]

theorem put4_heap {w : World} {g o i : Nat} (hi : i ≠ g) (u0 u1 u2 u3 : Value) : (put4 w g o u0 u1 u2 u3).heap[i]? = w.heap[i]? := by
  unfold put4
  rw [Below.heap_setCell _ _ _ _ hi, Below.heap_setCell _ _ _ _ hi, Below.heap_setCell _ _ _ _ hi, Below.heap_setCell _ _ _ _ hi]

theorem put4_size {w : World} {g o : Nat} (u0 u1 u2 u3 : Value) : (put4 w g o u0 u1 u2 u3).heap.size = w.heap.size := by
  simp [put4, World.setCell]

theorem IntSl.put4 {w : World} {g o : Nat} {v : Value} {m : Nat} {X : Nat → Int} (h : IntSl w w.heap.size v m X) (ha : Above (g + 1) v) (u0 u1 u2 u3 : Value) : IntSl (put4 w g o u0 u1 u2 u3) (put4 w g o u0 u1 u2 u3).heap.size v m X := by
  rw [put4_size]
  unfold Go.Proofs.YtjfnpjmhippdoafGreat.put4
  exact (((h.set ha _ _).set ha _ _).set ha _ _).set ha _ _

theorem WhInv.push {pv : Value} (h : WhInv w wr ad n cap b g gc k PV) (hk : k < n) (hl : IntSl wr wr.heap.size pv (b.PL k) (b.PX k)) (ha : Above (g + 1) pv) :
    WhInv w (put4 wr g (k * 4) pv (.int .i64 (b.nd k)) (.int .i64 (b.of k)) (.int .i64 (b.sz k))) ad n cap b g gc (k + 1) (fun j => if j = k then pv else PV j) := by
  have hog := h.og
  have hoc := h.oc
  obtain ⟨cs, h1, h2, h3⟩ := h.row
  refine ⟨below_put4 h.below (by omega) _ _ _ _ _, by rw [put4_heap (by omega)]; exact h.bb, by rw [put4_heap (by omega)]; exact h.rr, by rw [put4_heap (by omega)]; exact h.cc, ⟨_, put4_block h1 _ _ _ _, by simpa using h2, fun i hi => ?_⟩, h.og, h.oc, fun j hj => ?_⟩
  · have e4 : i / 4 < k ∨ i / 4 = k := by omega
    simp only [Array.getElem?_setIfInBounds, Array.size_setIfInBounds]
    by_cases c3 : k * 4 + 3 = i
    · rw [if_pos c3, if_pos (by omega)]
      unfold cellV
      rw [if_neg (by omega), if_neg (by omega), if_neg (by omega), show i / 4 = k by omega]
    rw [if_neg c3]
    by_cases c2 : k * 4 + 2 = i
    · rw [if_pos c2, if_pos (by omega)]
      unfold cellV
      rw [if_neg (by omega), if_neg (by omega), if_pos (by omega), show i / 4 = k by omega]
    rw [if_neg c2]
    by_cases c1 : k * 4 + 1 = i
    · rw [if_pos c1, if_pos (by omega)]
      unfold cellV
      rw [if_neg (by omega), if_pos (by omega), show i / 4 = k by omega]
    rw [if_neg c1]
    by_cases c0 : k * 4 = i
    · rw [if_pos c0, if_pos (by omega)]
      unfold cellV
      rw [if_pos (by omega), show i / 4 = k by omega]
      simp only [if_true]
    rw [if_neg c0, h3 i (by omega)]
    unfold cellV
    simp only [if_neg (by omega : ¬ i / 4 = k)]
  · by_cases e : j = k
    · subst e
      simp only [if_true]
      exact ⟨hl.put4 ha _ _ _ _, ha⟩
    · simp only [if_neg e]
      obtain ⟨g1, g2⟩ := h.lists j (by omega)
      exact ⟨g1.put4 g2 _ _ _ _, g2⟩

theorem WhInv.room (h : WhInv w wr ad n cap b g gc k PV) (i : Nat) (hi : i < n * 4) : (∃ u, wr.cell? ⟨g, i, none⟩ = some u) ∧ wr.frozen? ⟨g, i, none⟩ = false := by
  obtain ⟨cs, h1, h2, h3⟩ := h.row
  exact ⟨⟨cs[i]'(by omega), cell_at h1 (by simp [show i < cs.size by omega])⟩, frozen_at h1⟩

theorem WhInv.own (h : WhInv w wr ad n cap b g gc n PV) (hn : n ≤ 1000) : OwnV w wr (.slice (some ⟨g, 0, none⟩) n n) n PV b := by
  obtain ⟨cs, h1, h2, h3⟩ := h.row
  have hog := h.og
  refine ⟨⟨flatV_len _ _ _, Or.inr ⟨g, n, cs, rfl, by omega, h1, Nat.le_refl _, by unfold maxLen; omega, h2, ?_⟩⟩, h.below⟩
  apply List.ext_getElem?
  intro i
  rw [flatV_get, List.getElem?_take]
  by_cases hi : i < n * 4
  · rw [if_pos hi, if_pos hi]
    have := h3 i hi
    simpa using this
  · rw [if_neg hi, if_neg hi]

end

theorem OwnV.set {w wr : World} {n g gs : Nat} {PV : Nat → Value} {b : Bk} (h : OwnV w wr (.slice (some ⟨g, 0, none⟩) n n) n PV b) (hg : gs ≠ g) (hs : w.heap.size ≤ gs) (u : Value) : OwnV w (wr.setCell ⟨gs, 0, none⟩ u) (.slice (some ⟨g, 0, none⟩) n n) n PV b :=
  ⟨owns_set_other h.1 (by intro e; injection e with e; exact hg e.symm) _, h.2.setCell (p := ⟨gs, 0, none⟩) hs _⟩

/-- what 'whole' leaves -/
def WhPost (w : World) (n : Nat) (b : Bk) (e : Ending) (w' : World) : Prop :=
  ∃ (g : Nat) (PV : Nat → Value), e = .returned (bookV (.slice (some ⟨g, 0, none⟩) n n)) ∧ OwnV w w' (.slice (some ⟨g, 0, none⟩) n n) n PV b ∧ ∀ j, j < n → IntSl w' w'.heap.size (PV j) (b.PL j) (b.PX j) ∧ Above (g + 1) (PV j)

theorem made_row {w w' : World} {n : Nat} {b : Bk} (ho : w'.ownsRow w.heap.size 60 4 (.slice (some ⟨w.heap.size, 0, none⟩) n n) n (madeCells (Value.agg #[.slice none 0 0, .int .i64 0, .int .i64 0, .int .i64 0]).cells (n * 4)).toList) :
    ∃ cs : Array Value, w'.heap[w.heap.size]? = some (.cells cs 60 (0, 0)) ∧ cs.size = n * 4 ∧ ∀ i, i < 0 * 4 → cs[i]? = some (cellV (fun _ => undef) b i) := by
  obtain ⟨hl, h2⟩ := ho
  rcases h2 with ⟨h1, _⟩ | ⟨g', cap, cur, hv, _, hh, hc1, hc2, hsz, hcur⟩
  · cases h1
  · injection hv with e1 _ e3
    injection e1 with e1
    injection e1 with e1
    subst e1 e3
    exact ⟨cur, hh, hsz, fun i hi => by omega⟩

set_option maxHeartbeats 2000000 in
theorem bkWhole (v : Value) (n : Nat) (PV : Nat → Value) (b : Bk) (hn : n ≤ 1000) (w : World) (h : VeSl w w.heap.size v n PV b) :
    Calls Tryz.prog 54 #[bookV v] w (WhPost w n b) := by
  obtain ⟨ad, cap, rfl, ⟨hcap, hbig⟩, hx⟩ := h
  have hbA := ((Below.refl w.heap.size w).alloc (Nat.le_refl _) (.cells #[.slice ad n cap] 24)).alloc (by simp) (.cells #[.slice none 0 0] 24)
  obtain ⟨W, hW⟩ : ∃ W, (w.alloc (.cells #[.slice ad n cap] 24)).alloc (.cells #[.slice none 0 0] 24) = W := ⟨_, rfl⟩
  rw [hW] at hbA
  have k0 : W.heap[w.heap.size]? = some (.cells #[.slice ad n cap] 24 (0, 0)) := by rw [← hW]; exact heap_two_old w _ _
  have k1 : W.heap[w.heap.size + 1]? = some (.cells #[.slice none 0 0] 24 (0, 0)) := by rw [← hW]; exact heap_two_new w _ _
  have s0 : W.cell? ⟨w.heap.size, 0, none⟩ = some (.slice ad n cap) := cell_at k0 rfl
  have HX := hid hx
  obtain ⟨ii, hii, hz0, hz1, hz2⟩ := info_parts Tryz.infoVer
  have HBW := hid hbA
  have HK0 := hid k0
  have HK1 := hid k1
  clear hbA k0 k1 hx
  unfold bookV
  go_enter Tryz.func54, Tryz.ntmps54
  go_wp2_with (at_make; refine wpList_make_full _ rfl (.tmp 8) (.tmp 8) 22 rfl _ 60 ii (.agg #[.slice none 0 0, .int .i64 0, .int .i64 0, .int .i64 0]) 4 Tryz.underlying22 hii hz0 hz1 _ _ _ _ n rfl rfl rfl rfl (by rw [hz2]; omega) (by unfold maxLen; omega) (Nat.le_refl _) ?_; intro w1 ho1 hg1; have HM1 := hid (made_row (b := b) ho1); have HB1 := hid (below_of_grown hg1); have t0 : w1.cell? ⟨w.heap.size, 0, none⟩ = some (.slice ad n cap) := (HB1.out.cell (cell_lt s0)).trans s0; have l0 : w.heap.size < w1.heap.size := cell_lt t0; clear ho1 hg1)
  have J0 : Hid (WhInv w (w1.alloc (.cells #[.slice (some ⟨W.heap.size, 0, none⟩) n n] 24)) ad n cap b W.heap.size w1.heap.size 0 (fun _ => undef)) := by
    have hbz : Below W.heap.size W (w1.alloc (.cells #[.slice (some ⟨W.heap.size, 0, none⟩) n n] 24)) := HB1.out.alloc HB1.out.size _
    obtain ⟨cs, h1, h2, h3⟩ := HM1.out
    have l1 := (Array.getElem?_eq_some_iff.1 h1).1
    have l2 := (Array.getElem?_eq_some_iff.1 HK1.out).1
    exact ⟨HBW.out.trans (hbz.mono HBW.out.size), by rw [hbz.block _ (Nat.lt_of_succ_lt l2)]; exact HK0.out, by rw [hbz.block _ l2]; exact HK1.out, heap_alloc_new _ _, ⟨cs, by rw [Below.heap_alloc _ _ _ l1]; exact h1, h2, h3⟩, l2, l1, fun j hj => by omega⟩
  generalize W.heap.size = g at *
  generalize w1.heap.size = gc at *
  clear hW s0 HM1 HB1 t0 HK0 HK1 l0
  go_loopw [14] (fun iv wr => ∃ (k : Nat) (QV : Nat → Value), k ≤ n ∧ iv = .int .i64 k ∧ Hid (WhInv w wr ad n cap b g gc k QV)) (fun iv _ => n - (intOf iv).toNat)
  case atStart => exact ⟨0, _, Nat.zero_le _, rfl, J0⟩
  case round =>
    obtain ⟨k, QV, hk, rfl, J⟩ := hrel
    by_cases hlt : k < n
    · have hki : (k : Int) < (n : Int) := by omega
      rcases HX.out with h0 | ⟨bl, off, rfl, hbl, hx⟩
      · omega
      obtain ⟨x0, x1, x2, x3, x4⟩ := hx k hlt
      have HI : Hid (∀ w', Below w.heap.size w w' → IntSl w' w'.heap.size (PV k) (b.PL k) (b.PX k)) := fun w' hb => x4.up hb
      obtain ⟨ap, cp, hpe, _, _⟩ := x4
      rw [hpe] at x0 HI
      have g0 : wr.cell? ⟨bl, off + k * 4, none⟩ = some (.slice ap (b.PL k) cp) := by rw [J.out.below.cell hbl]; exact x0
      have g1 : wr.cell? ⟨bl, off + k * 4 + 1, none⟩ = some (.int .i64 (b.nd k)) := by rw [J.out.below.cell hbl]; exact x1
      have g2 : wr.cell? ⟨bl, off + k * 4 + 2, none⟩ = some (.int .i64 (b.of k)) := by rw [J.out.below.cell hbl]; exact x2
      have g3 : wr.cell? ⟨bl, off + k * 4 + 3, none⟩ = some (.int .i64 (b.sz k)) := by rw [J.out.below.cell hbl]; exact x3
      obtain ⟨U, hU⟩ : ∃ U, wr.alloc (.cells #[.slice ap (b.PL k) cp, .int .i64 (b.nd k), .int .i64 (b.of k), .int .i64 (b.sz k)] 60) = U := ⟨_, rfl⟩
      have hbU : Below wr.heap.size wr U := by rw [← hU]; exact below_alloc _ _
      have hUh : U.heap[wr.heap.size]? = some (.cells #[.slice ap (b.PL k) cp, .int .i64 (b.nd k), .int .i64 (b.of k), .int .i64 (b.sz k)] 60 (0, 0)) := by rw [← hU]; exact heap_alloc_new _ _
      have JU := hid (J.out.up hbU)
      obtain ⟨y0, y1, y2, y3⟩ := four_at hUh
      have yc : U.cell? ⟨gc, 0, none⟩ = some (.slice (some ⟨g, 0, none⟩) n n) := cell_at JU.out.cc rfl
      have hne : Nonempty (Of (Below U.heap.size U)) := ⟨⟨U, Below.refl _ _⟩⟩
      have F0 : ∀ u : Of (Below U.heap.size U), u.val.cell? ⟨wr.heap.size, 0, none⟩ = some (.slice ap (b.PL k) cp) := fun u => by rw [u.is.cell (cell_lt y0)]; exact y0
      have F1 : ∀ u : Of (Below U.heap.size U), u.val.cell? ⟨wr.heap.size, 1, none⟩ = some (.int .i64 (b.nd k)) := fun u => by rw [u.is.cell (cell_lt y1)]; exact y1
      have F2 : ∀ u : Of (Below U.heap.size U), u.val.cell? ⟨wr.heap.size, 2, none⟩ = some (.int .i64 (b.of k)) := fun u => by rw [u.is.cell (cell_lt y2)]; exact y2
      have F3 : ∀ u : Of (Below U.heap.size U), u.val.cell? ⟨wr.heap.size, 3, none⟩ = some (.int .i64 (b.sz k)) := fun u => by rw [u.is.cell (cell_lt y3)]; exact y3
      have F4 : ∀ u : Of (Below U.heap.size U), u.val.cell? ⟨gc, 0, none⟩ = some (.slice (some ⟨g, 0, none⟩) n n) := fun u => by rw [u.is.cell (cell_lt yc)]; exact yc
      have HD0 : Hid (Below U.heap.size U U.drew) := ⟨rfl, rfl, rfl, Nat.le_refl _, fun _ _ => rfl⟩
      have hgU : g < U.heap.size := by
        obtain ⟨cs, h1, _⟩ := JU.out.row
        exact (Array.getElem?_eq_some_iff.1 h1).1
      clear x0 x1 x2 x3 hx hpe hbU hUh y0 y1 y2 y3 yc
      go_wp2_with fail
      refine region_mixed_last (Below U.heap.size U) [([0, 1, 2, 3], 4)] [5] 6 (by kernel_rfl) (by kernel_rfl) HD0.out ?_
      refine mixO_cons (by simp only [pickO, List.getElem?_cons_zero, List.getElem?_cons_succ]; exact rfl) (by simp only [pickO, List.getElem?_cons_zero, List.getElem?_cons_succ]; exact rfl) ?_
      repeat (go_big_quiet_step (fail))
      refine wpQuiet_nil ?_
      intro K hK
      go_wp2_with fail
      refine Calls.mono (bkOwn _ _ _ (b.nd k) (b.of k) (b.sz k) _ (HI.out _ (JU.out.below.trans (HD0.out.mono JU.out.below.size)))) ?_
      rintro e w2 ⟨hb2, pv, rfl, hl2, ha2⟩
      have hbb : Below U.heap.size U w2 := HD0.out.trans (hb2.mono HD0.out.size)
      have HBb := hid hbb
      have J2 := hid (JU.out.up hbb)
      have HL2 := hid hl2
      have HA2 : Hid (Above (g + 1) pv) := ha2.mono' hgU
      clear hb2 hl2 ha2 hbb
      unfold verV
      go_wp2
      refine ⟨rfl, hK _ _ HBb.out ?_⟩
      clear hK K
      refine mixO_last (by simp only [pickO, List.getElem?_cons_zero, List.getElem?_cons_succ]; exact rfl) (by simp only [pickO, List.getElem?_cons_zero, List.getElem?_cons_succ]; exact rfl) ?_
      repeat (go_big_quiet_step (fail))
      refine wpQuiet_nil ?_
      obtain ⟨⟨u0, c0⟩, f0⟩ := J2.out.room (k * 4) (by omega)
      obtain ⟨⟨u1, c1⟩, f1⟩ := J2.out.room (k * 4 + 1) (by omega)
      obtain ⟨⟨u2, c2⟩, f2⟩ := J2.out.room (k * 4 + 2) (by omega)
      obtain ⟨⟨u3, c3⟩, f3⟩ := J2.out.room (k * 4 + 3) (by omega)
      obtain ⟨aq, cq, hpv, _, _⟩ := HL2.out
      subst hpv
      clear F0 F1 F2 F3 F4
      go_wp2
      go_roundw
      case rel => exact ⟨k + 1, _, by omega, by go_num, J2.out.push hlt HL2.out HA2.out⟩
      case measure => simp only [intOf]; omega
    · have hke : n = k := by omega
      subst hke
      have r1 := cell_at (i := 0) J.out.rr rfl
      have q1 := frozen_at (i := 0) J.out.rr
      have c1 := cell_at (i := 0) J.out.cc rfl
      go_wp2
      have hJ := J.out
      have hog := hJ.og
      have hH := set_one hJ.rr (.slice (some ⟨g, 0, none⟩) n n)
      refine bodyPost_ret (results_cell_row rfl _ _ (w.heap.size + 1) 24 #[.slice (some ⟨g, 0, none⟩) n n] (0, 0) _ rfl hH Tryz.underlying24 rfl (by kernel_rfl)) rfl ?_
      exact ⟨g, QV, rfl, (hJ.own hn).set (by omega) (by omega) _, fun j hj => ⟨by have := (hJ.lists j hj).1.set (bs := w.heap.size + 1) ((hJ.lists j hj).2.mono' (by omega)) 0 (.slice (some ⟨g, 0, none⟩) n n); simpa [World.setCell] using this, (hJ.lists j hj).2⟩⟩

end Go.Proofs.YtjfnpjmhippdoafGreat
