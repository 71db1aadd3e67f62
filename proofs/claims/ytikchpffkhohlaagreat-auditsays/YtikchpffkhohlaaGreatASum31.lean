/- Several texts of one proof, in their order. -/
import Derived.Test.YtikchpffkhohlaaGreatASum30
import Derived.Test.YtikchpffkhohlaaGreatASum18
import Derived.Test.YtikchpffkhohlaaGreatASum6
import Derived.Test.YtikchpffkhohlaaGreatASum20

namespace Go.Proofs.YtikchpffkhohlaaGreat

open Go.RowKit Go.Maps CurveMath
set_option linter.unusedVariables false

theorem CntM.look {w : World} {g m : Nat} {c : Int → Int} (h : CntM w g m c) {x : Int} (hx : 0 ≤ x ∧ x ≤ 1000) : (Instr.lookup 106 (.map (some g)) (.int .i64 x) false).run Tryz.prog w = .ok (.int .i64 (c x)) w := by
  obtain ⟨D, hD, hat⟩ := h
  obtain ⟨v, hrun, hv, _⟩ := hD.lookup_int (t := 106) (e := 3) keyedInt Tryz.underlying106 Tryz.underlying3 (zeroInt w) (keyInt hx)
  rw [cnt_val hat hv] at hrun
  exact hrun

theorem IntSl.grownC {w w' : World} {B g m l : Nat} {c : Int → Int} {v : Value} {X : Nat → Int} (h : IntSl w B v l X) (hm : CntM w g m c) (hg : w.grownBy w' (some g)) : IntSl w' B v l X := by
  obtain ⟨ad, cap, rfl, h0, h2⟩ := h
  refine ⟨ad, cap, rfl, h0, ?_⟩
  rcases h2 with h2 | ⟨b, off, rfl, h4, h5⟩
  · exact Or.inl h2
  · exact Or.inr ⟨b, off, rfl, h4, fun j hj => hg.cell (h5 j hj) (by intro e; injection e with e; exact hm.ne (h5 j hj) e)⟩

theorem KeSl.grownC {w w' : World} {B g m l : Nat} {c : Int → Int} {v : Value} {UV : Nat → Value} {t : Kt} (h : KeSl w B v l UV t) (hm : CntM w g m c) (hg : w.grownBy w' (some g)) : KeSl w' B v l UV t := by
  obtain ⟨ad, cap, rfl, h0, h2⟩ := h
  refine ⟨ad, cap, rfl, h0, ?_⟩
  rcases h2 with h2 | ⟨b, off, rfl, h4, h5⟩
  · exact Or.inl h2
  · refine Or.inr ⟨b, off, rfl, h4, fun j hj => ?_⟩
    obtain ⟨x0, x1, x2, x3⟩ := h5 j hj
    exact ⟨hg.cell x0 (by intro e; injection e with e; exact hm.ne x0 e), hg.cell x1 (by intro e; injection e with e; exact hm.ne x1 e), hg.cell x2 (by intro e; injection e with e; exact hm.ne x2 e), x3.grownC hm hg⟩

theorem grown_set {w : World} {g o : Nat} {u : Value} : w.grownBy (w.setCell ⟨g, o, none⟩ u) (some g) :=
  ⟨rfl, rfl, rfl, by simp [World.setCell], fun k hk hkg => Below.heap_setCell _ _ _ _ (by show k ≠ g; intro e; exact hkg (by rw [e]))⟩

structure SfInv (w wr : World) (ab : Option Addr) (n cb : Nat) (al : Option Addr) (np cl g gs : Nat) (KV : Nat → Value) (UV : Nat → Nat → Value) (P : Ps) (T : List Int) (M : Nat) : Prop where
  below : Below w.heap.size w wr
  box : wr.heap[w.heap.size]? = some (.cells #[.slice ab n cb, .slice al np cl] 27 (0, 0))
  map : ∃ (mm : Nat) (c : Int → Int), mm ≤ M ∧ CntM wr gs mm c ∧ (∀ x, 0 ≤ c x ∧ c x ≤ (M : Int)) ∧ ∀ x, c x = 0 ↔ T.contains x = false
  row : RowP wr g np KV P
  kept : ∀ k, k < np → KeSl wr wr.heap.size (KV k) (P.m k) (UV k) (P.t k)
  ge : w.heap.size < gs ∧ (1 ≤ np → w.heap.size < g)

section

variable {w wr w' : World} {ab : Option Addr} {n cb : Nat} {al : Option Addr} {np cl g gs : Nat} {KV : Nat → Value} {UV : Nat → Nat → Value} {P P' : Ps} {T T' : List Int} {M : Nat}

theorem SfInv.up (h : SfInv w wr ab n cb al np cl g gs KV UV P T M) (hb : Below wr.heap.size wr w') : SfInv w w' ab n cb al np cl g gs KV UV P T M := by
  obtain ⟨mm, c, h0, h1, h2⟩ := h.map
  exact ⟨h.below.trans (hb.mono h.below.size), stayB h.box hb, ⟨mm, c, h0, h1.up hb, h2⟩, h.row.up hb, fun k hk => (h.kept k hk).up hb, h.ge⟩

theorem SfInv.more (h : SfInv w wr ab n cb al np cl g gs KV UV P T M) : SfInv w wr ab n cb al np cl g gs KV UV P T (M + 1) := by
  obtain ⟨mm, c, h0, h1, h2, h3⟩ := h.map
  exact ⟨h.below, h.box, ⟨mm, c, by omega, h1, fun x => by have := h2 x; omega, h3⟩, h.row, h.kept, h.ge⟩

theorem SfInv.slices (h : SfInv w wr ab n cb al np cl g gs KV UV P T M) {q : Nat} (hq : q < np) : ∃ a c, KV q = .slice a (P.m q) c := by
  obtain ⟨a, c, e, _⟩ := h.kept q hq
  exact ⟨a, c, e⟩

theorem SfInv.put (h : SfInv w wr ab n cb al np cl g gs KV UV P T M) {q : Nat} (hq : q < np) {r : Value} {UR : Nat → Value} (e1 : P'.th = P.th) (e2 : P'.rm = P.rm) (e3 : ∀ k, k < np → k ≠ q → P'.m k = P.m k ∧ P'.t k = P.t k)
    (hr : KeSl wr wr.heap.size r (P'.m q) UR (P'.t q)) : SfInv w (wr.setCell ⟨g, q * 3 + 2, none⟩ r) ab n cb al np cl g gs (fun k => if k = q then r else KV k) (fun k => if k = q then UR else UV k) P' T M := by
  obtain ⟨mm, c, h0, h1, h2⟩ := h.map
  obtain ⟨c1, c2, c3⟩ := h.row.cell q hq
  obtain ⟨ak, ck, hsl⟩ := h.slices hq
  rw [hsl] at c3
  have hgg : w.heap.size < g := h.ge.2 (by omega)
  have hne : g ≠ gs := h1.ne c1
  refine ⟨h.below.setCell (p := ⟨g, q * 3 + 2, none⟩) (by show w.heap.size ≤ g; omega) r, ?_, ⟨mm, c, h0, h1.kept grown_set (by intro e; injection e with e; exact hne e.symm), h2⟩, h.row.put hq r (fun k _ => by rw [e1]) (fun k _ => by rw [e2]), fun k hk => ?_, h.ge⟩
  · rw [Below.heap_setCell _ _ _ _ (by show w.heap.size ≠ g; omega)]; exact h.box
  · have hz : (wr.setCell ⟨g, q * 3 + 2, none⟩ r).heap.size = wr.heap.size := by simp [World.setCell]
    rw [hz]
    by_cases e : k = q
    · subst e
      simp only [if_true]
      exact kel_slice hr c3 c1 r
    · simp only [if_neg e]
      rw [(e3 k hk e).1, (e3 k hk e).2]
      exact kel_slice (h.kept k hk) c3 c1 r

theorem SfInv.count (h : SfInv w wr ab n cb al np cl g gs KV UV P T M) (hg : wr.grownBy w' (some gs)) {mm : Nat} {c : Int → Int} (hmm : mm ≤ M + 1) (hm : CntM w' gs mm c) (hc : (∀ x, 0 ≤ c x ∧ c x ≤ ((M + 1 : Nat) : Int)) ∧ ∀ x, c x = 0 ↔ T'.contains x = false) : SfInv w w' ab n cb al np cl g gs KV UV P T' (M + 1) := by
  obtain ⟨m0, c0, _, h1, _⟩ := h.map
  have hgs := h.ge.1
  refine ⟨h.below.grown hg h.below.size (fun k hk => by injection hk with hk; omega), ?_, ⟨mm, c, hmm, hm, hc.1, hc.2⟩, ⟨fun k hk => ?_, fun i hi => ?_, Nat.lt_of_lt_of_le h.row.lt hg.size⟩, fun k hk => ((h.kept k hk).grownC h1 hg).mono hg.size, h.ge⟩
  · rw [hg.block _ (Array.getElem?_eq_some_iff.1 h.box).1 (by intro e; injection e with e; omega)]; exact h.box
  · obtain ⟨q1, q2, q3⟩ := h.row.cell k hk
    have hne : some g ≠ some gs := by intro e; injection e with e; exact h1.ne q1 e
    exact ⟨hg.cell q1 hne, hg.cell q2 hne, hg.cell q3 hne⟩
  · have hnp : 0 < np := by omega
    have hne : some g ≠ some gs := by intro e; injection e with e; exact h1.ne (h.row.cell 0 hnp).1 e
    rw [← h.row.free i hi]
    exact World.frozen?_of_block (hg.block _ h.row.lt hne)

end

def SiftPost (w : World) (np : Nat) (Q : Ps) (L : List Nat) (R : Nat) (S : Nat → Nat → Int) (e : Ending) (w' : World) : Prop :=
  Below w.heap.size w w' ∧ ∃ (vl vo : Value) (KV : Nat → Value) (UV : Nat → Nat → Value) (SV : Nat → Value), e = .returned (.tuple #[vl, vo, .int .i64 0]) ∧ PsSl w' w'.heap.size vl np KV UV Q ∧
    ShSl w' w'.heap.size vo L.length (fun i => ((L.getD i 0 : Nat) : Int)) SV (fun _ => R) (fun i => S (L.getD i 0))

set_option maxHeartbeats 16000000 in
set_option maxRecDepth 10000 in
theorem msSift (vb : Value) (n : Nat) (PV : Nat → Value) (b : Bk) (vl : Value) (np : Nat) (KV : Nat → Value) (UV : Nat → Nat → Value) (P : Ps) (ver : Int) (vs : Value) (mo R : Nat) (SV : Nat → Value) (S : Nat → Nat → Int) (w : World)
    (hv : VeSl w w.heap.size vb n PV b) (hl : PsSl w w.heap.size vl np KV UV P) (hs : ShSl w w.heap.size vs mo (fun k => (k : Int)) SV (fun _ => R) S) (hR : MeshR n b np P) (hmo : mo ≤ 8) (hN : ∀ k, k < np → hasK P ver k = true → numK P ver k < (mo : Int)) :
    Calls Tryz.prog 40 #[meshV vb vl, .int .i64 ver, vs] w (SiftPost w np (repP P ver R S np) (lackK (repS P ver R S np) mo) R S) := by
  have HV := hid hv
  have HL := hid hl
  have HSh := hid hs
  have HR := hid hR
  have HNl := hid hN
  have h8 := hR.few
  obtain ⟨ab, cb, rfl, _, _⟩ := hv
  obtain ⟨al, cl, rfl, _, _⟩ := hl
  obtain ⟨ash, csh, rfl, _, hxs⟩ := hs
  have HXs := hid hxs
  obtain ⟨ii, hii, hz0, hz1, hz2⟩ := info_parts Tryz.infoShare
  have hb0 := below_alloc w (.cells #[.slice ab n cb, .slice al np cl] 27)
  have k0 := heap_alloc_new w (.cells #[.slice ab n cb, .slice al np cl] 27)
  obtain ⟨W, hW⟩ : ∃ W, w.alloc (.cells #[.slice ab n cb, .slice al np cl] 27) = W := ⟨_, rfl⟩
  rw [hW] at hb0 k0
  have CC := hid (cloneP (HL.out.up hb0) (by omega))
  obtain ⟨m0, m1⟩ := two_at k0
  have B0 := hid hb0
  have K0 := hid k0
  clear hb0 k0 hxs hR hN
  have hmm := @run_makeMap Tryz.prog
  unfold meshV
  go_enter Tryz.func40, Tryz.ntmps40
  go_wp2_with fail
  refine Calls.mono CC.out ?_
  rintro e W2 ⟨v2, rfl, hown, hb2⟩
  have hwW : w.heap.size < W.heap.size := (Array.getElem?_eq_some_iff.1 K0.out).1
  obtain ⟨av, g, cap, rfl, hav, hcap, hrow⟩ := rowP_any hown (g0 := w.heap.size) (by have := hb2.size; omega)
  have B2 := hid (B0.out.trans (hb2.mono B0.out.size))
  have hbM := below_alloc W2 (.map #[] 0)
  have hcm := cntM_made W2
  obtain ⟨Y, hY⟩ : ∃ u, World.alloc W2 (.map #[] 0) = u := ⟨_, rfl⟩
  rw [hY] at hbM hcm
  have e1 := stayB (stayB K0.out hb2) hbM
  have J0 : Hid (SfInv w Y ab n cb al np cl g W2.heap.size KV UV (repP P ver R S 0) (repS P ver R S 0) 0) := by
    show SfInv _ _ _ _ _ _ _ _ _ _ _ _ _ _ _
    rw [repP_zero]
    exact ⟨B2.out.trans (hbM.mono B2.out.size), e1, ⟨0, _, Nat.le_refl _, hcm, fun x => ⟨Int.le_refl _, Int.le_refl _⟩, fun x => ⟨fun _ => rfl, fun _ => rfl⟩⟩, hrow.up hbM, fun k hk => by
      obtain ⟨_, _, _, _, _, _, _, hke⟩ := HL.out.at hk
      exact (hke.up B2.out).up hbM, ⟨by have := hb2.size; omega, fun h => by have := (hav h).2; omega⟩⟩
  obtain ⟨gs, hgs⟩ : ∃ q, W2.heap.size = q := ⟨_, rfl⟩
  rw [hgs] at J0
  have HAv : Hid (1 ≤ np → av = some ⟨g, 0, none⟩) := fun h => (hav h).1
  have HCap := hid hcap
  clear hown hb2 hav hrow hbM hcm hcap CC m0 m1
  obtain ⟨m0, m1⟩ := two_at e1
  clear e1
  go_wp2
  clear m0 m1 hmm hY hgs
  go_loopw [26] (fun iv wr => ∃ (kk : Nat) (KVi : Nat → Value) (UVi : Nat → Nat → Value), kk ≤ np ∧ iv = .int .i64 kk ∧ Hid (SfInv w wr ab n cb al np cl g gs KVi UVi (repP P ver R S kk) (repS P ver R S kk) kk)) (fun iv _ => np - (intOf iv).toNat)
  case atStart => exact ⟨0, KV, UV, Nat.zero_le _, rfl, J0⟩
  case round =>
    obtain ⟨kk, KVi, UVi, hkk, rfl, J⟩ := hrel
    by_cases hlt : kk < np
    · have hki : (kk : Int) < (np : Int) := by omega
      obtain ⟨bl, off, rfl, hbl, g0, g1, g2, g3⟩ := (HL.out.up J.out.below).at hlt
      have G3 := hid g3
      obtain ⟨ak, ck, hke, _, _⟩ := g3
      rw [hke] at g2 G3
      have hbA := below_alloc wr (.cells #[.bool (P.th kk), .int .i64 (P.rm kk), .slice ak (P.m kk) ck] 47)
      have kp := heap_alloc_new wr (.cells #[.bool (P.th kk), .int .i64 (P.rm kk), .slice ak (P.m kk) ck] 47)
      obtain ⟨W1, hW1⟩ : ∃ u, wr.alloc (.cells #[.bool (P.th kk), .int .i64 (P.rm kk), .slice ak (P.m kk) ck] 47) = u := ⟨_, rfl⟩
      rw [hW1] at hbA kp
      obtain ⟨p0, p1, p2⟩ := three_at kp
      obtain ⟨bp, hbp⟩ : ∃ q, wr.heap.size = q := ⟨_, rfl⟩
      rw [hbp] at kp p0 p1 p2
      have KP := hid kp
      have JA := hid (J.out.up hbA)
      have GA := hid (G3.out.up hbA)
      have CS := hid (msShows (P.th kk) (P.rm kk) _ (P.m kk) (UV kk) (P.t kk) ver W1 GA.out)
      have hhk : hasV (P.th kk) (P.t kk) ver (P.m kk) = hasK P ver kk := rfl
      have hsk : shownV (P.th kk) (UV kk) (P.t kk) ver (P.m kk) = if hasK P ver kk = true then .agg #[.int .i64 (numK P ver kk), UV kk (atK P ver kk)] else .agg #[.int .i64 0, .slice none 0 0] := rfl
      rw [hhk, hsk] at CS
      have HNum : Hid (hasK P ver kk = true → (0 ≤ numK P ver kk ∧ numK P ver kk < (mo : Int)) ∧ ∀ u, Below w.heap.size w u → IntSl u u.heap.size (UV kk (atK P ver kk)) ((P.t kk).L (atK P ver kk)) ((P.t kk).X (atK P ver kk))) := fun hh => by
        obtain ⟨_, h1, _⟩ := hasK_at hh
        exact ⟨⟨(HR.out.num kk _ hlt h1).1, HNl.out kk hlt hh⟩, fun u hu => (HL.out.up hu).ints hlt h1⟩
      unfold peerV at CS
      clear hbA kp hke hhk hsk J G3
      cases hh : hasK P ver kk with
      | false =>
        rw [hh, if_neg (by decide)] at CS
        obtain ⟨r1, r2⟩ := rep_none (R := R) (S := S) hh
        have RN : Hid (SfInv w W1 ab n cb (some ⟨bl, off, none⟩) np cl g gs KVi UVi (repP P ver R S (kk + 1)) (repS P ver R S (kk + 1)) (kk + 1)) := by show SfInv _ _ _ _ _ _ _ _ _ _ _ _ _ _ _; rw [repP_keep r1, r2]; exact JA.out.more
        clear hh r1 r2
        go_wp2_with fail
        refine Calls.mono CS.out ?_
        rintro e w2 ⟨rfl, hb2⟩
        have hb3 := hb2.alloc hb2.size (.cells #[.int .i64 0, .slice none 0 0] 53)
        have JB := hid (RN.out.up hb3)
        clear hb2 hb3 CS p0 p1 p2
        go_wp2
        go_roundw
        case rel => exact ⟨kk + 1, KVi, UVi, by omega, by go_num, JB⟩
        case measure => simp only [intOf]; omega
      | true =>
        obtain ⟨hNb, hIx⟩ := HNum.out hh
        obtain ⟨N, hNe⟩ : ∃ N : Nat, numK P ver kk = (N : Int) := ⟨(numK P ver kk).toNat, by omega⟩
        have hNm : N < mo := by omega
        have hNi : (N : Int) < (mo : Int) := by omega
        have hNk : 0 ≤ (N : Int) ∧ (N : Int) ≤ 1000 := by omega
        have HIx := hid hIx
        obtain ⟨au, cu, hue, _, _⟩ := hIx w (Below.refl _ _)
        rw [hue] at HIx
        rw [hh, if_pos rfl, hNe, hue] at CS
        have HH := hid hh
        have HNm := hid hNe
        have hgood : goodK P ver R S kk = sameB (N : Int) (N : Int) ((P.t kk).L (atK P ver kk)) R ((P.t kk).X (atK P ver kk)) (S N) := by unfold goodK; rw [hNe, Int.toNat_natCast]
        have HGd := hid hgood
        clear hh hNe hue hNb hIx hgood
        go_wp2_with fail
        refine Calls.mono CS.out ?_
        rintro e w2 ⟨rfl, hb2⟩
        have hb3 := hb2.alloc hb2.size (.cells #[.int .i64 (N : Int), .slice au ((P.t kk).L (atK P ver kk)) cu] 53)
        have k9 := heap_alloc_new w2 (.cells #[.int .i64 (N : Int), .slice au ((P.t kk).L (atK P ver kk)) cu] 53)
        obtain ⟨W3, hW3⟩ : ∃ u, w2.alloc (.cells #[.int .i64 (N : Int), .slice au ((P.t kk).L (atK P ver kk)) cu] 53) = u := ⟨_, rfl⟩
        rw [hW3] at hb3 k9
        obtain ⟨bq, hbq⟩ : ∃ q, w2.heap.size = q := ⟨_, rfl⟩
        rw [hbq] at k9
        have JB := hid (JA.out.up hb3)
        have GB := hid (GA.out.up hb3)
        have KPB := hid (stayB KP.out hb3)
        have K9 := hid k9
        clear p0 p1 p2
        obtain ⟨p0, p1, p2⟩ := three_at KPB.out
        obtain ⟨s0, s1⟩ := two_at k9
        obtain ⟨mm, c, h0, hcm, hc2, hc3⟩ := JB.out.map
        have HCm := hid hcm
        have HC2 := hid hc2
        have HC3 := hid hc3
        have hcq := hc3 (N : Int)
        obtain ⟨cx, hcx⟩ : ∃ cx, c (N : Int) = cx := ⟨_, rfl⟩
        have HCx := hid hcx
        rw [hcx] at hcq
        have hbd := hc2 (N : Int)
        rw [hcx] at hbd
        rcases HXs.out with h9 | ⟨bs, os, rfl, hbs, hxs⟩
        · omega
        obtain ⟨x1, x2, x3⟩ := hxs N hNm
        have HIs : Hid (∀ u, Below w.heap.size w u → IntSl u u.heap.size (SV N) R (S N)) := fun u hu => x3.up hu
        obtain ⟨av9, cv9, hve, _, _⟩ := x3
        rw [hve] at x2 HIs
        have t1 : W3.cell? ⟨bs, os + N * 2, none⟩ = some (.int .i64 (N : Int)) := by rw [JB.out.below.cell hbs]; exact x1
        have t2 : W3.cell? ⟨bs, os + N * 2 + 1, none⟩ = some (.slice av9 R cv9) := by rw [JB.out.below.cell hbs]; exact x2
        have hne : Nonempty (Of (Below W3.heap.size W3)) := ⟨⟨W3, Below.refl _ _⟩⟩
        have F0 : ∀ u : Of (Below W3.heap.size W3), u.val.cell? ⟨bq, 0, none⟩ = some (.int .i64 (N : Int)) := fun u => by rw [u.is.cell (cell_lt s0)]; exact s0
        have F1 : ∀ u : Of (Below W3.heap.size W3), u.val.cell? ⟨bq, 1, none⟩ = some (.slice au ((P.t kk).L (atK P ver kk)) cu) := fun u => by rw [u.is.cell (cell_lt s1)]; exact s1
        have F2 : ∀ u : Of (Below W3.heap.size W3), u.val.cell? ⟨bs, os + N * 2, none⟩ = some (.int .i64 (N : Int)) := fun u => by rw [u.is.cell (cell_lt t1)]; exact t1
        have F3 : ∀ u : Of (Below W3.heap.size W3), u.val.cell? ⟨bs, os + N * 2 + 1, none⟩ = some (.slice av9 R cv9) := fun u => by rw [u.is.cell (cell_lt t2)]; exact t2
        have F4 : ∀ u : Of (Below W3.heap.size W3), (Instr.lookup 106 (.map (some gs)) (.int .i64 (N : Int)) false).run Tryz.prog u.val = .ok (.int .i64 cx) u.val := fun u => by have h := (HCm.out.up u.is).look hNk; rw [HCx.out] at h; exact h
        have HD1 : Hid (Below W3.heap.size W3 W3.drew) := drew_below W3
        clear hb2 hb3 CS hcm hc2 hc3 hcx k9 x1 x2 hve hxs t1 t2
        by_cases hc0 : cx = 0
        · subst hc0
          have hct := hcq.1 rfl
          have HCt := hid hct
          clear hct hcq
          go_wp2_with fail
          refine region_mixed (Below W3.heap.size W3) [([0, 1, 2, 3, 4, 5, 6, 7, 8, 9, 10, 11], 12)] [13] (by kernel_rfl) (by kernel_rfl) HD1.out ?_
          refine mixO_cons (by simp only [pickO, List.getElem?_cons_zero, List.getElem?_cons_succ]; exact rfl) (by simp only [pickO, List.getElem?_cons_zero, List.getElem?_cons_succ]; exact rfl) ?_
          repeat (go_big_quiet_step (fail))
          refine wpQuiet_nil ?_
          intro K hK
          go_wp2_with fail
          have CE := hid (owes.same (N : Int) (N : Int) _ _ ((P.t kk).L (atK P ver kk)) R ((P.t kk).X (atK P ver kk)) (S N) W3.drew (HIx.out _ (JB.out.below.trans (HD1.out.mono JB.out.below.size))) (HIs.out _ (JB.out.below.trans (HD1.out.mono JB.out.below.size))))
          obtain ⟨sb, hsb⟩ : ∃ t, sameB (N : Int) (N : Int) ((P.t kk).L (atK P ver kk)) R ((P.t kk).X (atK P ver kk)) (S N) = t := ⟨_, rfl⟩
          rw [hsb] at CE
          have HSb := hid hsb
          unfold shareV at CE
          clear hsb
          refine Calls.mono CE.out ?_
          rintro e U3 ⟨rfl, hb3⟩
          have H3 : Hid (Below W3.heap.size W3 U3) := HD1.out.trans (hb3.mono HD1.out.size)
          clear hb3 CE
          go_wp2
          refine ⟨rfl, hK _ _ H3.out ?_⟩
          clear hK K
          cases sb with
          | false =>
            refine mixO_nil (by simp only [pickO, List.getElem?_cons_zero, List.getElem?_cons_succ]; exact rfl) ?_
            repeat (go_big_quiet_step (fail))
            refine wpQuiet_nil ?_
            clear F0 F1 F2 F3 F4 hne s0 s1 p0 p1 p2
            have hbad : (goodK P ver R S kk && !(repS P ver R S kk).contains (numK P ver kk)) = false := by rw [HGd.out, HNm.out, HSb.out]; rfl
            obtain ⟨g1, g2⟩ := rep_bad HH.out hbad
            have HG1 := hid g1
            have HG2 := hid g2
            have JU := hid (JB.out.up H3.out)
            have GU := hid (GB.out.up H3.out)
            obtain ⟨c0, c1⟩ := two_at JU.out.box
            obtain ⟨p0, p1, p2⟩ := three_at (stayB KPB.out H3.out)
            have CD := hid (peDrop _ n PV b (P.th kk) (P.rm kk) _ (P.m kk) _ (P.t kk) ver U3 (HV.out.up JU.out.below) GU.out)
            unfold bookV peerV at CD
            have hav := HAv.out (by omega)
            subst hav
            clear g1 g2 hbad
            go_wp2_with fail
            refine Calls.mono CD.out ?_
            rintro e U4 hDr
            obtain ⟨hb4, ar, cr, UR, rfl, hkr, _⟩ := drop_opened (HR.out.peer kk hlt).e hDr
            have J4 := hid (JU.out.up hb4)
            have HKr := hid hkr
            obtain ⟨z1, z2, z3⟩ := J4.out.row.cell kk hlt
            obtain ⟨ak9, ck9, hKq⟩ := J4.out.slices hlt
            rw [hKq] at z3
            have z1' : U4.cell? ⟨g, kk * 3, none⟩ = some (.bool (P.th kk)) := z1
            have z2' : U4.cell? ⟨g, kk * 3 + 1, none⟩ = some (.int .i64 (P.rm kk)) := z2
            have S1 := setCell_same z1'
            have S2 := setCell_same z2'
            have f1 := J4.out.row.free (kk * 3) (by omega)
            have f2 := J4.out.row.free (kk * 3 + 1) (by omega)
            have f3 := J4.out.row.free (kk * 3 + 2) (by omega)
            have HYg : Hid (SfInv w (U4.setCell ⟨g, kk * 3 + 2, none⟩ (.slice ar (butL (P.t kk) ver (P.m kk)).length cr)) ab n cb (some ⟨bl, off, none⟩) np cl g gs (fun k => if k = kk then .slice ar (butL (P.t kk) ver (P.m kk)).length cr else KVi k) (fun k => if k = kk then UR else UVi k) (repP P ver R S (kk + 1)) (repS P ver R S (kk + 1)) (kk + 1)) := by
              show SfInv _ _ _ _ _ _ _ _ _ _ _ _ _ _ _
              rw [HG2.out]
              obtain ⟨h9, h8⟩ := repP_drop HG1.out
              refine (J4.out.put (P' := repP P ver R S (kk + 1)) hlt rfl rfl (fun k _ hkq => h8 k hkq) ?_).more
              rw [h9.1, h9.2]
              exact HKr.out
            clear hDr hb4 hkr hKq z1 z2 c0 c1 p0 p1 p2
            go_wp2
            clear z1' z2' z3 S1 S2 f1 f2 f3
            go_roundw
            case rel => exact ⟨kk + 1, _, _, by omega, by go_num, HYg⟩
            case measure => simp only [intOf]; omega
          | true =>
            refine mixO_nil (by simp only [pickO, List.getElem?_cons_zero, List.getElem?_cons_succ]; exact rfl) ?_
            repeat (go_big_quiet_step (fail))
            refine wpQuiet_nil ?_
            clear F0 F1 F2 F3 F4 hne s0 s1 p0 p1 p2
            obtain ⟨g1, g2⟩ := rep_good (k := kk) HH.out (by rw [HGd.out]; exact HSb.out) (by rw [HNm.out]; exact HCt.out)
            rw [HNm.out] at g2
            have HG1 := hid g1
            have HG2 := hid g2
            have JU := hid (JB.out.up H3.out)
            have hcu := HCm.out.up H3.out
            have lk := hcu.look hNk
            rw [HCx.out] at lk
            obtain ⟨D, hD, hat⟩ := hcu
            have HD := hid hD
            have HAt := hid hat
            obtain ⟨s0, s1⟩ := two_at (stayB K9.out H3.out)
            have HK := hid (keyInt hNk)
            clear g1 g2 hD hat
            go_wp2_with (at_mapUpdate; refine wpList_mapUpdate_own _ rfl _ _ _ 106 rfl 3 3 keyedInt Tryz.underlying106 _ gs mm _ rfl HD.out (by unfold maxLen; omega) _ _ _ rfl rfl HK.out _ [] (plainElem_int Tryz.underlying3 (by first | exact wrap64_wf _ | exact WalkArith.wf_i64 (by omega))) ?_; intro w7 hown7 hgrow7; have HO7 := hid hown7; have HG7 := hid hgrow7; clear hown7 hgrow7)
            go_roundw
            case rel =>
              refine ⟨kk + 1, KVi, UVi, by omega, by go_num, ?_⟩
              show SfInv _ _ _ _ _ _ _ _ _ _ _ _ _ _ _
              rw [repP_keep HG1.out, HG2.out]
              refine JU.out.count HG7.out (by omega) (cntM_put HD.out HAt.out HO7.out) ?_
              have h9 := nums_hit (M := kk) (N := (N : Int)) HC2.out HC3.out
              rw [HCx.out] at h9
              exact h9
            case measure => simp only [intOf]; omega
        · have hcb : (cx == 0) = false := by rw [beq_eq_false_iff_ne]; exact hc0
          have hct : (repS P ver R S kk).contains (N : Int) = true := by
            cases h9 : (repS P ver R S kk).contains (N : Int) with
            | true => rfl
            | false => exact absurd (hcq.2 h9) hc0
          have HCt := hid hct
          clear hct hcq hc0
          go_wp2_with fail
          refine region_mixed (Below W3.heap.size W3) [([0, 1, 2, 3, 4, 5, 6, 7, 8, 9, 10, 11], 12)] [13] (by kernel_rfl) (by kernel_rfl) HD1.out ?_
          refine mixO_cons (by simp only [pickO, List.getElem?_cons_zero, List.getElem?_cons_succ]; exact rfl) (by simp only [pickO, List.getElem?_cons_zero, List.getElem?_cons_succ]; exact rfl) ?_
          repeat (go_big_quiet_step (fail))
          refine wpQuiet_nil ?_
          intro K hK
          go_wp2
          refine ⟨rfl, hK _ _ HD1.out ?_⟩
          clear hK K
          have H3 := HD1
          obtain ⟨U3, hU3⟩ : ∃ u, W3.drew = u := ⟨_, rfl⟩
          rw [hU3] at H3 HD1 ⊢
          clear hU3
          refine mixO_nil (by simp only [pickO, List.getElem?_cons_zero, List.getElem?_cons_succ]; exact rfl) ?_
          repeat (go_big_quiet_step (fail))
          refine wpQuiet_nil ?_
          clear F0 F1 F2 F3 F4 hne s0 s1 p0 p1 p2
          have hbad : (goodK P ver R S kk && !(repS P ver R S kk).contains (numK P ver kk)) = false := by rw [HNm.out, HCt.out, Bool.not_true, Bool.and_false]
          obtain ⟨g1, g2⟩ := rep_bad HH.out hbad
          have HG1 := hid g1
          have HG2 := hid g2
          have JU := hid (JB.out.up H3.out)
          have GU := hid (GB.out.up H3.out)
          obtain ⟨c0, c1⟩ := two_at JU.out.box
          obtain ⟨p0, p1, p2⟩ := three_at (stayB KPB.out H3.out)
          have CD := hid (peDrop _ n PV b (P.th kk) (P.rm kk) _ (P.m kk) _ (P.t kk) ver U3 (HV.out.up JU.out.below) GU.out)
          unfold bookV peerV at CD
          have hav := HAv.out (by omega)
          subst hav
          clear g1 g2 hbad
          go_wp2_with fail
          refine Calls.mono CD.out ?_
          rintro e U4 hDr
          obtain ⟨hb4, ar, cr, UR, rfl, hkr, _⟩ := drop_opened (HR.out.peer kk hlt).e hDr
          have J4 := hid (JU.out.up hb4)
          have HKr := hid hkr
          obtain ⟨z1, z2, z3⟩ := J4.out.row.cell kk hlt
          obtain ⟨ak9, ck9, hKq⟩ := J4.out.slices hlt
          rw [hKq] at z3
          have z1' : U4.cell? ⟨g, kk * 3, none⟩ = some (.bool (P.th kk)) := z1
          have z2' : U4.cell? ⟨g, kk * 3 + 1, none⟩ = some (.int .i64 (P.rm kk)) := z2
          have S1 := setCell_same z1'
          have S2 := setCell_same z2'
          have f1 := J4.out.row.free (kk * 3) (by omega)
          have f2 := J4.out.row.free (kk * 3 + 1) (by omega)
          have f3 := J4.out.row.free (kk * 3 + 2) (by omega)
          have HYg : Hid (SfInv w (U4.setCell ⟨g, kk * 3 + 2, none⟩ (.slice ar (butL (P.t kk) ver (P.m kk)).length cr)) ab n cb (some ⟨bl, off, none⟩) np cl g gs (fun k => if k = kk then .slice ar (butL (P.t kk) ver (P.m kk)).length cr else KVi k) (fun k => if k = kk then UR else UVi k) (repP P ver R S (kk + 1)) (repS P ver R S (kk + 1)) (kk + 1)) := by
            show SfInv _ _ _ _ _ _ _ _ _ _ _ _ _ _ _
            rw [HG2.out]
            obtain ⟨h9, h8⟩ := repP_drop HG1.out
            refine (J4.out.put (P' := repP P ver R S (kk + 1)) hlt rfl rfl (fun k _ hkq => h8 k hkq) ?_).more
            rw [h9.1, h9.2]
            exact HKr.out
          clear hDr hb4 hkr hKq z1 z2 c0 c1 p0 p1 p2
          go_wp2
          clear z1' z2' z3 S1 S2 f1 f2 f3
          go_roundw
          case rel => exact ⟨kk + 1, _, _, by omega, by go_num, HYg⟩
          case measure => simp only [intOf]; omega
    · have hke : np = kk := by omega
      subst hke
      obtain ⟨T, hT⟩ : ∃ T, repS P ver R S np = T := ⟨_, rfl⟩
      rw [hT] at J
      have HT := hid hT
      obtain ⟨w1, hw1⟩ : ∃ w1, w1 = wr := ⟨_, rfl⟩
      subst hw1
      clear hT
      go_wp2
      go_loopw [16, 75] (fun vo iv wr => ∃ j : Nat, j ≤ mo ∧ iv = .int .i64 j ∧ Hid (OwnS w1 wr vo (lackK T j).length (fun i => (((lackK T j).getD i 0 : Nat) : Int)) (fun i => SV ((lackK T j).getD i 0)))) (fun _ iv _ => mo - (intOf iv).toNat)
      case atStart => exact ⟨0, Nat.zero_le _, rfl, OwnS.nil _ _ _⟩
      case round =>
        obtain ⟨j, hj, rfl, OW⟩ := hrel
        by_cases hjm : j < mo
        · have hji : (j : Int) < (mo : Int) := by omega
          have hjk : 0 ≤ (j : Int) ∧ (j : Int) ≤ 1000 := by omega
          have hbw := J.out.below.trans (OW.out.2.mono J.out.below.size)
          rcases HXs.out with h9 | ⟨bs, os, rfl, hbs, hxs⟩
          · omega
          obtain ⟨x1, x2, x3⟩ := hxs j hjm
          obtain ⟨av9, cv9, hve, _, _⟩ := x3
          rw [hve] at x2
          have t1 : wr.cell? ⟨bs, os + j * 2, none⟩ = some (.int .i64 (j : Int)) := by rw [hbw.cell hbs]; exact x1
          have t2 : wr.cell? ⟨bs, os + j * 2 + 1, none⟩ = some (.slice av9 R cv9) := by rw [hbw.cell hbs]; exact x2
          have hb3 := below_alloc wr (.cells #[.int .i64 (j : Int), .slice av9 R cv9] 53)
          have k9 := heap_alloc_new wr (.cells #[.int .i64 (j : Int), .slice av9 R cv9] 53)
          obtain ⟨W3, hW3⟩ : ∃ u, wr.alloc (.cells #[.int .i64 (j : Int), .slice av9 R cv9] 53) = u := ⟨_, rfl⟩
          rw [hW3] at hb3 k9
          have O3 := hid (OW.out.up hb3)
          obtain ⟨s0, s1⟩ := two_at k9
          obtain ⟨mm, c, h0, hcm, hc2, hc3⟩ := J.out.map
          have lk := (hcm.up O3.out.2).look hjk
          have hcq := hc3 (j : Int)
          obtain ⟨cx, hcx⟩ : ∃ cx, c (j : Int) = cx := ⟨_, rfl⟩
          rw [hcx] at lk hcq
          have hsc := lackK_succ T j
          have hll := lackK_len T j
          have HVe := hid hve
          have hge : w1.heap.size ≤ W3.heap.size := O3.out.2.size
          clear hb3 k9 hcm hc2 hc3 hcx x1 x2 hve hxs hbw
          by_cases hc0 : cx = 0
          · subst hc0
            rw [hcq.1 rfl, Bool.not_false, if_pos rfl] at hsc
            have HSc := hid hsc
            clear hsc hcq
            go_wp2_with (at_builtin; go_must (refine wpList_append_own _ rfl (.tmp 84) (.tmp 86) 71 rfl w1.heap.size 53 ii (.agg #[.int .i64 0, .slice none 0 0]) 2 32 Tryz.underlying71 hii hz0 hz1 hz2 rfl (by decide) _ _ _ rfl (World.ownsRow.alloc O3.out.1 _) ⟨_, 0, none⟩ 1 1 [.int .i64 (j : Int), .slice av9 R cv9] rfl rfl (cells_pr _ _ _ _) (by intro u hu; simp at hu; rcases hu with rfl | rfl <;> rfl) (by unfold maxLen; omega) (by omega) (by simp; omega) ?_; intro v4 w4 ho4 hg4 _; have HO4 := hid ho4; have HG4 := hid hg4; clear ho4 hg4))
            go_roundw
            case rel =>
              have hl9 : (lackK T (j + 1)).length = (lackK T j).length + 1 := by rw [HSc.out, List.length_append]; rfl
              have o4 := O3.out.pushS (N' := fun i => (((lackK T (j + 1)).getD i 0 : Nat) : Int)) (V' := fun i => SV ((lackK T (j + 1)).getD i 0)) HO4.out HG4.out (fun i hi => ⟨by simp only [HSc.out]; rw [getD_old _ _ _ hi], by simp only [HSc.out]; rw [getD_old _ _ _ hi]⟩) (by simp only [HSc.out]; rw [getD_new]) (by simp only [HSc.out]; rw [getD_new]; exact HVe.out)
              rw [← hl9] at o4
              exact ⟨j + 1, by omega, by go_num, o4⟩
            case measure => simp only [intOf]; omega
          · have hcb : (cx == 0) = false := by rw [beq_eq_false_iff_ne]; exact hc0
            have hct : T.contains (j : Int) = true := by
              cases h9 : T.contains (j : Int) with
              | true => rfl
              | false => exact absurd (hcq.2 h9) hc0
            rw [hct, Bool.not_true, if_neg (by decide), List.append_nil] at hsc
            have HSc := hid hsc
            clear hsc hcq hc0 hct
            go_wp2
            go_roundw
            case rel => exact ⟨j + 1, by omega, by go_num, by rw [HSc.out]; exact O3.out⟩
            case measure => simp only [intOf]; omega
        · have hje : mo = j := by omega
          subst hje
          have hbw := J.out.below.trans (OW.out.2.mono J.out.below.size)
          have hll := lackK_len T mo
          have hpl := (J.out.row.sl HAv.out HCap.out (by omega) J.out.kept).up OW.out.2
          have hsh := OW.out.shl (L := fun _ => R) (X := fun i => S ((lackK T mo).getD i 0)) (by omega) (fun i hi => by
            have hlt9 := lackK_lt (getD_in (d := 0) hi)
            rcases HXs.out with h9 | ⟨bs, os, _, hbs, hxs⟩
            · omega
            · exact (hxs _ hlt9).2.2.up hbw)
          have HPl := hid hpl
          have HSl := hid hsh
          have HBw := hid hbw
          clear hpl hsh hbw
          go_wp2
          go_ret3
          rw [HT.out]
          exact ⟨HBw.out, _, _, _, _, _, rfl, HPl.out, HSl.out⟩

end Go.Proofs.YtikchpffkhohlaaGreat

namespace Go.Proofs.YtikchpffkhohlaaGreat

open Go.RowKit Go.Maps CurveMath
set_option linter.unusedVariables false

set_option maxHeartbeats 1000000 in
theorem msCheck (vb : Value) (n : Nat) (PV : Nat → Value) (b : Bk) (vl : Value) (np : Nat) (KV : Nat → Value) (UV : Nat → Nat → Value) (P : Ps) (w : World) (hv : VeSl w w.heap.size vb n PV b) (hl : PsSl w w.heap.size vl np KV UV P) :
    Calls Tryz.prog 19 #[meshV vb vl] w fun e w' => e = .returned (.int .i64 (peersE n b np P)) ∧ Below w.heap.size w w' := by
  have hb := below_alloc w (.cells #[vb, vl] 27)
  have CK := hid (plCheck _ n PV b _ np KV UV P _ (hv.up hb) (hl.up hb))
  have HB := hid hb
  obtain ⟨c0, c1⟩ := two_at (heap_alloc_new w (.cells #[vb, vl] 27))
  obtain ⟨ad, cap, rfl, _, _⟩ := hv
  obtain ⟨al, cl, rfl, _, _⟩ := hl
  unfold bookV at CK
  unfold meshV
  clear hb
  go_enter Tryz.func19, Tryz.ntmps19
  go_wp2_with fail
  refine Calls.mono CK.out ?_
  rintro e w2 ⟨rfl, hb2⟩
  have HB2 := hid (HB.out.trans (hb2.mono HB.out.size))
  clear hb2
  go_wp2
  go_ret
  exact ⟨rfl, HB2.out⟩

set_option maxHeartbeats 4000000 in
set_option maxRecDepth 10000 in
theorem msRestore (vb : Value) (n : Nat) (PV : Nat → Value) (b : Bk) (vl : Value) (np : Nat) (KV : Nat → Value) (UV : Nat → Nat → Value) (P : Ps) (k : Int) (w : World) (hv : VeSl w w.heap.size vb n PV b) (hl : PsSl w w.heap.size vl np KV UV P) :
    Calls Tryz.prog 11 #[meshV vb vl, .int .i64 k] w (RestPost w n b np P k) := by
  have hb := below_alloc w (.cells #[vb, vl] 27)
  have CK := hid (msCheck _ n PV b _ np KV UV P _ (hv.up hb) (hl.up hb))
  have HB := hid hb
  have HK := hid (heap_alloc_new w (.cells #[vb, vl] 27))
  have HV := hid hv
  have HL := hid hl
  obtain ⟨ad, cap, rfl, _, hx⟩ := hv
  obtain ⟨al, cl, rfl, _, _⟩ := hl
  obtain ⟨m0, m1⟩ := two_at HK.out
  obtain ⟨c, hc⟩ : ∃ c, peersE n b np P = c := ⟨_, rfl⟩
  rw [hc] at CK
  have HC := hid hc
  have HX := hid hx
  clear hb hc hx
  unfold meshV at CK
  unfold meshV
  go_enter Tryz.func11, Tryz.ntmps11
  go_wp2_with fail
  refine Calls.mono CK.out ?_
  rintro e W ⟨rfl, hbW⟩
  have BW := hid (HB.out.trans (hbW.mono HB.out.size))
  clear m0 m1
  obtain ⟨c0, c1⟩ := two_at (stayB HK.out hbW)
  clear hbW CK
  by_cases h0 : c = 0
  · subst h0
    have hR := meshR_of HC.out
    have HR := hid hR
    by_cases hk : 0 ≤ k ∧ k < (n : Int)
    · have hver : verM n b np P k = 0 := by unfold verM; rw [if_pos HC.out, if_pos hk]
      have HVer := hid hver
      obtain ⟨q, rfl⟩ : ∃ q : Nat, k = q := ⟨k.toNat, by omega⟩
      have hqn : q < n := by omega
      rcases HX.out with h0 | ⟨bv, ov, rfl, hbv, hxv⟩
      · omega
      obtain ⟨_, v1, v2, v3, _⟩ := hxv q hqn
      have q1 : W.cell? ⟨bv, ov + q * 4 + 1, none⟩ = some (.int .i64 (b.nd q)) := by rw [BW.out.cell hbv]; exact v1
      have q2 : W.cell? ⟨bv, ov + q * 4 + 2, none⟩ = some (.int .i64 (b.of q)) := by rw [BW.out.cell hbv]; exact v2
      have q3 : W.cell? ⟨bv, ov + q * 4 + 3, none⟩ = some (.int .i64 (b.sz q)) := by rw [BW.out.cell hbv]; exact v3
      have hne : Nonempty (Of (Below W.heap.size W)) := ⟨⟨W, Below.refl _ _⟩⟩
      have F0 : ∀ u : Of (Below W.heap.size W), u.val.cell? ⟨w.heap.size, 0, none⟩ = some (.slice (some ⟨bv, ov, none⟩) n cap) := fun u => by rw [u.is.cell (cell_lt c0)]; exact c0
      have F1 : ∀ u : Of (Below W.heap.size W), u.val.cell? ⟨w.heap.size, 1, none⟩ = some (.slice al np cl) := fun u => by rw [u.is.cell (cell_lt c1)]; exact c1
      have F2 : ∀ u : Of (Below W.heap.size W), u.val.cell? ⟨bv, ov + q * 4 + 1, none⟩ = some (.int .i64 (b.nd q)) := fun u => by rw [u.is.cell (cell_lt q1)]; exact q1
      have F3 : ∀ u : Of (Below W.heap.size W), u.val.cell? ⟨bv, ov + q * 4 + 2, none⟩ = some (.int .i64 (b.of q)) := fun u => by rw [u.is.cell (cell_lt q2)]; exact q2
      have F4 : ∀ u : Of (Below W.heap.size W), u.val.cell? ⟨bv, ov + q * 4 + 3, none⟩ = some (.int .i64 (b.sz q)) := fun u => by rw [u.is.cell (cell_lt q3)]; exact q3
      have CT : Hid (∀ u, Below W.heap.size W u → Calls Tryz.prog 38 #[meshV (.slice (some ⟨bv, ov, none⟩) n cap) (.slice al np cl), .int .i64 (q : Int)] u fun e w' => Below u.heap.size u w' ∧ ∃ vo, e = .returned vo ∧ ShSl w' w'.heap.size vo (thereL P q np).length (nL P (thereL P q np)) (vaL UV (thereL P q np)) (lL P (thereL P q np)) (xL P (thereL P q np))) := fun u hbu =>
        msPresent _ n b _ np KV UV P q u ⟨_, _, _, rfl⟩ (HL.out.up (BW.out.trans (hbu.mono BW.out.size))) HR.out
      unfold meshV at CT
      have hki : (q : Int) < (n : Int) := by omega
      have hk0 : ¬ (q : Int) < 0 := by omega
      have hk1 : ¬ (n : Int) ≤ (q : Int) := by omega
      clear hR hxv v1 v2 v3 q1 q2 q3 hver hk
      go_wp2_with fail
      have HD1 : Hid (Below W.heap.size W W.drew) := drew_below W
      refine region_mixed (Below W.heap.size W) [([0, 1, 2, 3, 4, 5, 6, 7, 8], 9), ([], 10)] [11, 12, 13, 14, 15, 16] (by kernel_rfl) (by kernel_rfl) HD1.out ?_
      clear c0 c1
      refine mixO_cons (by simp only [pickO, List.getElem?_cons_zero, List.getElem?_cons_succ]; exact rfl) (by simp only [pickO, List.getElem?_cons_zero, List.getElem?_cons_succ]; exact rfl) ?_
      repeat (go_big_quiet_step (fail))
      refine wpQuiet_nil ?_
      intro K hK
      go_wp2_with fail
      refine Calls.mono (CT.out _ HD1.out) ?_
      rintro e W5 ⟨hb5, vo, rfl, hsh0⟩
      have hsh := hsh0.agree fun j hj => tT_eq P (thereL P (q : Int) np) hj
      clear hsh0
      have H5 : Hid (Below W.heap.size W W5) := HD1.out.trans (hb5.mono HD1.out.size)
      have CE := hid (most_any (b.nd q) (b.of q) (b.sz q) vo _ _ _ _ _ W5 hsh)
      unfold planV at CE
      obtain ⟨ao, co, rfl, _, _⟩ := hsh
      clear hb5
      go_wp2
      refine ⟨rfl, hK _ _ H5.out ?_⟩
      clear hK K
      refine mixO_cons (lq := []) rfl (by simp only [pickO, List.getElem?_cons_zero, List.getElem?_cons_succ]; exact rfl) ?_
      refine wpQuiet_nil ?_
      intro K hK
      go_wp2_with fail
      refine Calls.mono CE.out ?_
      rintro e W6 hM
      have B5 := hid (BW.out.trans (H5.out.mono BW.out.size))
      have HRe := hid (rest_of (n := n) (b := b) (np := np) (P := P) (k := (q : Int)) B5.out HVer.out (by rw [Int.toNat_natCast]; exact hM))
      obtain ⟨hb6, r, bb, m, rfl, _, hr, hbb⟩ := hM
      have H6 : Hid (Below W.heap.size W W6) := H5.out.trans (hb6.mono H5.out.size)
      obtain ⟨ar, cr, rfl, _, _⟩ := hr
      obtain ⟨ab, cb, rfl, _, _⟩ := hbb
      clear hb6
      go_wp2
      refine ⟨rfl, hK _ _ H6.out ?_⟩
      clear hK K
      refine mixO_nil (by simp only [pickO, List.getElem?_cons_zero, List.getElem?_cons_succ]; exact rfl) ?_
      repeat (go_big_quiet_step (fail))
      refine wpQuiet_nil ?_
      clear F0 F1 F2 F3 F4 hne
      go_wp2
      go_ret3
      exact HRe.out
    · have hver : verM n b np P k = 4 := by unfold verM; rw [if_pos HC.out, if_neg hk]
      have HVer := hid hver
      clear hver
      by_cases hk0 : k < 0
      · clear hk
        go_wp2
        go_ret3
        exact rest_err BW.out HVer.out (by decide)
      · have hk1 : (n : Int) ≤ k := by omega
        clear hk
        go_wp2
        go_ret3
        exact rest_err BW.out HVer.out (by decide)
  · have hcb : (c != 0) = true := by simpa using h0
    have hver : verM n b np P k = c := by unfold verM; rw [HC.out, if_neg h0]
    have H0 := hid h0
    have HVer := hid hver
    clear h0 hver
    go_wp2
    go_ret3
    exact rest_err BW.out HVer.out H0.out

structure NwInv (w wr : World) (g gc len : Nat) (X : Nat → Int) (k : Nat) : Prop where
  below : Below w.heap.size w wr
  out : wr.heap[w.heap.size]? = some (.cells #[.slice none 0 0, .slice none 0 0] 27 (0, 0))
  cc : wr.heap[gc]? = some (.cells #[.slice none 0 0, .slice (some ⟨g, 0, none⟩) len len] 27 (0, 0))
  row : CRow wr g 47 (len * 3) (k * 3) (cellP (fun _ => .slice none 0 0) (freshP X))
  ge : w.heap.size < g ∧ w.heap.size < gc ∧ g ≠ gc

theorem NwInv.up {w wr w' : World} {g gc len k : Nat} {X : Nat → Int} (h : NwInv w wr g gc len X k) (hb : Below wr.heap.size wr w') : NwInv w w' g gc len X k :=
  ⟨h.below.trans (hb.mono h.below.size), stayB h.out hb, stayB h.cc hb, h.row.up hb, h.ge⟩

theorem NwInv.put {w wr : World} {g gc len k : Nat} {X : Nat → Int} (h : NwInv w wr g gc len X k) (hk : k < len) : NwInv w (((wr.setCell ⟨g, k * 3, none⟩ (.bool true)).setCell ⟨g, k * 3 + 1, none⟩ (.int .i64 (X k))).setCell ⟨g, k * 3 + 2, none⟩ (.slice none 0 0)) g gc len X (k + 1) := by
  obtain ⟨g1, g2, g3⟩ := h.ge
  obtain ⟨e0, e1, e2⟩ := cellP_at (KV := fun _ => Value.slice none 0 0) (P := freshP X) (k := k)
  refine ⟨((h.below.setCell (p := ⟨g, k * 3, none⟩) (by show w.heap.size ≤ g; omega) _).setCell (p := ⟨g, k * 3 + 1, none⟩) (by show w.heap.size ≤ g; omega) _).setCell (p := ⟨g, k * 3 + 2, none⟩) (by show w.heap.size ≤ g; omega) _, ?_, ?_, h.row.three (by omega) e0.symm e1.symm e2.symm, h.ge⟩
  · rw [Below.heap_setCell _ _ _ _ (by show w.heap.size ≠ g; omega), Below.heap_setCell _ _ _ _ (by show w.heap.size ≠ g; omega), Below.heap_setCell _ _ _ _ (by show w.heap.size ≠ g; omega)]; exact h.out
  · rw [Below.heap_setCell _ _ _ _ (by show gc ≠ g; omega), Below.heap_setCell _ _ _ _ (by show gc ≠ g; omega), Below.heap_setCell _ _ _ _ (by show gc ≠ g; omega)]; exact h.cc

theorem NwInv.peers {w wr : World} {g gc len : Nat} {X : Nat → Int} (h : NwInv w wr g gc len X len) (hr : len * 40 ≤ 140737488351232) : PsSl wr wr.heap.size (.slice (some ⟨g, 0, none⟩) len len) len (fun _ => .slice none 0 0) (fun _ _ => .int .i64 0) (freshP X) :=
  h.row.rowP.kel (Nat.le_refl _) hr fun k hk => kel_nil _ _ _ _

set_option maxHeartbeats 4000000 in
set_option maxRecDepth 10000 in
theorem msNew (vr : Value) (len : Nat) (X : Nat → Int) (w : World) (h : IntSl w w.heap.size vr len X) (hlen : len ≤ 1048576) :
    Calls Tryz.prog 10 #[vr] w (MeshPostN w (newE len X) 0 noB len (freshP X)) := by
  have HI := hid h
  obtain ⟨ar, cr, rfl, ⟨_, hbig⟩, hx⟩ := h
  have HX := hid hx
  obtain ⟨ip, hip, hpz0, hpz1, hpz2⟩ := info_parts Tryz.infoPeer
  have hb0 := below_alloc w (.cells #[.slice none 0 0, .slice none 0 0] 27)
  have k0 := heap_alloc_new w (.cells #[.slice none 0 0, .slice none 0 0] 27)
  obtain ⟨W, hW⟩ : ∃ u, w.alloc (.cells #[.slice none 0 0, .slice none 0 0] 27) = u := ⟨_, rfl⟩
  rw [hW] at hb0 k0
  have B0 := hid hb0
  have K0 := hid k0
  clear hx hb0 k0
  go_enter Tryz.func10, Tryz.ntmps10
  go_wp2_with (at_make; go_must (refine wpList_make_full _ rfl (.tmp 9) (.tmp 9) 25 rfl _ 47 ip (.agg #[.bool false, .int .i64 0, .slice none 0 0]) 3 Tryz.underlying25 hip hpz0 hpz1 _ _ _ _ len rfl rfl rfl rfl (by rw [hpz2]; omega) (by unfold maxLen; omega) (Nat.le_refl _) ?_; intro w1 ho1 hg1; have hb := below_of_grown hg1; have RP := hid (CRow.made ho1 (cellP (fun _ => .slice none 0 0) (freshP X))); have HB1 := hid hb; clear ho1 hg1 hb))
  have hb2 := below_alloc w1 (.cells #[.slice none 0 0, .slice (some ⟨W.heap.size, 0, none⟩) len len] 27)
  have k2 := heap_alloc_new w1 (.cells #[.slice none 0 0, .slice (some ⟨W.heap.size, 0, none⟩) len len] 27)
  obtain ⟨Y, hY⟩ : ∃ u, World.alloc w1 (.cells #[.slice none 0 0, .slice (some ⟨W.heap.size, 0, none⟩) len len] 27) = u := ⟨_, rfl⟩
  rw [hY] at hb2 k2 ⊢
  have hwW : w.heap.size < W.heap.size := (Array.getElem?_eq_some_iff.1 K0.out).1
  have hgl := RP.out.lt
  have J0 : Hid (NwInv w Y W.heap.size w1.heap.size len X 0) := by
    have h12 := HB1.out.trans (hb2.mono HB1.out.size)
    exact ⟨B0.out.trans (h12.mono B0.out.size), stayB K0.out h12, k2, by have := RP.out.up hb2; rw [Nat.zero_mul]; exact this, by omega, by omega, by omega⟩
  obtain ⟨g, hg⟩ : ∃ q, W.heap.size = q := ⟨_, rfl⟩
  obtain ⟨gc, hgc⟩ : ∃ q, w1.heap.size = q := ⟨_, rfl⟩
  rw [hg, hgc] at J0
  rw [hg, hgc]
  clear hb2 k2 hY hwW hgl hg hgc RP HB1 hW
  go_loopw [14] (fun iv wr => ∃ k : Nat, k ≤ len ∧ iv = .int .i64 k ∧ Hid (NwInv w wr g gc len X k)) (fun iv _ => len - (intOf iv).toNat)
  case atStart => exact ⟨0, Nat.zero_le _, rfl, J0⟩
  case round =>
    obtain ⟨k, hk, rfl, J⟩ := hrel
    by_cases hlt : k < len
    · have hki : (k : Int) < (len : Int) := by omega
      rcases HX.out with h0 | ⟨b, off, rfl, hb, hx⟩
      · omega
      have x0 : wr.cell? ⟨b, off + k, none⟩ = some (.int .i64 (X k)) := by rw [J.out.below.cell hb]; exact hx k hlt
      obtain ⟨_, c1⟩ := two_at J.out.cc
      obtain ⟨⟨u0, r0⟩, f0⟩ := J.out.row.room (i := k * 3) (by omega)
      obtain ⟨⟨u1, r1⟩, f1⟩ := J.out.row.room (i := k * 3 + 1) (by omega)
      obtain ⟨⟨u2, r2⟩, f2⟩ := J.out.row.room (i := k * 3 + 2) (by omega)
      clear hx
      go_wp2
      go_roundw
      case rel => exact ⟨k + 1, by omega, by go_num, J.out.put hlt⟩
      case measure => simp only [intOf]; omega
    · have hke : len = k := by omega
      subst hke
      obtain ⟨c0, c1⟩ := two_at J.out.cc
      have CK := hid (msCheck (.slice none 0 0) 0 (fun _ => .int .i64 0) noB _ len _ _ (freshP X) wr ⟨none, 0, rfl, ⟨Nat.le_refl _, by omega⟩, Or.inl rfl⟩ (J.out.peers (by omega)))
      unfold meshV at CK
      obtain ⟨er, her⟩ : ∃ c, newE len X = c := ⟨_, rfl⟩
      rw [show peersE 0 noB len (freshP X) = er from her] at CK
      have HEr := hid her
      clear her
      go_wp2_with fail
      refine Calls.mono CK.out ?_
      rintro e w2 ⟨rfl, hb2⟩
      have J2 := hid (J.out.up hb2)
      clear c0 c1 hb2 CK
      obtain ⟨c0, c1⟩ := two_at J2.out.cc
      obtain ⟨r0, r1⟩ := two_at J2.out.out
      have f0 := frozen_at (i := 0) J2.out.out
      have f1 := frozen_at (i := 1) J2.out.out
      by_cases h0 : er = 0
      · subst h0
        go_wp2
        refine bodyPost_ret (results_cell2 rfl _ _ w.heap.size 27 #[.slice none 0 0, .slice (some ⟨g, 0, none⟩) len len] (0, 0) _ rfl (put2_whole J2.out.out _ _) Tryz.underlying27 rfl (by kernel_rfl)) rfl ?_
        obtain ⟨g1, g2, g3⟩ := J2.out.ge
        rw [HEr.out]
        refine ⟨put2_below J2.out.below (by omega), _, _, 0, len, fun _ => .int .i64 0, _, _, rfl, rfl, rfl, ⟨none, 0, rfl, ⟨Nat.le_refl _, by omega⟩, Or.inl rfl⟩, ps_put2 J2.out.out (J2.out.peers (by omega)) _ _, ⟨?_, fun k hk => ⟨NewV.none _ _ _ _, fun i hi => absurd hi (Nat.not_lt_zero _)⟩⟩, fun s hs => ⟨Or.inl rfl, fun j hj => absurd hj (Nat.not_lt_zero _)⟩⟩
        exact ((J2.out.row.newV (by omega)).set _ _).set _ _
      · have hcb : (er != 0) = true := by simpa using h0
        have H0 := hid h0
        clear h0
        go_wp2
        refine bodyPost_ret (results_cell2 rfl _ _ w.heap.size 27 #[.slice none 0 0, .slice none 0 0] (0, 0) _ rfl (put2_whole J2.out.out _ _) Tryz.underlying27 rfl (by kernel_rfl)) rfl ?_
        rw [HEr.out]
        exact meshN_none (put2_below J2.out.below (Nat.le_refl _)) H0.out

end Go.Proofs.YtikchpffkhohlaaGreat
