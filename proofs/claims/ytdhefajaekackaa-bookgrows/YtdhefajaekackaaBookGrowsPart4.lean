/- Several texts of one proof, in their order. -/
import Derived.Test.YtdhefajaekackaaBookGrowsPart3

/- One more version: the law's walk. -/
namespace Go.Proofs.Ytdhefajaekackaa

open Go.RowKit Go.Maps
set_option linter.unusedVariables false

/-- a block stays -/
theorem stay {w w' : World} {g : Nat} {o : Obj} (h : w.heap[g]? = some o) (hb : Below w.heap.size w w') : w'.heap[g]? = some o := by
  rw [hb.block _ (Array.getElem?_eq_some_iff.1 h).1]; exact h

theorem eqB_refl (n : Nat) (X : Nat → Int) : eqB n n X X = true := decide_eq_true ⟨rfl, fun _ _ => rfl⟩

/-- what lies there while the set is made -/
structure GInv (w wr : World) (bk : Value) (gx : Nat) (rx : Value) (n : Nat) (PX : Nat → Value) (bb : Bk) (vh : Value) (lh : List Int) (gi gm mm : Nat) (S : Nat → Bool) : Prop where
  below : Below w.heap.size w wr
  book : wr.heap[w.heap.size]? = some (.cells #[bk] 24 (0, 0))
  xb : wr.heap[gx]? = some (.cells #[rx] 24 (0, 0))
  var : wr.heap[gi]? = some (.cells #[.map (some gm)] 44 (0, 0))
  vx : VeSl wr wr.heap.size rx (n + 1) PX bb
  hd : IntSl wr wr.heap.size vh lh.length (fun j => lh.getD j 0)
  mp : SetM wr gm mm n S
  og : w.heap.size ≤ gm

section

variable {w wr w' : World} {bk : Value} {gx : Nat} {rx : Value} {n : Nat} {PX : Nat → Value} {bb : Bk} {vh : Value} {lh : List Int} {gi gm mm : Nat} {S : Nat → Bool}

theorem GInv.up (h : GInv w wr bk gx rx n PX bb vh lh gi gm mm S) (hb : Below wr.heap.size wr w') : GInv w w' bk gx rx n PX bb vh lh gi gm mm S :=
  ⟨h.below.trans (hb.mono h.below.size), stay h.book hb, stay h.xb hb, stay h.var hb, h.vx.up hb, h.hd.up hb, h.mp.up hb, h.og⟩

theorem GInv.grown (h : GInv w wr bk gx rx n PX bb vh lh gi gm mm S) (hg : wr.grownBy w' (some gm)) {mm' : Nat} {S' : Nat → Bool} (hm : SetM w' gm mm' n S') : GInv w w' bk gx rx n PX bb vh lh gi gm mm' S' := by
  have key : ∀ {g : Nat} {v : Value} {T : TypeId}, wr.heap[g]? = some (.cells #[v] T (0, 0)) → w'.heap[g]? = some (.cells #[v] T (0, 0)) := fun {g v T} hh => by
    rw [hg.block _ (Array.getElem?_eq_some_iff.1 hh).1 (by intro e; injection e with e; exact h.mp.ne (cell_at (i := 0) hh rfl) e)]
    exact hh
  exact ⟨h.below.grown hg h.below.size (fun k hk => by cases hk; exact h.og), key h.book, key h.xb, key h.var, (h.vx.grownM h.mp hg).mono hg.size, (h.hd.grownM h.mp hg).mono hg.size, hm, h.og⟩

end

/-- the set holds n, and what is behind the first i of these -/
def InP (b : Bk) (n : Nat) (X : Nat → Int) (i : Nat) (S : Nat → Bool) : Prop := ∀ x : Nat, S x = true ↔ x = n ∨ ∃ i', i' < i ∧ Rea b (X i').toNat x

theorem inP_step {b : Bk} {n : Nat} {X : Nat → Int} {i p : Nat} {S T : Nat → Bool} {l : List Int} (hS : InP b n X i S) (hT : InT S (fun j => l.getD j 0) l.length T) (hp : X i = (p : Int)) (hl : ∀ x : Int, x ∈ l ↔ ∃ y : Nat, x = y ∧ Rea b p y) : InP b n X (i + 1) T := by
  intro x
  rw [hT x, hS x]
  constructor
  · rintro ((h | ⟨i', h1, h2⟩) | ⟨j', h1, h2⟩)
    · exact Or.inl h
    · exact Or.inr ⟨i', by omega, h2⟩
    · have hm : l.getD j' 0 ∈ l := getD_mem.1 ((hasB_iff _ _ _).2 ⟨j', h1, rfl⟩)
      obtain ⟨y, e, hr⟩ := (hl _).1 hm
      have h2' : l.getD j' 0 = (x : Int) := h2
      refine Or.inr ⟨i, by omega, ?_⟩
      rw [hp, Int.toNat_natCast, show x = y by omega]
      exact hr
  · rintro (h | ⟨i', h1, h2⟩)
    · exact Or.inl (Or.inl h)
    · by_cases ei : i' = i
      · subst ei
        rw [hp, Int.toNat_natCast] at h2
        obtain ⟨j', hj', e⟩ := (hasB_iff _ _ _).1 (getD_mem.2 ((hl (x : Int)).2 ⟨x, rfl, h2⟩))
        exact Or.inr ⟨j', hj', e⟩
      · exact Or.inl (Or.inr ⟨i', by omega, h2⟩)

set_option maxHeartbeats 8000000 in
set_option maxRecDepth 10000 in
theorem bookGrows_walk (vs : Value) (n : Nat) (PV : Nat → Value) (b : Bk) (a1 : Option Addr) (len1 cap1 : Nat) (X1 : Nat → Int) (nd of sz : Int) (k : Int) (w : World)
    (hv : VeSl w w.heap.size vs n PV b) (hp : SlArg w a1 len1 cap1 X1) (hk : -9223372036854775808 ≤ k ∧ k ≤ 9223372036854775807) :
    Calls Try.prog 4 #[bookV vs, verV (.slice a1 len1 cap1) nd of sz, .int .i64 k] w fun e w' => e = .returned (.bool true) ∧ Below w.heap.size w w' := by
  have HV := hid hv
  have HP := hid hp.isl
  have hreach := hp.reach
  have hle := hp.le
  obtain ⟨ad, cap, rfl, ⟨hcap, _⟩, _⟩ := hv
  have hb0 : Below w.heap.size w ((w.alloc (.cells #[.slice ad n cap] 24)).alloc (.cells #[.slice a1 len1 cap1, .int .i64 nd, .int .i64 of, .int .i64 sz] 29)) := ((Below.refl _ _).alloc (Nat.le_refl _) _).alloc (by simp) _
  have k1 := heap_two_old w (.cells #[.slice ad n cap] 24) (.cells #[.slice a1 len1 cap1, .int .i64 nd, .int .i64 of, .int .i64 sz] 29)
  have k2 := heap_two_new w (.cells #[.slice ad n cap] 24) (.cells #[.slice a1 len1 cap1, .int .i64 nd, .int .i64 of, .int .i64 sz] 29)
  obtain ⟨U, hU⟩ : ∃ U, (w.alloc (.cells #[.slice ad n cap] 24)).alloc (.cells #[.slice a1 len1 cap1, .int .i64 nd, .int .i64 of, .int .i64 sz] 29) = U := ⟨_, rfl⟩
  rw [hU] at hb0 k1 k2
  have B0 := hid hb0
  have K1 := hid k1
  have K2 := hid k2
  have c1 := cell_at (i := 0) k1 rfl
  obtain ⟨e0, e1, e2, e3⟩ : U.cell? ⟨w.heap.size + 1, 0, none⟩ = _ ∧ U.cell? ⟨w.heap.size + 1, 1, none⟩ = _ ∧ U.cell? ⟨w.heap.size + 1, 2, none⟩ = _ ∧ U.cell? ⟨w.heap.size + 1, 3, none⟩ = _ := four_at k2
  obtain ⟨ea, hea⟩ : ∃ ea, addE n b (snocB n b len1 X1 nd of sz) = ea := ⟨_, rfl⟩
  have HEa := hid hea
  have CA : Hid (Calls Try.prog 12 #[.agg #[.slice ad n cap], .agg #[.slice a1 len1 cap1, .int .i64 nd, .int .i64 of, .int .i64 sz]] U fun e u' => Below U.heap.size U u' ∧ ∃ (cr m' : Nat) (aa : Option Addr) (PV' : Nat → Value), e = .returned (.tuple #[.agg #[.slice aa m' cr], .int .i64 ea]) ∧ m' = (if ea = 0 then n + 1 else 0) ∧ VeSl u' u'.heap.size (.slice aa m' cr) m' PV' (snocB n b len1 X1 nd of sz)) := (bkAdd _ n PV b _ len1 X1 nd of sz U (HV.out.up hb0) (HP.out.up hb0)).mono fun e u' h => by
    obtain ⟨hb', r, m', PV', he, hm, hv⟩ := h
    rw [hea] at he hm
    obtain ⟨aa, cr, hr⟩ : ∃ aa cr, r = .slice aa m' cr := by obtain ⟨x, y, h, _⟩ := hv; exact ⟨x, y, h⟩
    subst hr
    exact ⟨hb', cr, m', aa, PV', he, hm, hv⟩
  clear hb0 k1 k2 hea hp
  unfold bookV verV
  go_enter Try.func4, Try.ntmps4
  go_wp2_with fail
  refine Calls.mono CA.out ?_
  rintro e u1 ⟨hb1, cr1, m1, aa1, PX, rfl, hm1, hv1⟩
  have HM1 := hid hm1
  have hbx := below_alloc u1 (.cells #[.slice aa1 m1 cr1] 24)
  obtain ⟨V1, hV1⟩ : ∃ V1, u1.alloc (.cells #[.slice aa1 m1 cr1] 24) = V1 := ⟨_, rfl⟩
  have kx : V1.heap[u1.heap.size]? = some (.cells #[.slice aa1 m1 cr1] 24 (0, 0)) := by rw [← hV1]; exact heap_alloc_new _ _
  rw [hV1] at hbx
  have hUV : Below U.heap.size U V1 := hb1.trans (hbx.mono hb1.size)
  have B1 := hid (B0.out.trans (hUV.mono B0.out.size))
  have V9 := hid (hv1.up hbx)
  have X9 := hid kx
  have K1a := hid (stay K1.out hUV)
  have K2a := hid (stay K2.out hUV)
  clear e0 e1 e2 e3 c1 hm1 hv1 hb1 hbx kx hUV B0 K1 K2 CA
  go_wp2_with fail
  refine Calls.mono (listed_any V1) ?_
  rintro e W ⟨rfl, hb2⟩
  have B2 := hid (B1.out.trans (hb2.mono B1.out.size))
  have V9b := hid (V9.out.up hb2)
  have X9b := hid (stay X9.out hb2)
  have K1b := hid (stay K1a.out hb2)
  have K2b := hid (stay K2a.out hb2)
  clear hb2 B1 V9 X9 K1a K2a
  by_cases hea0 : ea = 0
  · subst hea0
    obtain rfl : m1 = n + 1 := by rw [HM1.out, if_pos rfl]
    have hE0 : bookE n b = 0 ∧ bookE (n + 1) (snocB n b len1 X1 nd of sz) = 0 := by
      have h := HEa.out
      unfold addE at h
      by_cases h0 : bookE n b = 0
      · rw [if_pos h0] at h; exact ⟨h0, h⟩
      · rw [if_neg h0] at h; exact absurd h h0
    have HE0 := hid hE0.1
    have HE1 := hid hE0.2
    have HR0 := hid (right_of hE0.1)
    have HR1 := hid (right_of hE0.2)
    have hn11 : n + 1 ≤ 12 := HR1.out.le
    have hlp : len1 ≤ 12 := by
      have h := HR1.out.few (Nat.lt_succ_self n)
      rw [snoc_new.1] at h
      omega
    have CH := hid (bkHeads _ (n + 1) PX (snocB n b len1 X1 nd of sz) W V9b.out)
    rw [hE0.2, if_pos rfl] at CH
    have hlhl := headsL_len (snocB n b len1 X1 nd of sz) (n + 1) (n + 1)
    have HhN := hid (head_new HR1.out.elder)
    have HhP : Hid (∀ i, i < len1 → X1 i ∉ headsL (snocB n b len1 X1 nd of sz) (n + 1) (n + 1)) := fun i hi => head_not HR1.out.elder hi
    generalize headsL (snocB n b len1 X1 nd of sz) (n + 1) (n + 1) = lh at *
    have x9 := cell_at (i := 0) X9b.out rfl
    have c1 := cell_at (i := 0) K1b.out rfl
    clear hE0 HM1
    unfold bookV at CH
    go_wp2_with fail
    refine Calls.mono CH.out ?_
    rintro e u3 ⟨hb3, vh, rfl, hh⟩
    have B3 := hid (B2.out.trans (hb3.mono B2.out.size))
    have V9c := hid (V9b.out.up hb3)
    have X9c := hid (stay X9b.out hb3)
    have K1c := hid (stay K1b.out hb3)
    have K2c := hid (stay K2b.out hb3)
    have HH := hid hh
    have CN := hid (contains_sl hh (n : Int))
    rw [getD_mem.2 HhN.out] at CN
    obtain ⟨ah, ch, rfl, _, _⟩ := hh
    clear hb3 B2 V9b X9b K1b K2b x9 c1 CH
    go_wp2_with fail
    refine Calls.mono CN.out ?_
    rintro e u4 ⟨rfl, hu4⟩
    subst u4
    have hmm := @run_makeMap Try.prog
    obtain ⟨W1, hrun, hown, hgrow⟩ := (World.ownsMap_made (H := Empty) u3 Try.prog 3 (plainElem Try.prog 4)).update (t := 44) (e := 4) keyedInt Try.underlying44 (by unfold maxLen; omega) (keyInt (x := (n : Int)) (by omega)) (plainElem_bool Try.underlying4 true)
    have hb1 : Below u3.heap.size u3 W1 := (below_alloc u3 _).grown hgrow (by simp) (fun k hk => by cases hk; exact Nat.le_refl _)
    have hS1 : SetM W1 u3.heap.size (1 + 0 * 13) n (fun y => (fun _ => false) y || decide (y = n)) := setM_put (w := u3.alloc (.map #[] 0)) (S := fun _ => false) (World.ownsMap_made _ _ _ _) (fun x => rfl) (fun x => rfl) (by rw [List.filter_eq_nil_iff.2 (fun _ _ h => by cases h)]; rfl) (Nat.le_refl n) hown
    have J0 : Hid (GInv w (W1.alloc (.cells #[.map (some u3.heap.size)] 44)) (.slice ad n cap) u1.heap.size (.slice aa1 (n + 1) cr1) n PX (snocB n b len1 X1 nd of sz) (.slice ah lh.length ch) lh W1.heap.size u3.heap.size (1 + 0 * 13) (fun y => (fun _ => false) y || decide (y = n))) := by
      have hb2 := hb1.alloc hb1.size (.cells #[.map (some u3.heap.size)] 44)
      exact ⟨B3.out.trans (hb2.mono B3.out.size), stay K1c.out hb2, stay X9c.out hb2, heap_alloc_new _ _, V9c.out.up hb2, HH.out.up hb2, hS1.up (below_alloc _ _), B3.out.size⟩
    have HS0 : Hid (InP b n X1 0 (fun y => (fun _ => false) y || decide (y = n))) := fun x => by
      simp
    have p0 : (W1.alloc (.cells #[.map (some u3.heap.size)] 44)).cell? ⟨w.heap.size + 1, 0, none⟩ = some (.slice a1 len1 cap1) := cell_at (stay K2c.out (hb1.alloc hb1.size _)) rfl
    have l1 : w.heap.size + 1 < W1.heap.size := by
      have h1 := (Array.getElem?_eq_some_iff.1 K2c.out).1
      have h2 := hb1.size
      omega
    have p1 : W1.cell? ⟨w.heap.size + 1, 0, none⟩ = some (.slice a1 len1 cap1) := cell_at (stay K2c.out hb1) rfl
    clear hown hgrow hS1 B3 V9c X9c K1c K2c HH CN
    go_wp2
    generalize u3.heap.size = gm at *
    generalize W1.heap.size = gi at *
    clear hmm hrun hb1 p0 p1 l1
    go_loopw [57] (fun iv wr => ∃ (i : Nat) (S : Nat → Bool), i ≤ len1 ∧ iv = .int .i64 i ∧ Hid (GInv w wr (.slice ad n cap) u1.heap.size (.slice aa1 (n + 1) cr1) n PX (snocB n b len1 X1 nd of sz) (.slice ah lh.length ch) lh gi gm (1 + i * 13) S) ∧ Hid (InP b n X1 i S)) (fun iv _ => len1 - (intOf iv).toNat)
    case atStart => exact ⟨0, _, Nat.zero_le _, rfl, J0, HS0⟩
    case round =>
      obtain ⟨i, S, hi, rfl, J, HS⟩ := hrel
      by_cases hlt : i < len1
      · have hii : (i : Int) < (len1 : Int) := by omega
        obtain ⟨ad1, cap1', e1, _, hx⟩ := HP.out
        injection e1 with e1 _ e3
        subst e1 e3
        rcases hx with h0 | ⟨bp, op, rfl, hbp, hpx⟩
        · omega
        have g0 : wr.cell? ⟨bp, op + i, none⟩ = some (.int .i64 (X1 i)) := by rw [J.out.below.cell hbp]; exact hpx i hlt
        have hpb := new_par HR1.out.elder hlt
        have hnot := HhP.out i hlt
        obtain ⟨p, hpp⟩ : ∃ p : Nat, X1 i = (p : Int) := ⟨(X1 i).toNat, by omega⟩
        rw [hpp] at g0 hnot hpb
        have hpn : p < n := by omega
        have HPp := hid hpp
        have c1 := cell_at (i := 0) J.out.book rfl
        have CB := hid (bkBehind _ n PV b (p : Int) wr (HV.out.up J.out.below))
        have hbe : behE n b (p : Int) = 0 := by unfold behE; rw [HE0.out, if_pos rfl, if_pos (by omega)]
        rw [hbe, if_pos rfl, Int.toNat_natCast] at CB
        have HMe : Hid (∀ x : Int, x ∈ bhL b p ↔ ∃ y : Nat, x = y ∧ Rea b p y) := fun x => mem_bhL HR0.out.elder hpn
        have HLe : Hid (∀ y : Nat, Rea b p y → y ≤ p) := fun y h => h.le HR0.out.elder hpn
        have hll : (bhL b p).length ≤ p + 1 := behL_len b (p + 1) p (p + 1)
        generalize bhL b p = l at *
        have HhF : Hid (hasB (fun j => lh.getD j 0) lh.length (p : Int) = false) := by
          show _ = _
          cases hh : hasB (fun j => lh.getD j 0) lh.length (p : Int) with
          | false => rfl
          | true => exact absurd (getD_mem.1 hh) hnot
        clear hpx hpp hbe hnot
        unfold bookV at CB
        go_wp2_with fail
        refine Calls.mono CB.out ?_
        rintro e w2 ⟨hb2, vl, rfl, hl⟩
        have J2 := hid (J.out.up hb2)
        have HL := hid hl
        have CN := hid (contains_sl J2.out.hd (p : Int))
        rw [HhF.out] at CN
        obtain ⟨al, cl, rfl, _, _⟩ := hl
        clear hb2 CB
        go_wp2_with fail
        refine Calls.mono CN.out ?_
        rintro e w3 ⟨rfl, hw3⟩
        subst w3
        go_wp2
        clear c1 g0
        obtain ⟨w0, hw0⟩ : ∃ w0, wr = w0 := ⟨_, rfl⟩
        subst hw0
        obtain ⟨XL, hXL⟩ : ∃ XL : Nat → Int, (fun j => l.getD j 0) = XL := ⟨_, rfl⟩
        rw [hXL] at HL
        have HXL := hid hXL
        clear hXL
        go_loopw [76] (fun jv wz => ∃ (j : Nat) (T : Nat → Bool), j ≤ l.length ∧ jv = .int .i64 j ∧ Hid (GInv w wz (.slice ad n cap) u1.heap.size (.slice aa1 (n + 1) cr1) n PX (snocB n b len1 X1 nd of sz) (.slice ah lh.length ch) lh gi gm (1 + i * 13 + j) T) ∧ Hid (IntSl wz wz.heap.size (.slice al l.length cl) l.length XL) ∧ Hid (InT S XL j T)) (fun jv _ => l.length - (intOf jv).toNat)
        case atStart => exact ⟨0, S, Nat.zero_le _, rfl, J2, HL, inT_start S XL⟩
        case round =>
          obtain ⟨j, T, hj, rfl, JJ, HLL, HT⟩ := hrel
          by_cases hjl : j < l.length
          · have hji : (j : Int) < (l.length : Int) := by omega
            obtain ⟨al', cl', e2, _, hxl⟩ := HLL.out
            injection e2 with e2 _ e3
            subst e2 e3
            rcases hxl with h0 | ⟨b2, o2, rfl, hb2, hxl⟩
            · omega
            have g1 : wr.cell? ⟨b2, o2 + j, none⟩ = some (.int .i64 (XL j)) := hxl j hjl
            have hmem : XL j ∈ l := by rw [← HXL.out]; exact getD_mem.1 ((hasB_iff _ _ _).2 ⟨j, hjl, rfl⟩)
            obtain ⟨y, hy, hry⟩ := (HMe.out _).1 hmem
            have hyp := HLe.out y hry
            have HY := hid hy
            rw [hy] at g1
            obtain ⟨D, hD, hat, hhs, hsz⟩ := JJ.out.mp
            have HD := hid hD
            have HK := hid (keyInt (x := (y : Int)) (by omega))
            have m1 := cell_at (i := 0) JJ.out.var rfl
            clear hxl hmem hy hry hD
            go_wp2_with (at_mapUpdate; refine wpList_mapUpdate_own _ rfl _ _ _ 44 rfl 3 4 keyedInt Try.underlying44 _ gm (1 + i * 13 + j) _ rfl HD.out (by unfold maxLen; omega) _ _ _ rfl rfl HK.out _ [] (plainElem_bool Try.underlying4 true) ?_; intro w5 hown5 hgrow5; have HO5 := hid hown5; have HG5 := hid hgrow5; clear hown5 hgrow5)
            have hS5 := setM_put (x := y) HD.out hat hhs hsz (by omega) HO5.out
            have hL5 := (HLL.out.grownM JJ.out.mp HG5.out).mono HG5.out.size
            go_roundw
            case rel => exact ⟨j + 1, _, by omega, by go_num, JJ.out.grown HG5.out hS5, hL5, inT_step HT.out HY.out⟩
            case measure => simp only [intOf]; omega
          · have hje : l.length = j := by omega
            subst hje
            go_wp2
            go_roundw
            case rel => exact ⟨i + 1, T, by omega, by go_num, ⟨JJ.out.below, JJ.out.book, JJ.out.xb, JJ.out.var, JJ.out.vx, JJ.out.hd, JJ.out.mp.mono (by omega), JJ.out.og⟩, inP_step HS.out (by rw [HXL.out]; exact HT.out) HPp.out HMe.out⟩
            case measure => simp only [intOf]; omega
      · have hie : len1 = i := by omega
        subst hie
        have CX := hid (bkBehind _ (n + 1) PX (snocB n b len1 X1 nd of sz) (n : Int) wr J.out.vx)
        have hbe : behE (n + 1) (snocB n b len1 X1 nd of sz) (n : Int) = 0 := by unfold behE; rw [HE1.out, if_pos rfl, if_pos (by omega)]
        rw [hbe, if_pos rfl, Int.toNat_natCast] at CX
        have hpick : bhL (snocB n b len1 X1 nd of sz) n = pickL S (n + 1) := bhL_rea HR1.out.elder (Nat.lt_succ_self _) (fun x _ => (HS.out x).trans (rea_new HR0.out.elder HR1.out.elder).symm)
        have HLen : Hid ((bhL (snocB n b len1 X1 nd of sz) n).length = ((List.range (n + 1)).filter S).length) := by show _ = _; rw [hpick, pickL_count]
        have hll : (bhL (snocB n b len1 X1 nd of sz) n).length ≤ n + 1 := behL_len _ (n + 1) n (n + 1)
        have HRis : Hid (∀ i, i + 1 < (bhL (snocB n b len1 X1 nd of sz) n).length → (bhL (snocB n b len1 X1 nd of sz) n).getD i 0 < (bhL (snocB n b len1 X1 nd of sz) n).getD (i + 1) 0) := fun i hi => rise_at (by rw [hpick]; exact pickL_rise _ _) hi
        have HAll : Hid (∀ j, j < (bhL (snocB n b len1 X1 nd of sz) n).length → ∃ y : Nat, (bhL (snocB n b len1 X1 nd of sz) n).getD j 0 = (y : Int) ∧ y ≤ 1000 ∧ S y = true) := fun j hj => by
          have hm : (bhL (snocB n b len1 X1 nd of sz) n).getD j 0 ∈ bhL (snocB n b len1 X1 nd of sz) n := getD_mem.1 ((hasB_iff _ _ _).2 ⟨j, hj, rfl⟩)
          rw [hpick] at hm
          obtain ⟨y, h1, h2, h3⟩ := mem_pickL.1 hm
          exact ⟨y, by rw [hpick]; exact h3, by omega, h2⟩
        have HOld : Hid (∀ q, q < n → bhL (snocB n b len1 X1 nd of sz) q = bhL b q) := fun q hq => bhL_old HR0.out.elder HR1.out.elder hq
        generalize bhL (snocB n b len1 X1 nd of sz) n = ln at *
        have x9 := cell_at (i := 0) J.out.xb rfl
        clear hbe hpick
        unfold bookV at CX
        go_wp2_with fail
        refine Calls.mono CX.out ?_
        rintro e z1 ⟨hb1, vn, rfl, hln⟩
        have J1 := hid (J.out.up hb1)
        have HLn := hid hln
        obtain ⟨an, cn, rfl, _, _⟩ := hln
        obtain ⟨D, hD, _, _, hsz⟩ := J1.out.mp
        have hlen := hD.len (t := 44) (e := 4) Try.underlying44 3
        rw [hsz, ← HLen.out] at hlen
        have m1 := cell_at (i := 0) J1.out.var rfl
        have CS := hid (isSorted_rise HLn.out HRis.out)
        clear hb1 hD hsz CX x9
        go_wp2_with fail
        refine Calls.mono CS.out ?_
        rintro e z2 ⟨rfl, hb2⟩
        have J2 := hid (J1.out.up hb2)
        have CF := hid (containsFunc_all gi gm _ n S _ ln z2 (HLn.out.up hb2) (cell_at (i := 0) J2.out.var rfl) J2.out.mp HAll.out)
        clear hb2 CS hlen m1
        go_wp2_with fail
        refine Calls.mono CF.out ?_
        rintro e z3 ⟨rfl, hb3⟩
        have J3 := hid (J2.out.up hb3)
        clear hb3 CF
        by_cases hn0 : n = 0
        · have hni : ((n : Int) == 0) = true := by rw [beq_iff_eq]; omega
          clear hn0
          go_wp2
          go_ret
          exact ⟨rfl, J3.out.below⟩
        · have hni : ((n : Int) == 0) = false := by rw [beq_eq_false_iff_ne]; omega
          have hq0 := Int.emod_nonneg k (show (n : Int) ≠ 0 by omega)
          have hq1 := Int.emod_lt_of_pos k (show 0 < (n : Int) by omega)
          have CAt := hid (at_any k (n : Int) (by omega) z3)
          obtain ⟨q, hq⟩ : ∃ q : Nat, k % (n : Int) = (q : Int) := ⟨(k % (n : Int)).toNat, by omega⟩
          rw [hq] at hq1 CAt
          have hqn : q < n := by omega
          clear hn0 hq hq0
          go_wp2_with fail
          refine Calls.mono CAt.out ?_
          rintro e z4 ⟨rfl, hz4⟩
          subst z4
          have CB1 := hid (bkBehind _ n PV b (q : Int) z3 (HV.out.up J3.out.below))
          have hbe : behE n b (q : Int) = 0 := by unfold behE; rw [HE0.out, if_pos rfl, if_pos (by omega)]
          rw [hbe, if_pos rfl, Int.toNat_natCast] at CB1
          have hl1 : (bhL b q).length ≤ q + 1 := behL_len b (q + 1) q (q + 1)
          have c1 := cell_at (i := 0) J3.out.book rfl
          clear hbe
          unfold bookV at CB1
          go_wp2_with fail
          refine Calls.mono CB1.out ?_
          rintro e z5 ⟨hb5, va, rfl, hla⟩
          have J5 := hid (J3.out.up hb5)
          have HLa := hid hla
          obtain ⟨aa, ca, rfl, _, _⟩ := hla
          have CB2 := hid (bkBehind _ (n + 1) PX (snocB n b len1 X1 nd of sz) (q : Int) z5 J5.out.vx)
          have hbe : behE (n + 1) (snocB n b len1 X1 nd of sz) (q : Int) = 0 := by unfold behE; rw [HE1.out, if_pos rfl, if_pos (by omega)]
          rw [hbe, if_pos rfl, Int.toNat_natCast, HOld.out q hqn] at CB2
          have x9 := cell_at (i := 0) J5.out.xb rfl
          clear hbe hb5 CB1 c1
          unfold bookV at CB2
          go_wp2_with fail
          refine Calls.mono CB2.out ?_
          rintro e z6 ⟨hb6, vb, rfl, hlb⟩
          have J6 := hid (J5.out.up hb6)
          have HEq := hid (equal_isl (HLa.out.up hb6) hlb)
          rw [eqB_refl] at HEq
          obtain ⟨ab, cb, rfl, _, _⟩ := hlb
          clear hb6 CB2 x9
          go_wp2_with fail
          refine Calls.mono HEq.out ?_
          rintro e z7 ⟨rfl, q7, hq7⟩
          have hb7 : Below z6.heap.size z6 z7 := by rw [hq7]; exact drewN_below _ _
          have B7 := hid (J6.out.below.trans (hb7.mono J6.out.below.size))
          clear hb7 hq7 HEq
          go_wp2
          go_ret
          exact ⟨rfl, B7.out⟩
  · have hcb : (ea != 0) = true := by simpa using hea0
    clear hea0
    go_wp2_with fail
    refine Calls.mono (listed_any W) ?_
    rintro e u3 ⟨rfl, hb3⟩
    have B3 := hid (B2.out.trans (hb3.mono B2.out.size))
    clear hb3
    go_wp2
    go_ret
    exact ⟨rfl, B3.out⟩

end Go.Proofs.Ytdhefajaekackaa
