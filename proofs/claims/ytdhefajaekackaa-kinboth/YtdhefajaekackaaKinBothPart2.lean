/- Several texts of one proof, in their order. -/
import Derived.Test.YtdhefajaekackaaKnSum16
import Derived.Test.YtdhefajaekackaaKinBothPart0
import Derived.Test.YtdhefajaekackaaKinBothPart1

/- It is the same from both sides, and all that is behind both is behind one of them: the law's walk. -/
namespace Go.Proofs.Ytdhefajaekackaa

open Go.RowKit Go.Maps
set_option linter.unusedVariables false

/-- behind both: behind one of those where they come together -/
theorem top_above {n : Nat} {b : Bk} (hE : Elder n b) {i j : Nat} (hi : i < n) (hj : j < n) (f : Nat) : ∀ k, n ≤ k + f → Rea b i k → Rea b j k → ∃ t : Nat, (t : Int) ∈ comL b n i j ∧ Rea b t k := by
  induction f with
  | zero => intro k hk h1 _; have := h1.le hE hi; omega
  | succ f ih =>
    intro k hk h1 h2
    by_cases h : ∀ o, o ≠ k → Rea b i o → Rea b j o → ¬ Rea b o k
    · exact ⟨k, (mem_comL hE hi hj).2 ⟨k, rfl, ⟨h1, h2⟩, h⟩, Rea.refl _⟩
    · obtain ⟨o, ho⟩ := Classical.not_forall.1 h
      obtain ⟨ho1, ho⟩ := Classical.not_imp.1 ho
      obtain ⟨ho2, ho⟩ := Classical.not_imp.1 ho
      obtain ⟨ho3, ho⟩ := Classical.not_imp.1 ho
      have ho4 := Classical.not_not.1 ho
      have l1 := ho2.le hE hi
      have l2 := ho4.le hE (by omega)
      obtain ⟨t, h3, h4⟩ := ih o (by omega) ho2 ho3
      exact ⟨t, h3, h4.trans ho4⟩

/-- the set holds what is behind the first i of a list -/
def InK (b : Bk) (L : Nat → Int) (i : Nat) (S : Nat → Bool) : Prop := ∀ x : Nat, S x = true ↔ ∃ i', i' < i ∧ Rea b (L i').toNat x

theorem inK_step {b : Bk} {L : Nat → Int} {i p : Nat} {S T : Nat → Bool} {l : List Int} (hS : InK b L i S) (hT : InT S (fun j => l.getD j 0) l.length T) (hp : L i = (p : Int)) (hl : ∀ x : Int, x ∈ l ↔ ∃ y : Nat, x = y ∧ Rea b p y) : InK b L (i + 1) T := by
  intro x
  rw [hT x, hS x]
  constructor
  · rintro (⟨i', h1, h2⟩ | ⟨j', h1, h2⟩)
    · exact ⟨i', by omega, h2⟩
    · have hm : l.getD j' 0 ∈ l := getD_mem.1 ((hasB_iff _ _ _).2 ⟨j', h1, rfl⟩)
      obtain ⟨y, e, hr⟩ := (hl _).1 hm
      have h2' : l.getD j' 0 = (x : Int) := h2
      refine ⟨i, by omega, ?_⟩
      rw [hp, Int.toNat_natCast, show x = y by omega]
      exact hr
  · rintro ⟨i', h1, h2⟩
    by_cases ei : i' = i
    · subst ei
      rw [hp, Int.toNat_natCast] at h2
      obtain ⟨j', hj', e⟩ := (hasB_iff _ _ _).1 (getD_mem.2 ((hl (x : Int)).2 ⟨x, rfl, h2⟩))
      exact Or.inr ⟨j', hj', e⟩
    · exact Or.inl ⟨i', by omega, h2⟩

/-- what lies there while the set is made -/
structure KInv (w wr : World) (bk : Value) (vl : Value) (ll : Nat) (XL : Nat → Int) (vx : Value) (lx : Nat) (XX : Nat → Int) (vy : Value) (ly : Nat) (XY : Nat → Int) (gm mm n : Nat) (S : Nat → Bool) : Prop where
  below : Below w.heap.size w wr
  book : wr.heap[w.heap.size]? = some (.cells #[bk] 24 (0, 0))
  il : IntSl wr wr.heap.size vl ll XL
  ix : IntSl wr wr.heap.size vx lx XX
  iy : IntSl wr wr.heap.size vy ly XY
  mp : SetM wr gm mm n S
  og : w.heap.size ≤ gm

section

variable {w wr w' : World} {bk : Value} {vl : Value} {ll : Nat} {XL : Nat → Int} {vx : Value} {lx : Nat} {XX : Nat → Int} {vy : Value} {ly : Nat} {XY : Nat → Int} {gm mm n : Nat} {S : Nat → Bool}

theorem KInv.up (h : KInv w wr bk vl ll XL vx lx XX vy ly XY gm mm n S) (hb : Below wr.heap.size wr w') : KInv w w' bk vl ll XL vx lx XX vy ly XY gm mm n S :=
  ⟨h.below.trans (hb.mono h.below.size), keep h.book hb, h.il.up hb, h.ix.up hb, h.iy.up hb, h.mp.up hb, h.og⟩

theorem KInv.grown (h : KInv w wr bk vl ll XL vx lx XX vy ly XY gm mm n S) (hg : wr.grownBy w' (some gm)) {mm' : Nat} {S' : Nat → Bool} (hm : SetM w' gm mm' n S') : KInv w w' bk vl ll XL vx lx XX vy ly XY gm mm' n S' := by
  refine ⟨h.below.grown hg h.below.size (fun k hk => by cases hk; exact h.og), ?_, (h.il.grownM h.mp hg).mono hg.size, (h.ix.grownM h.mp hg).mono hg.size, (h.iy.grownM h.mp hg).mono hg.size, hm, h.og⟩
  rw [hg.block _ (Array.getElem?_eq_some_iff.1 h.book).1 (by intro e; injection e with e; exact h.mp.ne (cell_at (i := 0) h.book rfl) e)]
  exact h.book

end

theorem contains_isl {w : World} {B : Nat} {v : Value} {n : Nat} {X : Nat → Int} (h : IntSl w B v n X) (x : Int) (c : Bool) (hc : hasB X n x = c) :
    Calls Try.prog 24 #[v, .int .i64 x] w fun e w' => e = .returned (.bool c) ∧ w' = w := by
  have h1 := contains_sl h x
  rw [hc] at h1
  exact h1

set_option maxHeartbeats 8000000 in
set_option maxRecDepth 10000 in
theorem kinBoth_of (hO : KinOwes) (vs : Value) (n : Nat) (PV : Nat → Value) (b : Bk) (i j : Int) (w : World) (hv : VeSl w w.heap.size vs n PV b) :
    Calls Try.prog 6 #[bookV vs, .int .i64 i, .int .i64 j] w fun e w' => e = .returned (.bool true) ∧ Below w.heap.size w w' := by
  have HV := hid hv
  have HJ := hid (fun u => joined_any hO u)
  have HO := hid hO
  obtain ⟨ad, cap, rfl, ⟨hcap, _⟩, _⟩ := hv
  have hb0 := below_alloc w (.cells #[.slice ad n cap] 24)
  have k1 := heap_alloc_new w (.cells #[.slice ad n cap] 24)
  obtain ⟨U, hU⟩ : ∃ U, w.alloc (.cells #[.slice ad n cap] 24) = U := ⟨_, rfl⟩
  rw [hU] at hb0 k1
  have B0 := hid hb0
  have K0 := hid k1
  obtain ⟨c, hc⟩ : ∃ c, bookE n b = c := ⟨_, rfl⟩
  have CK : Hid (∀ u, Below w.heap.size w u → Calls Try.prog 18 #[.agg #[.slice ad n cap]] u fun e u' => e = .returned (.int .i64 c) ∧ Below u.heap.size u u') := fun u hb => by
    have h := bkCheck _ n PV b u (HV.out.up hb)
    rw [hc] at h
    exact h
  have HC := hid hc
  clear hb0 k1 hc hO
  unfold bookV
  go_enter Try.func6, Try.ntmps6
  go_wp2_with fail
  refine Calls.mono (HJ.out U) ?_
  rintro e u1 ⟨rfl, hb1⟩
  have B1 := hid (B0.out.trans (hb1.mono B0.out.size))
  have K1 := hid (keep K0.out hb1)
  have c1 := cell_at (i := 0) K1.out rfl
  clear hb1 B0 K0
  go_wp2_with fail
  refine Calls.mono (CK.out u1 B1.out) ?_
  rintro e u2 ⟨rfl, hb2⟩
  have B2 := hid (B1.out.trans (hb2.mono B1.out.size))
  have K2 := hid (keep K1.out hb2)
  have c1 := cell_at (i := 0) K2.out rfl
  clear hb2 B1 K1 CK
  by_cases hc0 : c = 0
  · subst hc0
    have HR := hid (right_of HC.out)
    have hn12 : n ≤ 12 := HR.out.le
    by_cases hn0 : n = 0
    · have hni : ((n : Int) == 0) = true := by rw [beq_iff_eq]; omega
      clear hn0
      go_wp2_with fail
      refine Calls.mono (HJ.out u2) ?_
      rintro e u3 ⟨rfl, hb3⟩
      have B3 := hid (B2.out.trans (hb3.mono B2.out.size))
      clear hb3
      go_wp2
      go_ret
      exact ⟨rfl, B3.out⟩
    · have hni : ((n : Int) == 0) = false := by rw [beq_eq_false_iff_ne]; omega
      have HAt : Hid (∀ (k : Int) (u : World), Calls Try.prog 28 #[.int .i64 k, .int .i64 (n : Int)] u fun e w' => e = .returned (.int .i64 (k % (n : Int))) ∧ w' = u) := fun k u => at_any k (n : Int) (by omega) u
      have hi0 := Int.emod_nonneg i (show (n : Int) ≠ 0 by omega)
      have hi1 := Int.emod_lt_of_pos i (show 0 < (n : Int) by omega)
      have hj0 := Int.emod_nonneg j (show (n : Int) ≠ 0 by omega)
      have hj1 := Int.emod_lt_of_pos j (show 0 < (n : Int) by omega)
      obtain ⟨p, hp⟩ : ∃ p : Nat, i % (n : Int) = (p : Int) := ⟨(i % (n : Int)).toNat, by omega⟩
      obtain ⟨q, hq⟩ : ∃ q : Nat, j % (n : Int) = (q : Int) := ⟨(j % (n : Int)).toNat, by omega⟩
      have hpn : p < n := by omega
      have hqn : q < n := by omega
      have HPm := hid hp
      have HQm := hid hq
      clear hn0 hi0 hi1 hj0 hj1 hp hq
      go_wp2
      go_quiet ((go_at_call 28; exact Calls.quiet_of_same (HAt.out _ _)))
      rw [HPm.out, HQm.out]
      have hb3 := drawn_below u2 nq
      obtain ⟨u3, hu3⟩ : ∃ u3, u2.drewN nq = u3 := ⟨_, rfl⟩
      rw [hu3] at hb3 ⊢
      have B3 := hid (B2.out.trans (hb3.mono B2.out.size))
      have K3 := hid (keep K2.out hb3)
      have hcm := comL_comm HR.out.elder hpn hqn
      have HMc : Hid (∀ x : Int, x ∈ comL b n p q ↔ ∃ k : Nat, x = k ∧ (Rea b p k ∧ Rea b q k) ∧ ∀ o, o ≠ k → Rea b p o → Rea b q o → ¬ Rea b o k) := fun x => mem_comL HR.out.elder hpn hqn
      have HTa : Hid (∀ k, Rea b p k → Rea b q k → ∃ t : Nat, (t : Int) ∈ comL b n p q ∧ Rea b t k) := fun k h1 h2 => top_above HR.out.elder hpn hqn n k (by omega) h1 h2
      have HFr : Hid (Rea b p q → comL b n p q = [(q : Int)]) := fun h => comL_from HR.out.elder hpn hqn h
      have HRi := hid (pickL_rise (topB b n p q) n)
      have CC1 : Hid (∀ u, Below w.heap.size w u → Calls Try.prog 29 #[.agg #[.slice ad n cap], .int .i64 (p : Int), .int .i64 (q : Int)] u (LiPost u (comL b n p q) 0)) := fun u hb => HO.out.commonOk (HV.out.up hb) p q _ (kinE_mk HC.out hpn hqn) rfl
      have CC2 : Hid (∀ u, Below w.heap.size w u → Calls Try.prog 29 #[.agg #[.slice ad n cap], .int .i64 (q : Int), .int .i64 (p : Int)] u (LiPost u (comL b n p q) 0)) := fun u hb => HO.out.commonOk (HV.out.up hb) q p _ (kinE_mk HC.out hqn hpn) hcm
      have CB : Hid (∀ (k : Nat) (u : World), k < n → Below w.heap.size w u → Calls Try.prog 14 #[.agg #[.slice ad n cap], .int .i64 (k : Int)] u (LiPost u (bhL b k) 0)) := fun k u hk hb => by
        have h := bkBehind _ n PV b (k : Int) u (HV.out.up hb)
        rw [show behE n b (k : Int) = 0 by unfold behE; rw [HC.out, if_pos rfl, if_pos (by omega)], if_pos rfl, Int.toNat_natCast] at h
        exact h
      have HMb : Hid (∀ (k : Nat), k < n → ∀ x : Int, x ∈ bhL b k ↔ ∃ y : Nat, x = y ∧ Rea b k y) := fun k hk x => mem_bhL HR.out.elder hk
      have HLe : Hid (∀ (k y : Nat), k < n → Rea b k y → y ≤ k) := fun k y hk h => h.le HR.out.elder hk
      have HBl : Hid (∀ k, (bhL b k).length ≤ k + 1) := fun k => behL_len b (k + 1) k (k + 1)
      have hll : (comL b n p q).length ≤ n := pickL_len _ _
      rw [show pickL (topB b n p q) n = comL b n p q from rfl] at HRi
      generalize comL b n p q = l at *
      have hlx : (bhL b p).length ≤ p + 1 := HBl.out p
      have hly : (bhL b q).length ≤ q + 1 := HBl.out q
      have c3 := cell_at (i := 0) K3.out rfl
      clear hb3 hu3 B2 K2 c1 HPm HQm hcm
      go_wp2_with fail
      refine Calls.mono (CC1.out u3 B3.out) ?_
      rintro e u4 ⟨hb4, vl, rfl, hl⟩
      have B4 := hid (B3.out.trans (hb4.mono B3.out.size))
      have K4 := hid (keep K3.out hb4)
      have HL4 := hid hl
      obtain ⟨al, cl, rfl, _, _⟩ := hl
      have c4 := cell_at (i := 0) K4.out rfl
      clear hb4 B3 K3 c3 CC1
      go_wp2_with fail
      refine Calls.mono (CC2.out u4 B4.out) ?_
      rintro e u5 ⟨hb5, vm, rfl, hm⟩
      have B5 := hid (B4.out.trans (hb5.mono B4.out.size))
      have K5 := hid (keep K4.out hb5)
      have HL5 := hid (HL4.out.up hb5)
      have HM5 := hid hm
      obtain ⟨am, cm, rfl, _, _⟩ := hm
      have c5 := cell_at (i := 0) K5.out rfl
      clear hb5 B4 K4 c4 CC2 HL4
      go_wp2_with fail
      refine Calls.mono (CB.out p u5 hpn B5.out) ?_
      rintro e u6 ⟨hb6, vx, rfl, hx⟩
      have B6 := hid (B5.out.trans (hb6.mono B5.out.size))
      have K6 := hid (keep K5.out hb6)
      have HL6 := hid (HL5.out.up hb6)
      have HM6 := hid (HM5.out.up hb6)
      have HX6 := hid hx
      obtain ⟨ax, cx, rfl, _, _⟩ := hx
      have c6 := cell_at (i := 0) K6.out rfl
      clear hb6 B5 K5 c5 HL5 HM5
      go_wp2_with fail
      refine Calls.mono (CB.out q u6 hqn B6.out) ?_
      rintro e u7 ⟨hb7, vy, rfl, hy⟩
      have B7 := hid (B6.out.trans (hb7.mono B6.out.size))
      have K7 := hid (keep K6.out hb7)
      have HL7 := hid (HL6.out.up hb7)
      have HM7 := hid (HM6.out.up hb7)
      have HX7 := hid (HX6.out.up hb7)
      have HY7 := hid hy
      obtain ⟨ay, cy, rfl, _, _⟩ := hy
      have HEq := hid (equal_isl HL7.out HM7.out)
      rw [same_list] at HEq
      clear hb7 B6 K6 c6 HL6 HM6 HX6 HM7
      go_wp2_with fail
      refine Calls.mono HEq.out ?_
      rintro e u8 ⟨rfl, q8, hq8⟩
      have hb8 : Below u7.heap.size u7 u8 := by rw [hq8]; exact drawn_below _ _
      obtain ⟨XL, hXL⟩ : ∃ XL : Nat → Int, (fun j => l.getD j 0) = XL := ⟨_, rfl⟩
      obtain ⟨XX, hXX⟩ : ∃ XX : Nat → Int, (fun j => (bhL b p).getD j 0) = XX := ⟨_, rfl⟩
      obtain ⟨XY, hXY⟩ : ∃ XY : Nat → Int, (fun j => (bhL b q).getD j 0) = XY := ⟨_, rfl⟩
      rw [hXL] at HL7
      rw [hXX] at HX7
      rw [hXY] at HY7
      have hcX : ∀ x : Int, hasB XX (bhL b p).length x = true ↔ ∃ y : Nat, x = y ∧ Rea b p y := fun x => by rw [← hXX, getD_mem]; exact HMb.out p hpn x
      have hcY : ∀ x : Int, hasB XY (bhL b q).length x = true ↔ ∃ y : Nat, x = y ∧ Rea b q y := fun x => by rw [← hXY, getD_mem]; exact HMb.out q hqn x
      have hcL : ∀ i, i < l.length → ∃ k : Nat, XL i = k ∧ (Rea b p k ∧ Rea b q k) ∧ ∀ o, o ≠ k → Rea b p o → Rea b q o → ¬ Rea b o k := fun i hi => by
        have hm : XL i ∈ l := by rw [← hXL]; exact getD_mem.1 ((hasB_iff _ _ _).2 ⟨i, hi, rfl⟩)
        exact (HMc.out _).1 hm
      have hcR : ∀ i i', i' < i → i < l.length → XL i' < XL i := fun i i' h1 h2 => by
        have h3 := List.pairwise_iff_getElem.1 HRi.out i' i (by omega) h2 h1
        rw [← hXL]
        simpa [List.getD_eq_getElem?_getD, h2, show i' < l.length by omega] using h3
      have hcT : ∀ k, Rea b p k → Rea b q k → ∃ i, i < l.length ∧ Rea b (XL i).toNat k := fun k h1 h2 => by
        obtain ⟨t, h3, h4⟩ := HTa.out k h1 h2
        obtain ⟨i, hi, e⟩ := (hasB_iff _ _ _).1 (getD_mem.2 h3)
        have e2 : XL i = (t : Int) := by rw [← hXL]; exact e
        exact ⟨i, hi, by rw [e2, Int.toNat_natCast]; exact h4⟩
      have HcX := hid hcX
      have HcY := hid hcY
      have HcL := hid hcL
      have HcR := hid hcR
      have HcT := hid hcT
      have HXL := hid hXL
      have hmm := @run_makeMap Try.prog
      have J0 : Hid (KInv w (u8.alloc (.map #[] 0)) (.slice ad n cap) (.slice al l.length cl) l.length XL (.slice ax (bhL b p).length cx) (bhL b p).length XX (.slice ay (bhL b q).length cy) (bhL b q).length XY u8.heap.size (0 * 13) n (fun _ => false)) := by
        have hb9 := hb8.alloc hb8.size (.map #[] 0)
        exact ⟨B7.out.trans (hb9.mono B7.out.size), keep K7.out hb9, HL7.out.up hb9, HX7.out.up hb9, HY7.out.up hb9, setM_made u8 n, Nat.le_trans B7.out.size hb8.size⟩
      have HS0 : Hid (InK b XL 0 (fun _ => false)) := fun x => ⟨(fun h => by cases h), fun ⟨i', h, _⟩ => absurd h (Nat.not_lt_zero _)⟩
      clear hb8 hq8 HEq hcX hcY hcL hcR hcT hXL hXX hXY HMc HTa HRi HL7 HX7 HY7 B7 K7
      go_wp2
      generalize u8.heap.size = gm at *
      clear hmm
      go_loopw [97] (fun iv wr => ∃ (i : Nat) (S : Nat → Bool), i ≤ l.length ∧ iv = .int .i64 i ∧ Hid (KInv w wr (.slice ad n cap) (.slice al l.length cl) l.length XL (.slice ax (bhL b p).length cx) (bhL b p).length XX (.slice ay (bhL b q).length cy) (bhL b q).length XY gm (i * 13) n S) ∧ Hid (InK b XL i S)) (fun iv _ => l.length - (intOf iv).toNat)
      case atStart => exact ⟨0, _, Nat.zero_le _, rfl, J0, HS0⟩
      case round =>
        obtain ⟨i2, S, hi2, rfl, J, HS⟩ := hrel
        by_cases hlt : i2 < l.length
        · have hii : (i2 : Int) < (l.length : Int) := by omega
          obtain ⟨al', cl', e1, _, hxl⟩ := J.out.il
          injection e1 with e1 _ e3
          subst e1 e3
          rcases hxl with h0 | ⟨b2, o2, rfl, hb2, hxl⟩
          · omega
          have g1 : wr.cell? ⟨b2, o2 + i2, none⟩ = some (.int .i64 (XL i2)) := hxl i2 hlt
          obtain ⟨k, hk, ⟨hpk, hqk⟩, htop⟩ := HcL.out i2 hlt
          have hkp := HLe.out p k hpn hpk
          have hkn : k < n := by omega
          have HKk := hid hk
          rw [hk] at g1
          have hSk : S k = false := by
            cases hS : S k with
            | false => rfl
            | true =>
              obtain ⟨i', h1, h2⟩ := (HS.out k).1 hS
              obtain ⟨k', hk', ⟨hpk', hqk'⟩, _⟩ := HcL.out i' (by omega)
              rw [hk', Int.toNat_natCast] at h2
              have h3 := HcR.out i2 i' h1 hlt
              rw [hk, hk'] at h3
              exact absurd h2 (htop k' (by omega) hpk' hqk')
          have c1 := cell_at (i := 0) J.out.book rfl
          have hlz := HBl.out k
          have HMz := hid (HMb.out k hkn)
          have HLz : Hid (∀ y, Rea b k y → y ≤ k) := fun y h => HLe.out k y hkn h
          have CBk := hid (CB.out k wr hkn J.out.below)
          have HxT := (HcX.out (k : Int)).2 ⟨k, rfl, hpk⟩
          have HyT := (HcY.out (k : Int)).2 ⟨k, rfl, hqk⟩
          have HxT' := hid HxT
          have HyT' := hid HyT
          have HSk := hid hSk
          clear hxl hk htop hSk hpk hqk HxT HyT
          generalize bhL b k = z at *
          go_wp2_with fail
          refine Calls.mono CBk.out ?_
          rintro e w2 ⟨hb2', vz, rfl, hz⟩
          have J2 := hid (J.out.up hb2')
          have HZ := hid hz
          have hlook := J2.out.mp.look (k := k) (by omega)
          rw [HSk.out] at hlook
          have CN1 := hid (contains_isl J2.out.ix (k : Int) true HxT'.out)
          have CN2 := hid (contains_isl J2.out.iy (k : Int) true HyT'.out)
          obtain ⟨az, cz, rfl, _, _⟩ := hz
          clear hb2' CBk g1 c1
          go_wp2_with fail
          refine Calls.mono CN1.out ?_
          rintro e w3 ⟨rfl, hw3⟩
          subst w3
          go_wp2_with fail
          refine Calls.mono CN2.out ?_
          rintro e w3 ⟨rfl, hw3⟩
          subst w3
          go_wp2
          clear hlook CN1 CN2
          obtain ⟨w0, hw0⟩ : ∃ w0, wr = w0 := ⟨_, rfl⟩
          subst hw0
          obtain ⟨XZ, hXZ⟩ : ∃ XZ : Nat → Int, (fun j => z.getD j 0) = XZ := ⟨_, rfl⟩
          rw [hXZ] at HZ
          have HXZ := hid hXZ
          clear hXZ
          go_loopw [128] (fun jv wz => ∃ (jj : Nat) (T : Nat → Bool), jj ≤ z.length ∧ jv = .int .i64 jj ∧ Hid (KInv w wz (.slice ad n cap) (.slice (some ⟨b2, o2, none⟩) l.length cl) l.length XL (.slice ax (bhL b p).length cx) (bhL b p).length XX (.slice ay (bhL b q).length cy) (bhL b q).length XY gm (i2 * 13 + jj) n T) ∧ Hid (IntSl wz wz.heap.size (.slice az z.length cz) z.length XZ) ∧ Hid (InT S XZ jj T)) (fun jv _ => z.length - (intOf jv).toNat)
          case atStart => exact ⟨0, S, Nat.zero_le _, rfl, J2, HZ, inT_start S XZ⟩
          case round =>
            obtain ⟨jj, T, hj, rfl, JJ, HZZ, HT⟩ := hrel
            by_cases hjl : jj < z.length
            · have hji : (jj : Int) < (z.length : Int) := by omega
              obtain ⟨az', cz', e2, _, hxz⟩ := HZZ.out
              injection e2 with e2 _ e3
              subst e2 e3
              rcases hxz with h0 | ⟨b3, o3, rfl, hb3, hxz⟩
              · omega
              have g1 : wr.cell? ⟨b3, o3 + jj, none⟩ = some (.int .i64 (XZ jj)) := hxz jj hjl
              have hmem : XZ jj ∈ z := by rw [← HXZ.out]; exact getD_mem.1 ((hasB_iff _ _ _).2 ⟨jj, hjl, rfl⟩)
              obtain ⟨y, hy, hry⟩ := (HMz.out _).1 hmem
              have hyk := HLz.out y hry
              have HY := hid hy
              rw [hy] at g1
              obtain ⟨D, hD, hat, hhs, hsz⟩ := JJ.out.mp
              have HD := hid hD
              have HK := hid (keyInt (x := (y : Int)) (by omega))
              clear hxz hmem hy hry hD
              go_wp2_with (at_mapUpdate; refine wpList_mapUpdate_own _ rfl _ _ _ 44 rfl 3 4 keyedInt Try.underlying44 _ gm (i2 * 13 + jj) _ rfl HD.out (by unfold maxLen; omega) _ _ _ rfl rfl HK.out _ [] (plainElem_bool Try.underlying4 true) ?_; intro w5 hown5 hgrow5; have HO5 := hid hown5; have HG5 := hid hgrow5; clear hown5 hgrow5)
              have hS5 := setM_put (x := y) HD.out hat hhs hsz (by omega) HO5.out
              have hL5 := (HZZ.out.grownM JJ.out.mp HG5.out).mono HG5.out.size
              go_roundw
              case rel => exact ⟨jj + 1, _, by omega, by go_num, JJ.out.grown HG5.out hS5, hL5, inT_step HT.out HY.out⟩
              case measure => simp only [intOf]; omega
            · have hje : z.length = jj := by omega
              subst hje
              go_wp2
              go_roundw
              case rel => exact ⟨i2 + 1, T, by omega, by go_num, ⟨JJ.out.below, JJ.out.book, JJ.out.il, JJ.out.ix, JJ.out.iy, JJ.out.mp.mono (by omega), JJ.out.og⟩, inK_step HS.out (by rw [HXZ.out]; exact HT.out) HKk.out HMz.out⟩
              case measure => simp only [intOf]; omega
        · have hie : l.length = i2 := by omega
          have HIe := hid hie
          have HSa : Hid (∀ k, Rea b p k → Rea b q k → S k = true) := fun k h1 h2 => by
            obtain ⟨i', h3, h4⟩ := HcT.out k h1 h2
            exact (HS.out k).2 ⟨i', by omega, h4⟩
          clear hie hlt
          have hlt : ¬ (i2 : Int) < (l.length : Int) := by have := HIe.out; omega
          go_wp2
          obtain ⟨w0, hw0⟩ : ∃ w0, wr = w0 := ⟨_, rfl⟩
          subst hw0
          go_loopw [138] (fun jv wz => ∃ (jj : Nat), jj ≤ (bhL b p).length ∧ jv = .int .i64 jj ∧ Hid (KInv w wz (.slice ad n cap) (.slice al l.length cl) l.length XL (.slice ax (bhL b p).length cx) (bhL b p).length XX (.slice ay (bhL b q).length cy) (bhL b q).length XY gm (i2 * 13) n S)) (fun jv _ => (bhL b p).length - (intOf jv).toNat)
          case atStart => exact ⟨0, Nat.zero_le _, rfl, J⟩
          case round =>
            obtain ⟨jj, hj, rfl, JJ⟩ := hrel
            by_cases hjl : jj < (bhL b p).length
            · have hji : (jj : Int) < ((bhL b p).length : Int) := by omega
              obtain ⟨ax', cx', e2, _, hxz⟩ := JJ.out.ix
              injection e2 with e2 _ e3
              subst e2 e3
              rcases hxz with h0 | ⟨b3, o3, rfl, hb3, hxz⟩
              · omega
              have g1 : wr.cell? ⟨b3, o3 + jj, none⟩ = some (.int .i64 (XX jj)) := hxz jj hjl
              obtain ⟨y, hy, hry⟩ := (HcX.out _).1 ((hasB_iff _ _ _).2 ⟨jj, hjl, rfl⟩)
              rw [hy] at g1
              have hyp := HLe.out p y hpn hry
              have hlook := JJ.out.mp.look (k := y) (by omega)
              cases hh : hasB XY (bhL b q).length (y : Int) with
              | true =>
                obtain ⟨y2, e4, hry2⟩ := (HcY.out _).1 hh
                have hSy : S y = true := HSa.out y hry (by rw [show y = y2 by omega]; exact hry2)
                rw [hSy] at hlook
                have CN := hid (contains_isl JJ.out.iy (y : Int) true hh)
                clear hxz hy hry hh e4 hry2 hSy
                go_wp2_with fail
                refine Calls.mono CN.out ?_
                rintro e w3 ⟨rfl, hw3⟩
                subst w3
                go_wp2
                go_roundw
                case rel => exact ⟨jj + 1, by omega, by go_num, JJ⟩
                case measure => simp only [intOf]; omega
              | false =>
                have CN := hid (contains_isl JJ.out.iy (y : Int) false hh)
                clear hxz hy hry hh hlook
                go_wp2_with fail
                refine Calls.mono CN.out ?_
                rintro e w3 ⟨rfl, hw3⟩
                subst w3
                go_wp2
                go_roundw
                case rel => exact ⟨jj + 1, by omega, by go_num, JJ⟩
                case measure => simp only [intOf]; omega
            · have hje : (bhL b p).length = jj := by omega
              have hjn : ¬ (jj : Int) < ((bhL b p).length : Int) := by omega
              clear hje hjl
              cases hh : hasB XX (bhL b p).length (q : Int) with
              | false =>
                have CN := hid (contains_isl JJ.out.ix (q : Int) false hh)
                clear hh
                go_wp2_with fail
                refine Calls.mono CN.out ?_
                rintro e w3 ⟨rfl, hw3⟩
                subst w3
                go_wp2
                go_ret
                exact ⟨rfl, JJ.out.below⟩
              | true =>
                obtain ⟨y2, e4, hry2⟩ := (HcX.out _).1 hh
                have hle := HFr.out (by rw [show q = y2 by omega]; exact hry2)
                have CN := hid (contains_isl JJ.out.ix (q : Int) true hh)
                have HLq := hid hle
                clear hh e4 hry2 hle
                go_wp2_with fail
                refine Calls.mono CN.out ?_
                rintro e w3 ⟨rfl, hw3⟩
                subst w3
                have hbF := below_alloc wr (.cells #[.int .i64 (q : Int)] 3)
                have HEq := hid (equal_isl (JJ.out.il.up hbF) (isl_lit1 (heap_alloc_new wr (.cells #[.int .i64 (q : Int)] 3))))
                rw [show eqB l.length 1 XL (fun i => [(q : Int)].getD i 0) = true by rw [← HXL.out, HLq.out]; exact same_list [(q : Int)]] at HEq
                clear hbF
                go_wp2_with fail
                refine Calls.mono HEq.out ?_
                rintro e w4 ⟨rfl, q4, hq4⟩
                have hb4 : Below wr.heap.size wr w4 := by rw [hq4]; exact (below_alloc wr _).trans ((drawn_below _ q4).mono (below_alloc wr _).size)
                have B4 := hid (JJ.out.below.trans (hb4.mono JJ.out.below.size))
                clear hb4 hq4 HEq
                go_wp2
                go_ret
                exact ⟨rfl, B4.out⟩
  · have hcb : (c != 0) = true := by simpa using hc0
    clear hc0
    go_wp2_with fail
    refine Calls.mono (HJ.out u2) ?_
    rintro e u3 ⟨rfl, hb3⟩
    have B3 := hid (B2.out.trans (hb3.mono B2.out.size))
    clear hb3
    go_wp2
    go_ret
    exact ⟨rfl, B3.out⟩

end Go.Proofs.Ytdhefajaekackaa
