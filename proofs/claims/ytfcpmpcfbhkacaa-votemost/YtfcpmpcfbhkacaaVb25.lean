/- Several texts of one proof, in their order. -/
import Derived.Test.YtfcpmpcfbhkacaaVb24

/- What package share's Split answers: its walk. -/
namespace Go.Proofs.Ytfcpmpcfbhkacaa

open Go.RowKit CurveMath
set_option linter.unusedVariables false

theorem split_no (nd of sz : Int) (v : Value) (w : World) (hp : ¬ planOk nd of sz = true) {n : Nat} {D : Nat → Int} (h : IntSl w w.heap.size v n D) :
    Calls Try.prog 12 #[planV nd of sz, v] w fun e w' => e = .returned (.tuple #[.slice none 0 0, .int .i64 2]) ∧ Below w.heap.size w w' := by
  have HBx := hid (below_alloc w (.cells #[.int .i64 nd, .int .i64 of, .int .i64 sz] 23))
  have HC := hid (shCheck nd of sz (w.alloc (.cells #[.int .i64 nd, .int .i64 of, .int .i64 sz] 23)))
  have e : chkP nd of sz = 2 := by unfold chkP; rw [if_neg hp]
  rw [e] at HC
  obtain ⟨a, c, rfl, _, _⟩ := h
  clear hp e
  unfold planV
  go_enter Try.func12, Try.ntmps12
  go_wp2_with (go_at_call 17; go_must (refine HC.out.mono ?_; rintro e w1 ⟨rfl, hb1⟩; have HB1 := hid (HBx.out.trans (hb1.mono HBx.out.size)); clear hb1))
  go_ret2
  exact ⟨rfl, HB1.out⟩

theorem split_num (nd of sz : Int) (v : Value) (n : Nat) (D : Nat → Int) (w : World) (hp : planOk nd of sz = true) (hn : ¬ numE n D sz = 0) (h : IntSl w w.heap.size v n D) :
    Calls Try.prog 12 #[planV nd of sz, v] w fun e w' => e = .returned (.tuple #[.slice none 0 0, .int .i64 (numE n D sz)]) ∧ Below w.heap.size w w' := by
  have hbx := below_alloc w (.cells #[.int .i64 nd, .int .i64 of, .int .i64 sz] 23)
  have HC := hid (shCheck nd of sz (w.alloc (.cells #[.int .i64 nd, .int .i64 of, .int .i64 sz] 23)))
  have e : chkP nd of sz = 0 := by unfold chkP; rw [if_pos hp]
  rw [e] at HC
  have HI := hid (h.up hbx)
  have HBx := hid hbx
  have HN := hid (fun (w1 : World) (hb : IntSl w1 w1.heap.size v n D) => shNumbers v n D sz w1 hb)
  obtain ⟨a, c, rfl, _, _⟩ := h
  generalize numE n D sz = ec at *
  have hb : (ec != 0) = true := by simpa using hn
  clear hp e hbx hn
  unfold planV
  go_enter Try.func12, Try.ntmps12
  go_wp2_with fail
  refine HC.out.mono ?_
  rintro e w1 ⟨rfl, hb1⟩
  have p2 : w1.cell? ⟨w.heap.size, 2, none⟩ = some (.int .i64 sz) := by rw [hb1.cell (by simp)]; exact cell_at (heap_alloc_new _ _) rfl
  have HI1 := hid (HI.out.up hb1)
  have HB1 := hid (HBx.out.trans (hb1.mono HBx.out.size))
  clear hb1
  go_wp2_with fail
  refine (HN.out w1 HI1.out).mono ?_
  rintro e w2 ⟨rfl, hw2⟩
  subst w2
  go_wp2
  go_ret2
  exact ⟨rfl, HB1.out⟩

set_option maxHeartbeats 1000000 in
set_option maxRecDepth 10000 in
theorem split_good (d m s : Nat) (D : Nat → Int) (a : Option Addr) (cp : Nat) (w : World) (hp : planOk (d : Int) (m : Int) (s : Int) = true) (hD : ∀ j, j < s → 0 ≤ D j ∧ D j ≤ 30) {R : Nat} (hR : rowsN (d : Int) (s : Int) = R)
    (h : IntSl w w.heap.size (.slice a s cp) s D) :
    Calls Try.prog 12 #[planV (d : Int) (m : Int) (s : Int), .slice a s cp] w fun e w' => ∃ g0 gl G, e = .returned (.tuple #[.slice (some ⟨gl, 0, none⟩) m m, .int .i64 0]) ∧ SpInv w w' d m s R s D g0 gl G m (fun k j => shv d s D k j) := by
  obtain ⟨hnd, hof, hsz⟩ := planOk_spec hp
  have hrb := rowsN_bd hnd hsz
  rw [hR] at hrb
  have hRo := fun w => shLong (d : Int) (m : Int) (s : Int) w
  have e2 : longP (d : Int) (m : Int) (s : Int) = (R : Int) := by unfold longP; rw [if_pos hp, hR]
  rw [e2] at hRo
  have HRo := hid hRo
  have hdd : 1 ≤ d ∧ d ≤ 4 := by omega
  have hmm : d ≤ m ∧ m ≤ 8 := by omega
  have hRR : 1 ≤ R ∧ R ≤ 24 := by omega
  have hss : 1 ≤ s ∧ s ≤ 24 := by omega
  have hsR : s ≤ R * d ∧ R * d ≤ 27 := by
    have h1 := hrb.1
    have h2 := hrb.2.2.2.2
    have h3 : ((R * d : Nat) : Int) = (R : Int) * (d : Int) := by simp
    omega
  have hmul : (R : Int) * (d : Int) = ((R * d : Nat) : Int) := by simp
  have hbx := below_alloc w (.cells #[.int .i64 (d : Int), .int .i64 (m : Int), .int .i64 (s : Int)] 23)
  have HC := hid (shCheck (d : Int) (m : Int) (s : Int) (w.alloc (.cells #[.int .i64 (d : Int), .int .i64 (m : Int), .int .i64 (s : Int)] 23)))
  have e : chkP (d : Int) (m : Int) (s : Int) = 0 := by unfold chkP; rw [if_pos hp]
  rw [e] at HC
  have hnum : numE s D (s : Int) = 0 := by
    unfold numE
    have h4 : numsB s D = true := decide_eq_true fun j hj => (isNum_iff _).2 (hD j hj)
    rw [if_pos rfl, if_pos h4]
  have HI := hid (h.up hbx)
  have HBx := hid hbx
  have HD := hid hD
  have HMul := hid hmul
  obtain ⟨ii, hi, hzz0, hzz1, hzz2⟩ := info_parts Try.infoInt
  obtain ⟨is, his, hsz0, hsz1, hsz2⟩ := info_parts Try.infoShare
  clear hRo e2 hrb hnd hof hsz hp hR h hD e hbx hmul
  unfold planV
  go_enter Try.func12, Try.ntmps12
  go_wp2_with fail
  refine HC.out.mono ?_
  rintro e w1 ⟨rfl, hb1⟩
  have p0 : w1.cell? ⟨w.heap.size, 0, none⟩ = some (.int .i64 (d : Int)) := by rw [hb1.cell (by simp)]; exact cell_at (heap_alloc_new _ _) rfl
  have p1 : w1.cell? ⟨w.heap.size, 1, none⟩ = some (.int .i64 (m : Int)) := by rw [hb1.cell (by simp)]; exact cell_at (heap_alloc_new _ _) rfl
  have p2 : w1.cell? ⟨w.heap.size, 2, none⟩ = some (.int .i64 (s : Int)) := by rw [hb1.cell (by simp)]; exact cell_at (heap_alloc_new _ _) rfl
  have HI1 := hid (HI.out.up hb1)
  have HB1 := hid (HBx.out.trans (hb1.mono HBx.out.size))
  have HN := hid (shNumbers _ s D (s : Int) w1 HI1.out)
  rw [hnum] at HN
  clear hb1 hnum
  have KP : Hid (∀ w', Below w1.heap.size w1 w' → w'.cell? ⟨w.heap.size, 0, none⟩ = some (.int .i64 (d : Int)) ∧ w'.cell? ⟨w.heap.size, 1, none⟩ = some (.int .i64 (m : Int)) ∧ w'.cell? ⟨w.heap.size, 2, none⟩ = some (.int .i64 (s : Int))) := fun w' hb' =>
    ⟨by rw [hb'.cell (cell_lt p0)]; exact p0, by rw [hb'.cell (cell_lt p1)]; exact p1, by rw [hb'.cell (cell_lt p2)]; exact p2⟩
  have hwl : w.heap.size < w1.heap.size := cell_lt p0
  go_wp2_with fail
  refine HN.out.mono ?_
  rintro e w2 ⟨rfl, hw2⟩
  subst w2
  go_wp2_with fail
  have hne : Nonempty (Of (Below w1.heap.size w1)) := ⟨⟨w1, Below.refl _ _⟩⟩
  have F0 : ∀ u : Of (Below w1.heap.size w1), u.val.cell? ⟨w.heap.size, 0, none⟩ = some (.int .i64 (d : Int)) := fun u => (KP.out u.val u.is).1
  have F1 : ∀ u : Of (Below w1.heap.size w1), u.val.cell? ⟨w.heap.size, 1, none⟩ = some (.int .i64 (m : Int)) := fun u => (KP.out u.val u.is).2.1
  have F2 : ∀ u : Of (Below w1.heap.size w1), u.val.cell? ⟨w.heap.size, 2, none⟩ = some (.int .i64 (s : Int)) := fun u => (KP.out u.val u.is).2.2
  have HD1 : Hid (Below w1.heap.size w1 w1.drew) := ⟨rfl, rfl, rfl, Nat.le_refl _, fun _ _ => rfl⟩
  refine region_mixed (Below w1.heap.size w1) [([0, 2, 3], 1), ([4], 5)] [6] (by kernel_rfl) (by kernel_rfl) HD1.out ?_
  refine mixO_cons ?_
  repeat (go_big_quiet_step (fail))
  refine wpQuiet_nil ?_
  intro K hK
  go_wp2_with fail
  refine Calls.mono (HRo.out _) ?_
  rintro e w2 ⟨rfl, hb2⟩
  have HB2 : Hid (Below w1.heap.size w1 w2) := HD1.out.trans (hb2.mono HD1.out.size)
  clear hb2
  go_wp2
  refine ⟨rfl, hK _ _ HB2.out ?_⟩
  clear hK K
  have hb3 : 0 ≤ (R : Int) * (d : Int) ∧ (R : Int) * (d : Int) ≤ 27 := by rw [HMul.out]; omega
  refine mixO_cons ?_
  repeat (go_big_quiet_step (fail))
  refine wpQuiet_nil ?_
  intro K hK
  go_wp2_with (at_make; refine wpList_make_full _ rfl (.tmp 30) (.tmp 30) 24 rfl _ 3 ii (.int .i64 0) 1 Try.underlying24 hi hzz0 hzz1 _ _ _ _ (R * d) rfl rfl HMul.out HMul.out (by rw [hzz2]; omega) (by unfold maxLen; omega) (Nat.le_refl _) ?_; intro w3 ho3 hg3; have HO3 := hid ho3; have HG3 := hid hg3; clear ho3 hg3)
  have HW3 := hid (below_of_grown HG3.out)
  have HB3 : Hid (Below w1.heap.size w1 w3) := HB2.out.trans (HW3.out.mono HB2.out.size)
  refine ⟨rfl, hK _ _ HB3.out ?_⟩
  clear hK K
  refine mixO_nil ?_
  repeat (go_big_quiet_step (fail))
  refine wpQuiet_nil ?_
  have HBl3 := hid (made_block HO3.out)
  have hg0 : w.heap.size < w2.heap.size := Nat.lt_of_lt_of_le hwl HB2.out.size
  have hI3 := HI1.out.up HB3.out
  obtain ⟨w4, hrun, hc4, hf4, hb4⟩ := copy_run (cm := R * d) HBl3.out hI3 (c := s) (Nat.min_eq_left hsR.1).symm hss.1
  have HW4 := hid (hb4 w2.heap.size w2 HW3.out (Nat.le_refl _))
  have HC4 := hid hc4
  have HB4 : Hid (Below w1.heap.size w1 w4) := HB2.out.trans (HW4.out.mono HB2.out.size)
  obtain ⟨q0, q1, q2⟩ := KP.out w4 HB4.out
  have hg4 : w2.heap.size < w4.heap.size := cell_lt (hc4 0 (by omega))
  clear hc4 hf4 hb4 hI3 HBl3 p0 p1 p2
  go_wp2_with (at_make; refine wpList_make_full _ rfl (.tmp 36) (.tmp 36) 25 rfl _ 27 is (.agg #[.int .i64 0, .slice none 0 0]) 2 Try.underlying25 his hsz0 hsz1 _ _ _ _ m rfl rfl rfl rfl (by rw [hsz2]; omega) (by unfold maxLen; omega) (Nat.le_refl _) ?_; intro w5 ho5 hg5; have HO5 := hid ho5; have HG5 := hid hg5; clear ho5 hg5)
  have hW5 := below_of_grown HG5.out
  have J0 : Hid (SpInv w w5 d m s R s D w2.heap.size w4.heap.size (fun _ => 0) 0 (fun _ _ => 0)) := by
    have hB5 := HB4.out.trans (hW5.mono HB4.out.size)
    obtain ⟨r0, r1, r2⟩ := KP.out w5 hB5
    exact ⟨HB1.out.trans (hB5.mono HB1.out.size), r0, r1, r2, fun j hj => by rw [hW5.cell (cell_lt (HC4.out j hj))]; exact HC4.out j hj, fun i hi => owns_room HO5.out i hi, fun k hk => absurd hk (Nat.not_lt_zero _), fun k hk => absurd hk (Nat.not_lt_zero _), fun k hk => absurd hk (Nat.not_lt_zero _), fun k hk => absurd hk (Nat.not_lt_zero _), hg0, hg4, fun k hk => absurd hk (Nat.not_lt_zero _), fun i j hi => absurd hi (Nat.not_lt_zero _)⟩
  generalize w2.heap.size = g0 at *
  generalize w4.heap.size = gl at *
  clear hrun q0 q1 q2 HO5 HG5 HC4 HW4 HB4 hW5 HO3 HG3 HW3 HB3
  go_loopw [40] (fun iv wr => ∃ (k : Nat) (G : Nat → Nat), k ≤ m ∧ iv = .int .i64 k ∧ Hid (SpInv w wr d m s R s D g0 gl G k (fun _ _ => 0))) (fun iv _ => m - (intOf iv).toNat)
  case atStart => exact ⟨0, _, Nat.zero_le _, rfl, J0⟩
  case round =>
    obtain ⟨k, G, hk, rfl, J⟩ := hrel
    by_cases hlt : k < m
    · have hki : (k : Int) < (m : Int) := by omega
      have r0 := J.out.p0
      have r1 := J.out.p1
      have r2 := J.out.p2
      go_wp2_with fail
      refine Calls.mono (HRo.out _) ?_
      rintro e w6 ⟨rfl, hb6⟩
      have J6 := hid (J.out.up hb6)
      clear hb6
      go_wp2_with (at_make; refine wpList_make_full _ rfl (.tmp 47) (.tmp 47) 24 rfl _ 3 ii (.int .i64 0) 1 Try.underlying24 hi hzz0 hzz1 _ _ _ _ R rfl rfl rfl rfl (by rw [hzz2]; omega) (by unfold maxLen; omega) (Nat.le_refl _) ?_; intro w7 ho7 hg7; have R7 := hid (row_made ho7 hg7); clear ho7 hg7; obtain ⟨⟨u0, c0⟩, f0⟩ := (J6.out.up R7.out.below).room (k * 2) (by omega); obtain ⟨⟨u1, c1⟩, f1⟩ := (J6.out.up R7.out.below).room (k * 2 + 1) (by omega))
      go_roundw
      case rel => exact ⟨k + 1, _, by omega, by go_num, J6.out.push hlt hRR.1 R7.out⟩
      case measure => simp only [intOf]; omega
    · have hke : k = m := by omega
      subst hke
      have r0 := J.out.p0
      have r1 := J.out.p1
      have r2 := J.out.p2
      go_wp2_with fail
      refine Calls.mono (HRo.out _) ?_
      rintro e w6 ⟨rfl, hb6⟩
      have J6 := hid (J.out.up hb6)
      clear hb6
      go_wp2
      go_loopw [54] (fun iv wr => ∃ r : Nat, r ≤ R ∧ iv = .int .i64 r ∧ Hid (SpInv w wr d k s R s D g0 gl G k (fun k' j => if j < r then shv d s D k' j else 0))) (fun iv _ => R - (intOf iv).toNat)
      case atStart => exact ⟨0, Nat.zero_le _, rfl, J6.out.congr fun k' j _ _ => by rw [if_neg (Nat.not_lt_zero _)]⟩
      case round =>
        obtain ⟨r, hr, rfl, JR⟩ := hrel
        by_cases hrR : r < R
        · have hri : (r : Int) < (R : Int) := by omega
          have hrd : 0 ≤ (r : Int) * (d : Int) ∧ (r : Int) * (d : Int) ≤ 27 := ⟨Int.mul_nonneg (by omega) (by omega), by
            have h1 : (r : Int) * (d : Int) ≤ (R : Int) * (d : Int) := Int.mul_le_mul_of_nonneg_right (by omega) (by omega)
            omega⟩
          have hrd2 : ((r : Int) + 1) * (d : Int) = (r : Int) * (d : Int) + (d : Int) := by rw [Int.add_mul, Int.one_mul]
          have hrd3 : (r : Int) * (d : Int) + (d : Int) ≤ ((R * d : Nat) : Int) := by
            rw [← hrd2, ← HMul.out]
            exact Int.mul_le_mul_of_nonneg_right (by omega) (by omega)
          have r0 := JR.out.p0
          have hne2 : Nonempty (Of (fun u : World => u.cell? ⟨w.heap.size, 0, none⟩ = some (.int .i64 (d : Int)))) := ⟨⟨wr, r0⟩⟩
          have E0 : ∀ u : Of (fun u : World => u.cell? ⟨w.heap.size, 0, none⟩ = some (.int .i64 (d : Int))), u.val.cell? ⟨w.heap.size, 0, none⟩ = some (.int .i64 (d : Int)) := fun u => u.is
          go_wp2_with fail
          refine region_mixed (fun u : World => u.cell? ⟨w.heap.size, 0, none⟩ = some (.int .i64 (d : Int))) [([0, 1, 3, 4, 5, 6, 7, 8, 9, 10, 11, 12, 13], 2), ([], 14)] [15] (by kernel_rfl) (by kernel_rfl) r0 ?_
          refine mixO_cons ?_
          repeat (go_big_quiet_step (fail))
          refine wpQuiet_nil ?_
          intro K hK
          go_wp2_with fail
          refine Calls.mono (shUpTo d (by omega) _) ?_
          rintro e w7 ⟨vp, rfl, hvp⟩
          have hb7 : Below wr.heap.size wr w7 := Below.trans (⟨rfl, rfl, rfl, Nat.le_refl _, fun _ _ => rfl⟩ : Below wr.heap.size wr wr.drew) hvp.2
          have J7 := hid (JR.out.up hb7)
          have HVp := hid (hvp.isl hdd.1 (by omega))
          have HVb := hid (fun g (hg : vp.ownBlock = some g) => (hvp.1.lt g hg).1)
          clear hvp hb7
          go_wp2
          refine ⟨rfl, hK _ _ J7.out.p0 ?_⟩
          clear hK K
          refine mixO_cons (lq := []) ?_ rfl
          refine wpQuiet_nil ?_
          intro K hK
          go_wp2_with fail
          have hrn : r * d + d ≤ R * d := by
            have h1 : ((r * d : Nat) : Int) = (r : Int) * (d : Int) := by simp
            omega
          have HVy : Hid (IntSl w7 w7.heap.size (.slice (some ⟨g0, r * d, none⟩) d (R * d - r * d)) d (fun i => padD s D (r * d + i))) :=
            ⟨_, _, rfl, ⟨by omega, by omega⟩, Or.inr ⟨g0, r * d, rfl, cell_lt (J7.out.whole 0 (by omega)), fun j hj => J7.out.whole (r * d + j) (by omega)⟩⟩
          refine Calls.mono (shThrough vp _ d (fun j => (j : Int)) (fun i => padD s D (r * d + i)) w7 HVp.out HVy.out) ?_
          rintro e w8 ⟨rfl, hb8, hf8, k8x, k8z⟩
          have J8 := hid (J7.out.up hb8)
          have AF := hid hf8
          have AO : Hid (∀ k', k' < k → AtOff (G k') w8 w7.heap.size (w7.heap.size + 1)) := fun k' hk' => by
            have hlt7 : G k' < w7.heap.size := cell_lt (J7.out.row k' hk' 0 (by omega))
            have hltr : G k' < wr.heap.size := cell_lt (JR.out.row k' hk' 0 (by omega))
            have hgo := J7.out.oG k' hk'
            have hgl := J7.out.ol
            refine ⟨by omega, by omega, fun v hv e => ?_, fun v hv e => ?_⟩
            · rw [k8x] at hv
              injection hv with hv
              rw [← hv] at e
              have := HVb.out _ e
              have h9 : wr.drew.heap.size = wr.heap.size := rfl
              omega
            · rw [k8z] at hv
              injection hv with hv
              rw [← hv] at e
              injection e with e
              have e2 : g0 = G k' := e
              omega
          have HGd := hid (good_row (n := s) (D := D) ⟨hdd.1, by omega⟩ HD.out r)
          clear hb8 hf8 k8x k8z
          generalize w7.heap.size = bx at *
          go_wp2
          refine ⟨rfl, hK _ _ J8.out.p0 ?_⟩
          clear hK K
          refine mixO_nil ?_
          repeat (go_big_quiet_step (fail))
          refine wpQuiet_nil ?_
          unfold atF
          clear r0 hne2 E0
          go_wp2
          go_loopw [74] (fun iv wz => ∃ k2 : Nat, k2 ≤ k ∧ iv = .int .i64 k2 ∧ Hid (SpInv w wz d k s R s D g0 gl G k (fun k' j => if j < r ∨ (j = r ∧ k' < k2) then shv d s D k' j else 0)) ∧ Hid (AtFn wz bx (bx + 1) d (fun j => (j : Int)) (fun i => padD s D (r * d + i))) ∧ Hid (∀ k', k' < k → AtOff (G k') wz bx (bx + 1))) (fun iv _ => k - (intOf iv).toNat)
          case atStart => exact ⟨0, Nat.zero_le _, rfl, J8.out.congr fun k' j _ _ => by
            by_cases h : j < r
            · rw [if_pos h, if_pos (Or.inl h)]
            · rw [if_neg h, if_neg (by omega)], AF, AO⟩
          case round =>
            obtain ⟨k2, hk2, rfl, JZ, AF, AO⟩ := hrel
            by_cases hkk : k2 < k
            · have hkki : (k2 : Int) < (k : Int) := by omega
              have l1 := JZ.out.l1 k2 hkk
              have hne3 : Nonempty (Of (fun u : World => u.cell? ⟨gl, k2 * 2 + 1, none⟩ = some (.slice (some ⟨G k2, 0, none⟩) R R))) := ⟨⟨wr, l1⟩⟩
              have E1 : ∀ u : Of (fun u : World => u.cell? ⟨gl, k2 * 2 + 1, none⟩ = some (.slice (some ⟨G k2, 0, none⟩) R R)), u.val.cell? ⟨gl, k2 * 2 + 1, none⟩ = some (.slice (some ⟨G k2, 0, none⟩) R R) := fun u => u.is
              go_wp2_with fail
              refine region_mixed_last (fun u : World => u.cell? ⟨gl, k2 * 2 + 1, none⟩ = some (.slice (some ⟨G k2, 0, none⟩) R R)) [([0, 1, 2, 3, 4, 5, 6, 7], 8)] [9] 10 (by kernel_rfl) (by kernel_rfl) l1 ?_
              refine mixO_cons ?_
              repeat (go_big_quiet_step (fail))
              refine wpQuiet_nil ?_
              intro K hK
              go_wp2_with fail
              have hdr : Below wr.heap.size wr wr.drew := ⟨rfl, rfl, rfl, Nat.le_refl _, fun _ _ => rfl⟩
              have hk30 : 0 ≤ (k2 : Int) ∧ (k2 : Int) ≤ 30 := by omega
              refine Calls.mono (shAt bx (bx + 1) d _ _ (k2 : Int) _ (AF.out.up hdr) HGd.out hk30) ?_
              rintro e w9 ⟨rfl, hb9⟩
              have hb9' := hdr.trans hb9
              have J9 := hid (JZ.out.up hb9')
              have AF9 := hid (AF.out.up hb9')
              have AO9 : Hid (∀ k', k' < k → AtOff (G k') w9 bx (bx + 1)) := fun k' hk' => (AO.out k' hk').up AF.out hb9'
              clear hb9 hb9' hdr
              obtain ⟨x, hx⟩ : ∃ x, crv d (fun j => (j : Int)) (fun i => padD s D (r * d + i)) (k2 : Int) = x := ⟨_, rfl⟩
              rw [hx]
              have HX : Hid (shv d s D k2 r = x) := hx
              clear hx
              have c9 := J9.out.row k2 hkk r hrR
              have f9 := J9.out.free k2 hkk r hrR
              go_wp2
              refine ⟨rfl, hK _ _ (J9.out.l1 k2 hkk) ?_⟩
              clear hK K
              refine mixO_last ?_
              repeat (go_big_quiet_step (fail))
              refine wpQuiet_nil ?_
              go_wp2
              go_roundw
              case rel => exact ⟨k2 + 1, by omega, by go_num, (J9.out.set k2 r hkk hrR x).congr fun k' j hk' hj => by
                  by_cases e : k' = k2 ∧ j = r
                  · rw [if_pos e, if_pos (by omega), e.1, e.2]; exact HX.out.symm
                  · rw [if_neg e]
                    by_cases e2 : j < r ∨ (j = r ∧ k' < k2)
                    · rw [if_pos e2, if_pos (by omega)]
                    · rw [if_neg e2, if_neg (by omega)], AF9.out.set (AO9.out k2 hkk) r _, fun k' hk' => (AO9.out k' hk').set (AO9.out k2 hkk) r _⟩
              case measure => simp only [intOf]; omega
            · have hkke : k2 = k := by omega
              subst hkke
              go_wp2
              go_roundw
              case rel => exact ⟨r + 1, by omega, by go_num, JZ.out.congr fun k' j hk' _ => by
                by_cases h : j < r
                · rw [if_pos (Or.inl h), if_pos (by omega)]
                · by_cases h2 : j = r
                  · rw [if_pos (Or.inr ⟨h2, hk'⟩), if_pos (by omega)]
                  · rw [if_neg (by omega), if_neg (by omega)]⟩
              case measure => simp only [intOf]; omega
        · have hre : r = R := by omega
          subst hre
          go_wp2
          go_ret2
          exact ⟨g0, gl, G, rfl, JR.out.congr fun k' j _ hj => by rw [if_pos hj]⟩

theorem shSplit (nd of sz : Int) (v : Value) (n : Nat) (D : Nat → Int) (w : World) (h : IntSl w w.heap.size v n D) :
    Calls Try.prog 12 #[planV nd of sz, v] w fun e w' => Below w.heap.size w w' ∧ ∃ (r : Value) (m : Nat) (V : Nat → Value), e = .returned (.tuple #[r, .int .i64 (splitE nd of sz n D)]) ∧
      (m : Int) = (if splitE nd of sz n D = 0 then of else 0) ∧ ShSl w' w'.heap.size r m (fun k => (k : Int)) V (fun _ => rowsN nd sz) (fun k i => shv nd.toNat n D k i) ∧
      Above w.heap.size r ∧ ∀ k, k < m → Above w.heap.size (V k) := by
  have none_post : ∀ {c : Int} {e : Ending} {w' : World}, c ≠ 0 → e = .returned (.tuple #[.slice none 0 0, .int .i64 c]) → Below w.heap.size w w' → (Below w.heap.size w w' ∧ ∃ (r : Value) (m : Nat) (V : Nat → Value), e = .returned (.tuple #[r, .int .i64 c]) ∧
      (m : Int) = (if c = 0 then of else 0) ∧ ShSl w' w'.heap.size r m (fun k => (k : Int)) V (fun _ => rowsN nd sz) (fun k i => shv nd.toNat n D k i) ∧ Above w.heap.size r ∧ ∀ k, k < m → Above w.heap.size (V k)) := by
    intro c e w' hc he hb
    refine ⟨hb, .slice none 0 0, 0, fun _ => .slice none 0 0, he, by rw [if_neg hc]; rfl, ⟨none, 0, rfl, ⟨Nat.le_refl _, by omega⟩, Or.inl rfl⟩, fun ad _ _ e => (by cases e), fun k hk => absurd hk (Nat.not_lt_zero _)⟩
  by_cases hp : planOk nd of sz = true
  · have hE : splitE nd of sz n D = numE n D sz := by unfold splitE numE; rw [if_pos hp]
    rw [hE]
    by_cases hn : numE n D sz = 0
    · have hok : splitE nd of sz n D = 0 := by rw [hE]; exact hn
      obtain ⟨_, hnz, hD⟩ := splitE_ok hok
      obtain ⟨hnd, hof, hsz⟩ := planOk_spec hp
      obtain ⟨d, rfl⟩ : ∃ d : Nat, nd = d := ⟨nd.toNat, by omega⟩
      obtain ⟨m, rfl⟩ : ∃ m : Nat, of = m := ⟨of.toNat, by omega⟩
      subst hnz
      have hI := h
      obtain ⟨a, c, rfl, _, _⟩ := h
      refine (split_good d m n D a c w hp hD rfl hI).mono ?_
      rintro e w' ⟨g0, gl, G, rfl, J⟩
      have ho := J.o0
      have hl := J.ol
      have hRb := rowsN_bd hnd hsz
      have hgl : gl < w'.heap.size := by
        obtain ⟨⟨u, hu⟩, _⟩ := J.room 0 (by omega)
        exact cell_lt hu
      refine ⟨J.below, _, m, fun k => .slice (some ⟨G k, 0, none⟩) (rowsN (d : Int) (n : Int)) (rowsN (d : Int) (n : Int)), by rw [hn], by rw [if_pos hn], ?_, ?_, ?_⟩
      · refine ⟨_, m, rfl, ⟨Nat.le_refl _, by omega⟩, Or.inr ⟨gl, 0, rfl, hgl, fun k hk => ⟨?_, ?_, ?_⟩⟩⟩
        · rw [Nat.zero_add]; exact J.l0 k hk
        · rw [Nat.zero_add]; exact J.l1 k hk
        · refine ⟨_, _, rfl, ⟨Nat.le_refl _, by show rowsN (d : Int) (n : Int) * 8 ≤ _; omega⟩, Or.inr ⟨G k, 0, rfl, cell_lt (J.row k hk 0 (by omega)), fun j hj => ?_⟩⟩
          rw [Nat.zero_add, Int.toNat_natCast]
          exact J.row k hk j hj
      · intro ad _ _ e
        injection e with e1
        injection e1 with e1
        rw [← e1]
        show w.heap.size ≤ gl
        omega
      · intro k hk ad _ _ e
        injection e with e1
        injection e1 with e1
        rw [← e1]
        have := J.oG k hk
        show w.heap.size ≤ G k
        omega
    · refine (split_num nd of sz v n D w hp hn h).mono ?_
      rintro e w' ⟨he, hb⟩
      exact none_post hn he hb
  · have hE : splitE nd of sz n D = 2 := by unfold splitE; rw [if_neg hp]
    rw [hE]
    refine (split_no nd of sz v w hp h).mono ?_
    rintro e w' ⟨he, hb⟩
    exact none_post (by decide) he hb

end Go.Proofs.Ytfcpmpcfbhkacaa
