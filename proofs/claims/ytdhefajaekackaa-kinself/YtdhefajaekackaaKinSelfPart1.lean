/- Several texts of one proof, in their order. -/
import Derived.Test.YtdhefajaekackaaKnSum16
import Derived.Test.YtdhefajaekackaaKinSelfPart0

/- Of one and itself it is that one; a new one of both: the law's walk. -/
namespace Go.Proofs.Ytdhefajaekackaa

open Go.RowKit
set_option linter.unusedVariables false

theorem apB_self {n : Nat} {b : Bk} (hE : Elder n b) {p : Nat} (hp : p < n) : apB b p p = false := by
  unfold apB
  rw [(fR_iff hE hp).2 (Rea.refl _)]
  rfl

/-- the new version and a parent of it come together there -/
theorem comL_parent {n lp : Nat} {b : Bk} {X : Nat → Int} {nd of sz : Int} (hE : Elder (n + 1) (snocB n b lp X nd of sz)) {i k : Nat} (hi : i < lp) (hk : X i = (k : Int)) : kinE (n + 1) (snocB n b lp X nd of sz) (n : Int) (k : Int) = kinE (n + 1) (snocB n b lp X nd of sz) (n : Int) (k : Int) ∧ comL (snocB n b lp X nd of sz) (n + 1) n k = [(k : Int)] := by
  have h := new_par hE hi
  rw [hk] at h
  refine ⟨rfl, comL_from hE (Nat.lt_succ_self _) (by omega) ?_⟩
  have h2 := Rea.step (b := snocB n b lp X nd of sz) (k := n) (i := i) (old := k) (by rw [snoc_new.1]; exact hi)
  rw [snoc_new.2, hk, Int.toNat_natCast] at h2
  exact h2 (Rea.refl _)

theorem three_at {w : World} {g : Nat} {T : TypeId} {u0 u1 u2 : Value} (h : w.heap[g]? = some (.cells #[u0, u1, u2] T (0, 0))) :
    w.cell? ⟨g, 0, none⟩ = some u0 ∧ w.cell? ⟨g, 1, none⟩ = some u1 ∧ w.cell? ⟨g, 2, none⟩ = some u2 := ⟨cell_at h rfl, cell_at h rfl, cell_at h rfl⟩

theorem lit_owns {w : World} {base g : Nat} {x : Int} (h : w.heap[g]? = some (.cells #[.int .i64 x] 3 (0, 0))) (hg : base ≤ g) : w.ownsRow base 3 1 (.slice (some ⟨g, 0, none⟩) 1 1) 1 [.int .i64 x] :=
  ⟨rfl, Or.inr ⟨g, 1, _, rfl, hg, h, Nat.le_refl _, by unfold maxLen; omega, rfl, rfl⟩⟩

set_option maxHeartbeats 8000000 in
set_option maxRecDepth 10000 in
theorem kinSelf_of (hO : KinOwes) (vs : Value) (n : Nat) (PV : Nat → Value) (b : Bk) (i j : Int) (nd of sz : Int) (w : World) (hv : VeSl w w.heap.size vs n PV b) :
    Calls Try.prog 7 #[bookV vs, .int .i64 i, .int .i64 j, planV nd of sz] w fun e w' => e = .returned (.bool true) ∧ Below w.heap.size w w' := by
  have HV := hid hv
  have HJ := hid (fun u => joined_any hO u)
  have HO := hid hO
  obtain ⟨ad, cap, rfl, ⟨hcap, _⟩, _⟩ := hv
  have hb0 := ((Below.refl w.heap.size w).alloc (Nat.le_refl _) (.cells #[.slice ad n cap] 24)).alloc (by simp) (.cells #[.int .i64 nd, .int .i64 of, .int .i64 sz] 27)
  have k1 := heap_two_old w (.cells #[.slice ad n cap] 24) (.cells #[.int .i64 nd, .int .i64 of, .int .i64 sz] 27)
  have k2 := heap_two_new w (.cells #[.slice ad n cap] 24) (.cells #[.int .i64 nd, .int .i64 of, .int .i64 sz] 27)
  obtain ⟨U, hU⟩ : ∃ U, (w.alloc (.cells #[.slice ad n cap] 24)).alloc (.cells #[.int .i64 nd, .int .i64 of, .int .i64 sz] 27) = U := ⟨_, rfl⟩
  rw [hU] at hb0 k1 k2
  have B0 := hid hb0
  have K0 := hid k1
  have P0 := hid k2
  obtain ⟨c, hc⟩ : ∃ c, bookE n b = c := ⟨_, rfl⟩
  have CK : Hid (∀ u, Below w.heap.size w u → Calls Try.prog 18 #[.agg #[.slice ad n cap]] u fun e u' => e = .returned (.int .i64 c) ∧ Below u.heap.size u u') := fun u hb => by
    have h := bkCheck _ n PV b u (HV.out.up hb)
    rw [hc] at h
    exact h
  have HC := hid hc
  clear hb0 k1 k2 hc hO
  unfold bookV planV
  go_enter Try.func7, Try.ntmps7
  go_wp2_with fail
  refine Calls.mono (HJ.out U) ?_
  rintro e u1 ⟨rfl, hb1⟩
  have B1 := hid (B0.out.trans (hb1.mono B0.out.size))
  have K1 := hid (keep K0.out hb1)
  have P1 := hid (keep P0.out hb1)
  have c1 := cell_at (i := 0) K1.out rfl
  clear hb1 B0 K0 P0
  go_wp2_with fail
  refine Calls.mono (CK.out u1 B1.out) ?_
  rintro e u2 ⟨rfl, hb2⟩
  have B2 := hid (B1.out.trans (hb2.mono B1.out.size))
  have K2 := hid (keep K1.out hb2)
  have P2 := hid (keep P1.out hb2)
  have c1 := cell_at (i := 0) K2.out rfl
  clear hb2 B1 K1 P1 CK
  by_cases hc0 : c = 0
  · subst hc0
    have HR := hid (right_of HC.out)
    have hn12 : n ≤ 12 := HR.out.le
    by_cases hn0 : n = 0
    · have hni : ((n : Int) == 0) = true := by rw [beq_iff_eq]; omega
      clear hn0
      go_wp2_with fail
      refine Calls.mono (HJ.out u2) ?_
      rintro e u3 ⟨rfl, hb3⟩
      have B3 := hid (B2.out.trans (hb3.mono B2.out.size))
      clear hb3
      go_wp2
      go_ret
      exact ⟨rfl, B3.out⟩
    · have hni : ((n : Int) == 0) = false := by rw [beq_eq_false_iff_ne]; omega
      have HAt : Hid (∀ (k : Int) (u : World), Calls Try.prog 28 #[.int .i64 k, .int .i64 (n : Int)] u fun e w' => e = .returned (.int .i64 (k % (n : Int))) ∧ w' = u) := fun k u => at_any k (n : Int) (by omega) u
      have hi0 := Int.emod_nonneg i (show (n : Int) ≠ 0 by omega)
      have hi1 := Int.emod_lt_of_pos i (show 0 < (n : Int) by omega)
      have hj0 := Int.emod_nonneg j (show (n : Int) ≠ 0 by omega)
      have hj1 := Int.emod_lt_of_pos j (show 0 < (n : Int) by omega)
      obtain ⟨p, hp⟩ : ∃ p : Nat, i % (n : Int) = (p : Int) := ⟨(i % (n : Int)).toNat, by omega⟩
      obtain ⟨q, hq⟩ : ∃ q : Nat, j % (n : Int) = (q : Int) := ⟨(j % (n : Int)).toNat, by omega⟩
      have hpn : p < n := by omega
      have hqn : q < n := by omega
      have HPm := hid hp
      have HQm := hid hq
      clear hn0 hi0 hi1 hj0 hj1 hp hq
      go_wp2
      go_quiet ((go_at_call 28; exact Calls.quiet_of_same (HAt.out _ _)))
      rw [HPm.out, HQm.out]
      have hb3 := drawn_below u2 nq
      obtain ⟨u3, hu3⟩ : ∃ u3, u2.drewN nq = u3 := ⟨_, rfl⟩
      rw [hu3] at hb3 ⊢
      have B3 := hid (B2.out.trans (hb3.mono B2.out.size))
      have K3 := hid (keep K2.out hb3)
      have P3 := hid (keep P2.out hb3)
      have c3 := cell_at (i := 0) K3.out rfl
      have CC := hid (HO.out.commonOk (HV.out.up B3.out) p p _ (kinE_mk HC.out hpn hpn) (comL_from HR.out.elder hpn hpn (Rea.refl _)))
      clear hb3 hu3 B2 K2 P2 c1 HPm HQm
      go_wp2_with fail
      refine Calls.mono CC.out ?_
      rintro e u4 ⟨hb4, vl, rfl, hl⟩
      have B4 := hid (B3.out.trans (hb4.mono B3.out.size))
      have K4 := hid (keep K3.out hb4)
      have P4 := hid (keep P3.out hb4)
      have HL4 := hid hl
      obtain ⟨al, cl, rfl, _, _⟩ := hl
      have c4 := cell_at (i := 0) K4.out rfl
      have CA := hid (HO.out.apartOk (HV.out.up B4.out) p p _ (kinE_mk HC.out hpn hpn) (apB_self HR.out.elder hpn))
      clear hb4 B3 K3 P3 c3 CC
      go_wp2_with fail
      refine Calls.mono CA.out ?_
      rintro e u5 ⟨rfl, hb5⟩
      have B5 := hid (B4.out.trans (hb5.mono B4.out.size))
      have K5 := hid (keep K4.out hb5)
      have P5 := hid (keep P4.out hb5)
      have HL5 := hid (HL4.out.up hb5)
      clear hb5 B4 K4 P4 c4 CA HL4
      have hbF := below_alloc u5 (.cells #[.int .i64 (p : Int)] 3)
      have HEq := hid (equal_isl (HL5.out.up hbF) (isl_lit1 (heap_alloc_new u5 (.cells #[.int .i64 (p : Int)] 3))))
      rw [show eqB [(p : Int)].length 1 (fun j => [(p : Int)].getD j 0) (fun i => [(p : Int)].getD i 0) = true from same_list [(p : Int)]] at HEq
      go_wp2_with fail
      refine Calls.mono HEq.out ?_
      rintro e u6 ⟨rfl, q6, hq6⟩
      have hb6 : Below u5.heap.size u5 u6 := by rw [hq6]; exact hbF.trans ((drawn_below _ q6).mono hbF.size)
      have B6 := hid (B5.out.trans (hb6.mono B5.out.size))
      have K6 := hid (keep K5.out hb6)
      have P6 := hid (keep P5.out hb6)
      have c6 := cell_at (i := 0) K6.out rfl
      clear hbF hb6 hq6 HEq B5 K5 P5 HL5
      obtain ⟨d0, d1, d2⟩ : u6.cell? ⟨w.heap.size + 1, 0, none⟩ = some (.int .i64 nd) ∧ u6.cell? ⟨w.heap.size + 1, 1, none⟩ = some (.int .i64 of) ∧ u6.cell? ⟨w.heap.size + 1, 2, none⟩ = some (.int .i64 sz) := ⟨cell_at P6.out rfl, cell_at P6.out rfl, cell_at P6.out rfl⟩
      have l6 : w.heap.size + 1 < u6.heap.size := cell_lt d0
      obtain ⟨a, ha⟩ : ∃ a : Nat, min (p : Int) (q : Int) = (a : Int) := ⟨min p q, by omega⟩
      obtain ⟨d, hd⟩ : ∃ d : Nat, max (p : Int) (q : Int) = (d : Int) := ⟨max p q, by omega⟩
      obtain ⟨ii, hii, hz0, hz1, hz2⟩ := info_parts Try.infoInt
      clear d0 d1 d2
      by_cases hpq : p = q
      · have hpqi : ((p : Int) != (q : Int)) = false := by simp; omega
        have hbG := below_alloc u6 (.cells #[.int .i64 (a : Int)] 3)
        obtain ⟨v1, hv1⟩ : ∃ v1, u6.alloc (.cells #[.int .i64 (a : Int)] 3) = v1 := ⟨_, rfl⟩
        have HBt : Hid (IntSl v1 v1.heap.size (.slice (some ⟨u6.heap.size, 0, none⟩) 1 1) 1 (fun i => [(a : Int)].getD i 0)) := by rw [← hv1]; exact isl_lit1 (heap_alloc_new u6 (.cells #[.int .i64 (a : Int)] 3))
        rw [hv1] at hbG
        have B7 := hid (B6.out.trans (hbG.mono B6.out.size))
        have K7 := hid (keep K6.out hbG)
        have P7 := hid (keep P6.out hbG)
        obtain ⟨XB, hXB⟩ : ∃ XB : Nat → Int, (fun i => [(a : Int)].getD i 0) = XB := ⟨_, rfl⟩
        rw [hXB] at HBt
        clear hbG B6 K6 P6 c6 hpq hXB
        obtain ⟨d0, d1, d2⟩ : v1.cell? ⟨w.heap.size + 1, 0, none⟩ = some (.int .i64 nd) ∧ v1.cell? ⟨w.heap.size + 1, 1, none⟩ = some (.int .i64 of) ∧ v1.cell? ⟨w.heap.size + 1, 2, none⟩ = some (.int .i64 sz) := ⟨cell_at P7.out rfl, cell_at P7.out rfl, cell_at P7.out rfl⟩
        have c7 := cell_at (i := 0) K7.out rfl
        have CAd := hid (bkAdd _ n PV b _ 1 XB nd of sz v1 (HV.out.up B7.out) HBt.out)
        unfold bookV verV at CAd
        go_wp2_with fail
        refine Calls.mono CAd.out ?_
        rintro e u8 ⟨hb8, r8, m8, PX, rfl, hm8, hv8⟩
        obtain ⟨ea, hea⟩ : ∃ ea, addE n b (snocB n b 1 XB nd of sz) = ea := ⟨_, rfl⟩
        rw [hea] at hm8 ⊢
        have HEa := hid hea
        have HM8 := hid hm8
        have HV8 := hid hv8
        obtain ⟨a8, c8, rfl, _, _⟩ := hv8
        have hbx := below_alloc u8 (.cells #[.slice a8 m8 c8] 24)
        have hb7x : Below v1.heap.size v1 (u8.alloc (.cells #[.slice a8 m8 c8] 24)) := hb8.trans (hbx.mono hb8.size)
        have B8 := hid (B7.out.trans (hb7x.mono B7.out.size))
        have K8 := hid (keep K7.out hb7x)
        have HB8 := hid (HBt.out.up hb7x)
        have HV9 := hid (HV8.out.up hbx)
        have X8 := hid (heap_alloc_new u8 (.cells #[.slice a8 m8 c8] 24))
        clear hb8 hm8 hea d0 d1 d2 c7 CAd hbx hb7x B7 K7 P7 HBt HV8
        unfold bookV
        by_cases hea0 : ea = 0
        · subst hea0
          have hE1 : bookE (n + 1) (snocB n b 1 XB nd of sz) = 0 := by
            have h := HEa.out
            unfold addE at h
            rw [HC.out, if_pos rfl] at h
            exact h
          have HE1 := hid hE1
          have HR1 := hid (right_of hE1)
          have hn11 : n + 1 ≤ 12 := HR1.out.le
          obtain rfl : m8 = n + 1 := by rw [HM8.out, if_pos rfl]
          obtain ⟨v9, hv9⟩ : ∃ v9, u8.alloc (.cells #[.slice a8 (n + 1) c8] 24) = v9 := ⟨_, rfl⟩
          rw [hv9] at B8 K8 HB8 HV9 X8
          clear hE1
          go_wp2
          go_loopw [98] (fun iv wr => ∃ (i3 : Nat), i3 ≤ 1 ∧ iv = .int .i64 i3 ∧ Hid (Below v9.heap.size v9 wr)) (fun iv _ => 1 - (intOf iv).toNat)
          case atStart => exact ⟨0, Nat.zero_le _, rfl, Below.refl _ _⟩
          case round =>
            obtain ⟨i3, hi3, rfl, HZ⟩ := hrel
            have B9 := hid (B8.out.trans (HZ.out.mono B8.out.size))
            by_cases h3 : i3 < 1
            · have h3i : (i3 : Int) < ((1 : Nat) : Int) := by omega
              obtain ⟨ab', cb', e1, _, hxb⟩ := HB8.out.up HZ.out
              injection e1 with e1 _ e3
              subst e1 e3
              rcases hxb with h0 | ⟨b3, o3, e4, hb3, hxb⟩
              · omega
              injection e4 with e4
              injection e4 with e5 e6
              subst e5 e6
              have g1 := hxb i3 h3
              rw [Nat.zero_add] at g1
              have hnp := new_par HR1.out.elder h3
              obtain ⟨k, hk⟩ : ∃ k : Nat, XB i3 = (k : Int) := ⟨(XB i3).toNat, by omega⟩
              rw [hk] at g1 hnp
              have hcp := (comL_parent HR1.out.elder h3 hk).2
              have c9 := cell_at (i := 0) (keep K8.out HZ.out) rfl
              have x9 := cell_at (i := 0) (keep X8.out HZ.out) rfl
              have CCk := hid (HO.out.commonOk (HV9.out.up HZ.out) n k _ (kinE_mk HE1.out (Nat.lt_succ_self _) (by omega)) hcp)
              clear hxb hk hcp
              go_wp2_with fail
              refine Calls.mono CCk.out ?_
              rintro e w2 ⟨hb2, vk, rfl, hlk⟩
              have hbF := below_alloc w2 (.cells #[.int .i64 (k : Int)] 3)
              have HEq := hid (equal_isl (hlk.up hbF) (isl_lit1 (heap_alloc_new w2 (.cells #[.int .i64 (k : Int)] 3))))
              rw [show eqB [(k : Int)].length 1 (fun j => [(k : Int)].getD j 0) (fun i => [(k : Int)].getD i 0) = true from same_list [(k : Int)]] at HEq
              have H2 := hid (HZ.out.trans (hb2.mono HZ.out.size))
              obtain ⟨ak, ck, rfl, _, _⟩ := hlk
              clear hb2 CCk c9 x9 g1
              go_wp2_with fail
              refine Calls.mono HEq.out ?_
              rintro e w3 ⟨rfl, q3, hq3⟩
              have hb3' : Below w2.heap.size w2 w3 := by rw [hq3]; exact hbF.trans ((drawn_below _ q3).mono hbF.size)
              have H3 := hid (H2.out.trans (hb3'.mono H2.out.size))
              clear hb3' hq3 HEq hbF
              go_wp2
              go_roundw
              case rel => exact ⟨i3 + 1, by omega, by go_num, H3⟩
              case measure => simp only [intOf]; omega
            · have h3e : ¬ (i3 : Int) < ((1 : Nat) : Int) := by omega
              clear h3
              go_wp2
              go_ret
              exact ⟨rfl, B9.out⟩
        · have heb : (ea != 0) = true := by simpa using hea0
          clear hea0
          go_wp2
          go_ret
          exact ⟨rfl, B8.out⟩
      · have hpqi : ((p : Int) != (q : Int)) = true := by simp; omega
        have hbG := below_alloc u6 (.cells #[.int .i64 (a : Int)] 3)
        obtain ⟨v0, hv0⟩ : ∃ v0, u6.alloc (.cells #[.int .i64 (a : Int)] 3) = v0 := ⟨_, rfl⟩
        have HOw : Hid (v0.ownsRow u6.heap.size 3 1 (.slice (some ⟨u6.heap.size, 0, none⟩) 1 1) 1 [.int .i64 (a : Int)]) := by rw [← hv0]; exact lit_owns (heap_alloc_new u6 (.cells #[.int .i64 (a : Int)] 3)) (Nat.le_refl _)
        rw [hv0] at hbG
        have HbG := hid hbG
        have hge : u6.heap.size ≤ v0.heap.size := hbG.size
        clear hpq c6
        go_wp2_with (at_builtin; go_must (refine wpList_append_own _ rfl (.tmp 80) (.tmp 84) 25 rfl u6.heap.size 3 ii (.int .i64 0) 1 8 Try.underlying25 hii hz0 hz1 hz2 rfl (by decide) _ _ _ rfl (World.ownsRow.alloc HOw.out _) ⟨_, 0, none⟩ 1 1 [.int .i64 (d : Int)] rfl rfl (newCell _ _ _) (oneCell _) (by unfold maxLen; omega) (by omega) (by simp; omega) ?_; intro vb v1 hob hgb _; have HOb := hid hob; have HGb := hid hgb; have hbH : Below u6.heap.size u6 v1 := (HbG.out.alloc HbG.out.size _).grown HGb.out (Nat.le_trans HbG.out.size (by simp)) (by intro k hk; cases hk; exact Nat.le_refl _); have K7 := hid (keep K6.out hbH); have P7 := hid (keep P6.out hbH); have B7 := hid (B6.out.trans (hbH.mono B6.out.size)); have HbH := hid hbH; obtain ⟨xb, cb, hvb⟩ := owns_sliceV HOb.out; subst hvb; have c7 := cell_at (i := 0) K7.out rfl; obtain ⟨d0, d1, d2⟩ := three_at P7.out; clear hob hgb hbH))
        have HBt := hid (show IntSl v1 v1.heap.size (.slice xb 2 cb) 2 (fun j => [(a : Int), (d : Int)].getD j 0) from OwnL.isl (w0 := u6) (l := [(a : Int), (d : Int)]) ⟨HOb.out, HbH.out⟩ (by simp))
        obtain ⟨XB, hXB⟩ : ∃ XB : Nat → Int, (fun j => [(a : Int), (d : Int)].getD j 0) = XB := ⟨_, rfl⟩
        rw [hXB] at HBt
        clear hXB B6 K6 P6
        have CAd := hid (bkAdd _ n PV b _ 2 XB nd of sz v1 (HV.out.up B7.out) HBt.out)
        unfold bookV verV at CAd
        refine Calls.mono CAd.out ?_
        rintro e u8 ⟨hb8, r8, m8, PX, rfl, hm8, hv8⟩
        obtain ⟨ea, hea⟩ : ∃ ea, addE n b (snocB n b 2 XB nd of sz) = ea := ⟨_, rfl⟩
        rw [hea] at hm8 ⊢
        have HEa := hid hea
        have HM8 := hid hm8
        have HV8 := hid hv8
        obtain ⟨a8, c8, rfl, _, _⟩ := hv8
        have hbx := below_alloc u8 (.cells #[.slice a8 m8 c8] 24)
        have hb7x : Below v1.heap.size v1 (u8.alloc (.cells #[.slice a8 m8 c8] 24)) := hb8.trans (hbx.mono hb8.size)
        have B8 := hid (B7.out.trans (hb7x.mono B7.out.size))
        have K8 := hid (keep K7.out hb7x)
        have HB8 := hid (HBt.out.up hb7x)
        have HV9 := hid (HV8.out.up hbx)
        have X8 := hid (heap_alloc_new u8 (.cells #[.slice a8 m8 c8] 24))
        clear hb8 hm8 hea d0 d1 d2 c7 CAd hbx hb7x B7 K7 P7 HBt HV8
        unfold bookV
        by_cases hea0 : ea = 0
        · subst hea0
          have hE1 : bookE (n + 1) (snocB n b 2 XB nd of sz) = 0 := by
            have h := HEa.out
            unfold addE at h
            rw [HC.out, if_pos rfl] at h
            exact h
          have HE1 := hid hE1
          have HR1 := hid (right_of hE1)
          have hn11 : n + 1 ≤ 12 := HR1.out.le
          obtain rfl : m8 = n + 1 := by rw [HM8.out, if_pos rfl]
          obtain ⟨v9, hv9⟩ : ∃ v9, u8.alloc (.cells #[.slice a8 (n + 1) c8] 24) = v9 := ⟨_, rfl⟩
          rw [hv9] at B8 K8 HB8 HV9 X8
          clear hE1
          go_wp2
          go_loopw [98] (fun iv wr => ∃ (i3 : Nat), i3 ≤ 2 ∧ iv = .int .i64 i3 ∧ Hid (Below v9.heap.size v9 wr)) (fun iv _ => 2 - (intOf iv).toNat)
          case atStart => exact ⟨0, Nat.zero_le _, rfl, Below.refl _ _⟩
          case round =>
            obtain ⟨i3, hi3, rfl, HZ⟩ := hrel
            have B9 := hid (B8.out.trans (HZ.out.mono B8.out.size))
            by_cases h3 : i3 < 2
            · have h3i : (i3 : Int) < ((2 : Nat) : Int) := by omega
              obtain ⟨ab', cb', e1, _, hxb⟩ := HB8.out.up HZ.out
              injection e1 with e1 _ e3
              subst e1 e3
              rcases hxb with h0 | ⟨b3, o3, rfl, hb3, hxb⟩
              · omega
              have g1 := hxb i3 h3
              have hnp := new_par HR1.out.elder h3
              obtain ⟨k, hk⟩ : ∃ k : Nat, XB i3 = (k : Int) := ⟨(XB i3).toNat, by omega⟩
              rw [hk] at g1 hnp
              have hcp := (comL_parent HR1.out.elder h3 hk).2
              have c9 := cell_at (i := 0) (keep K8.out HZ.out) rfl
              have x9 := cell_at (i := 0) (keep X8.out HZ.out) rfl
              have CCk := hid (HO.out.commonOk (HV9.out.up HZ.out) n k _ (kinE_mk HE1.out (Nat.lt_succ_self _) (by omega)) hcp)
              clear hxb hk hcp
              go_wp2_with fail
              refine Calls.mono CCk.out ?_
              rintro e w2 ⟨hb2, vk, rfl, hlk⟩
              have hbF := below_alloc w2 (.cells #[.int .i64 (k : Int)] 3)
              have HEq := hid (equal_isl (hlk.up hbF) (isl_lit1 (heap_alloc_new w2 (.cells #[.int .i64 (k : Int)] 3))))
              rw [show eqB [(k : Int)].length 1 (fun j => [(k : Int)].getD j 0) (fun i => [(k : Int)].getD i 0) = true from same_list [(k : Int)]] at HEq
              have H2 := hid (HZ.out.trans (hb2.mono HZ.out.size))
              obtain ⟨ak, ck, rfl, _, _⟩ := hlk
              clear hb2 CCk c9 x9 g1
              go_wp2_with fail
              refine Calls.mono HEq.out ?_
              rintro e w3 ⟨rfl, q3, hq3⟩
              have hb3' : Below w2.heap.size w2 w3 := by rw [hq3]; exact hbF.trans ((drawn_below _ q3).mono hbF.size)
              have H3 := hid (H2.out.trans (hb3'.mono H2.out.size))
              clear hb3' hq3 HEq hbF
              go_wp2
              go_roundw
              case rel => exact ⟨i3 + 1, by omega, by go_num, H3⟩
              case measure => simp only [intOf]; omega
            · have h3e : ¬ (i3 : Int) < ((2 : Nat) : Int) := by omega
              clear h3
              go_wp2
              go_ret
              exact ⟨rfl, B9.out⟩
        · have heb : (ea != 0) = true := by simpa using hea0
          clear hea0
          go_wp2
          go_ret
          exact ⟨rfl, B8.out⟩
  · have hcb : (c != 0) = true := by simpa using hc0
    clear hc0
    go_wp2_with fail
    refine Calls.mono (HJ.out u2) ?_
    rintro e u3 ⟨rfl, hb3⟩
    have B3 := hid (B2.out.trans (hb3.mono B2.out.size))
    clear hb3
    go_wp2
    go_ret
    exact ⟨rfl, B3.out⟩

end Go.Proofs.Ytdhefajaekackaa
