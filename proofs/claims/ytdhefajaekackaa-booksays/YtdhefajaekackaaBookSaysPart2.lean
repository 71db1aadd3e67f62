/- Several texts of one proof, in their order. -/
import Derived.Test.YtdhefajaekackaaBkSum18
import Derived.Test.YtdhefajaekackaaBookSaysPart1

/- Chapter 5's answers, held against the reference's: the law's walk. -/
namespace Go.Proofs.Ytdhefajaekackaa

open Go.RowKit
set_option linter.unusedVariables false

theorem eqB_refl (n : Nat) (X : Nat → Int) : eqB n n X X = true := decide_eq_true ⟨rfl, fun _ _ => rfl⟩

theorem verB_refl (b : Bk) (j : Nat) : verB b b j = true := by
  unfold verB
  rw [eqB_refl]
  simp

theorem bookB_refl (n : Nat) (b : Bk) : bookB n n b b = true := by
  have h : ∀ f k, restB b b f k = true := by
    intro f
    induction f with
    | zero => intro k; rfl
    | succ f ih => intro k; simp only [restB, verB_refl, ih, Bool.true_and]
  unfold bookB
  rw [h, decide_eq_true rfl]
  rfl

theorem heap_three (w : World) (o1 o2 o3 : Obj) : (((w.alloc o1).alloc o2).alloc o3).heap[w.heap.size]? = some o1 ∧ (((w.alloc o1).alloc o2).alloc o3).heap[w.heap.size + 1]? = some o2 ∧ (((w.alloc o1).alloc o2).alloc o3).heap[w.heap.size + 2]? = some o3 := by
  refine ⟨?_, ?_, ?_⟩
  · rw [Below.heap_alloc _ _ _ (by simp; omega), Below.heap_alloc _ _ _ (by simp)]; exact heap_alloc_new _ _
  · rw [Below.heap_alloc _ _ _ (by simp)]
    have := heap_alloc_new (w.alloc o1) o2
    simpa using this
  · have := heap_alloc_new ((w.alloc o1).alloc o2) o3
    simpa using this

/-- a block stays -/
theorem stay {w w' : World} {g : Nat} {o : Obj} (h : w.heap[g]? = some o) (hb : Below w.heap.size w w') : w'.heap[g]? = some o := by
  rw [hb.block _ (Array.getElem?_eq_some_iff.1 h).1]; exact h

set_option maxHeartbeats 8000000 in
set_option maxRecDepth 10000 in
theorem bookSays_walk (vs : Value) (n : Nat) (PV : Nat → Value) (b : Bk) (a1 : Option Addr) (len1 cap1 : Nat) (X1 : Nat → Int) (nd of sz : Int) (k : Int) (vc : Value) (m : Nat) (QV : Nat → Value) (d : Bk) (w : World)
    (hv : VeSl w w.heap.size vs n PV b) (hp : SlArg w a1 len1 cap1 X1) (hk : -9223372036854775808 ≤ k ∧ k ≤ 9223372036854775807) (hc : VeSl w w.heap.size vc m QV d) :
    Calls Try.prog 3 #[bookV vs, verV (.slice a1 len1 cap1) nd of sz, .int .i64 k, bookV vc] w fun e w' => e = .returned (.bool true) ∧ Below w.heap.size w w' := by
  have HV := hid hv
  have HP := hid hp.isl
  have HC := hid hc
  obtain ⟨ad, cap, rfl, ⟨hcap, _⟩, _⟩ := hv
  obtain ⟨ae, cape, rfl, _, _⟩ := hc
  have hb0 : Below w.heap.size w (((w.alloc (.cells #[.slice ad n cap] 24)).alloc (.cells #[.slice a1 len1 cap1, .int .i64 nd, .int .i64 of, .int .i64 sz] 29)).alloc (.cells #[.slice ae m cape] 24)) := ((Below.refl _ _).alloc (Nat.le_refl _) _).alloc (by simp) _ |>.alloc (by simp; omega) _
  obtain ⟨k1, k2, k3⟩ := heap_three w (.cells #[.slice ad n cap] 24) (.cells #[.slice a1 len1 cap1, .int .i64 nd, .int .i64 of, .int .i64 sz] 29) (.cells #[.slice ae m cape] 24)
  obtain ⟨U, hU⟩ : ∃ U, ((w.alloc (.cells #[.slice ad n cap] 24)).alloc (.cells #[.slice a1 len1 cap1, .int .i64 nd, .int .i64 of, .int .i64 sz] 29)).alloc (.cells #[.slice ae m cape] 24) = U := ⟨_, rfl⟩
  rw [hU] at hb0 k1 k2 k3
  have B0 := hid hb0
  have K1 := hid k1
  have K2 := hid k2
  have K3 := hid k3
  have c1 := cell_at (i := 0) k1 rfl
  obtain ⟨e0, e1, e2, e3⟩ : U.cell? ⟨w.heap.size + 1, 0, none⟩ = _ ∧ U.cell? ⟨w.heap.size + 1, 1, none⟩ = _ ∧ U.cell? ⟨w.heap.size + 1, 2, none⟩ = _ ∧ U.cell? ⟨w.heap.size + 1, 3, none⟩ = _ := four_at k2
  obtain ⟨bb, hbb⟩ : ∃ bb, snocB n b len1 X1 nd of sz = bb := ⟨_, rfl⟩
  obtain ⟨c, hce⟩ : ∃ c, bookE n b = c := ⟨_, rfl⟩
  obtain ⟨ea, hea⟩ : ∃ ea, addE n b bb = ea := ⟨_, rfl⟩
  obtain ⟨er, her⟩ : ∃ er, behE n b k = er := ⟨_, rfl⟩
  obtain ⟨lh, hlh⟩ : ∃ lh, (if c = 0 then headsL b n n else []) = lh := ⟨_, rfl⟩
  obtain ⟨lb, hlb⟩ : ∃ lb, (if er = 0 then bhL b k.toNat else []) = lb := ⟨_, rfl⟩
  have HCe := hid hce
  have HEr := hid her
  have HLh := hid hlh
  have HLb := hid hlb
  have CA : Hid (∀ u, Below w.heap.size w u → Calls Try.prog 12 #[.agg #[.slice ad n cap], .agg #[.slice a1 len1 cap1, .int .i64 nd, .int .i64 of, .int .i64 sz]] u fun e u' => Below u.heap.size u u' ∧ ∃ (ar cr m' : Nat) (aa : Option Addr) (PV' : Nat → Value), e = .returned (.tuple #[.agg #[.slice aa m' cr], .int .i64 ea]) ∧ m' = (if ea = 0 then n + 1 else 0) ∧ VeSl u' u'.heap.size (.slice aa m' cr) m' PV' bb) := fun u hb => (bkAdd _ n PV b _ len1 X1 nd of sz u (HV.out.up hb) (HP.out.up hb)).mono fun e u' h => by
    obtain ⟨hb', r, m', PV', he, hm, hv⟩ := h
    rw [hbb] at he hm hv
    rw [hea] at he hm
    obtain ⟨aa, cr, hr⟩ : ∃ aa cr, r = .slice aa m' cr := by obtain ⟨x, y, h, _⟩ := hv; exact ⟨x, y, h⟩
    subst hr
    exact ⟨hb', 0, cr, m', aa, PV', he, hm, hv⟩
  have CR : Hid (∀ u, Below w.heap.size w u → Calls Try.prog 15 #[.agg #[.slice ad n cap], .agg #[.slice a1 len1 cap1, .int .i64 nd, .int .i64 of, .int .i64 sz]] u fun e u' => Below u.heap.size u u' ∧ ∃ (ar cr m' : Nat) (aa : Option Addr) (PV' : Nat → Value), e = .returned (.tuple #[.agg #[.slice aa m' cr], .int .i64 ea]) ∧ m' = (if ea = 0 then n + 1 else 0) ∧ VeSl u' u'.heap.size (.slice aa m' cr) m' PV' bb) := fun u hb => (adds_any _ n PV b _ len1 X1 nd of sz u (HV.out.up hb) (HP.out.up hb)).mono fun e u' h => by
    obtain ⟨hb', r, m', he, hm, hv⟩ := h
    rw [hbb] at he hm hv
    rw [hea] at he hm
    obtain ⟨aa, cr, hr⟩ : ∃ aa cr, r = .slice aa m' cr := by obtain ⟨x, y, h, _⟩ := hv; exact ⟨x, y, h⟩
    subst hr
    exact ⟨hb', 0, cr, m', aa, _, he, hm, hv⟩
  have CH : Hid (∀ u, Below w.heap.size w u → Calls Try.prog 13 #[.agg #[.slice ad n cap]] u (LiPost u lh c)) := fun u hb => by
    have h := bkHeads _ n PV b u (HV.out.up hb)
    rw [hce, hlh] at h
    exact h
  have CB : Hid (∀ u, Below w.heap.size w u → Calls Try.prog 14 #[.agg #[.slice ad n cap], .int .i64 k] u (LiPost u lb er)) := fun u hb => by
    have h := bkBehind _ n PV b k u (HV.out.up hb)
    rw [her, hlb] at h
    exact h
  have CK : Hid (∀ u, Below w.heap.size w u → Calls Try.prog 16 #[.agg #[.slice ad n cap]] u fun e u' => e = .returned (.int .i64 c) ∧ Below u.heap.size u u') := fun u hb => by
    have h := checkBook_any _ n PV b u (HV.out.up hb)
    rw [hce] at h
    exact h
  have CC : Hid (∀ u, Below w.heap.size w u → Calls Try.prog 18 #[.agg #[.slice ad n cap]] u fun e u' => e = .returned (.int .i64 c) ∧ Below u.heap.size u u') := fun u hb => by
    have h := bkCheck _ n PV b u (HV.out.up hb)
    rw [hce] at h
    exact h
  obtain ⟨sB, hsB⟩ : ∃ sB, bookB n m b d = sB := ⟨_, rfl⟩
  have CS : Hid (∀ u, Below w.heap.size w u → Calls Try.prog 19 #[.agg #[.slice ad n cap], .agg #[.slice ae m cape]] u fun e u' => e = .returned (.bool sB) ∧ Below u.heap.size u u') := fun u hb => by
    have h := bkSame (HV.out.up hb) (HC.out.up hb)
    rw [hsB] at h
    exact h
  have CT : Hid (∀ u, Below w.heap.size w u → Calls Try.prog 20 #[.agg #[.slice ad n cap], .agg #[.slice ae m cape]] u fun e u' => e = .returned (.bool sB) ∧ Below u.heap.size u u') := fun u hb => by
    have h := sameBook_any (HV.out.up hb) (HC.out.up hb)
    rw [hsB] at h
    exact h
  clear hb0 k1 k2 k3 hbb hce hea her hlh hlb hsB hp
  unfold bookV verV
  go_enter Try.func3, Try.ntmps3
  go_wp2_with fail
  refine Calls.mono (CA.out U B0.out) ?_
  rintro e u1 ⟨hb1, _, cr1, m1, aa1, PV1, rfl, hm1, hv1⟩
  have HM1 := hid hm1
  have hbx := below_alloc u1 (.cells #[.slice aa1 m1 cr1] 24)
  obtain ⟨V1, hV1⟩ : ∃ V1, u1.alloc (.cells #[.slice aa1 m1 cr1] 24) = V1 := ⟨_, rfl⟩
  have kx : V1.heap[u1.heap.size]? = some (.cells #[.slice aa1 m1 cr1] 24 (0, 0)) := by rw [← hV1]; exact heap_alloc_new _ _
  rw [hV1] at hbx
  have hUV : Below U.heap.size U V1 := hb1.trans (hbx.mono hb1.size)
  have B1 := hid (B0.out.trans (hUV.mono B0.out.size))
  have V9 := hid (hv1.up hbx)
  have X9 := hid kx
  have K1a := hid (stay K1.out hUV)
  have K2a := hid (stay K2.out hUV)
  have K3a := hid (stay K3.out hUV)
  have c1 := cell_at (i := 0) K1a.out rfl
  clear e0 e1 e2 e3 hm1 hv1 hb1 hbx kx hUV B0 K1 K2 K3
  go_wp2_with fail
  refine Calls.mono (CH.out V1 B1.out) ?_
  rintro e u2 ⟨hb2, vl, rfl, hl⟩
  have B2 := hid (B1.out.trans (hb2.mono B1.out.size))
  have V9b := hid (V9.out.up hb2)
  have X9b := hid (stay X9.out hb2)
  have K1b := hid (stay K1a.out hb2)
  have K2b := hid (stay K2a.out hb2)
  have K3b := hid (stay K3a.out hb2)
  have HL := hid hl
  obtain ⟨al, cl, rfl, _, _⟩ := hl
  have c1 := cell_at (i := 0) K1b.out rfl
  clear hb2 B1 V9 X9 K1a K2a K3a
  go_wp2_with fail
  refine Calls.mono (CB.out u2 B2.out) ?_
  rintro e u3 ⟨hb3, vm, rfl, hm⟩
  have B3 := hid (B2.out.trans (hb3.mono B2.out.size))
  have V9c := hid (V9b.out.up hb3)
  have X9c := hid (stay X9b.out hb3)
  have K1c := hid (stay K1b.out hb3)
  have K2c := hid (stay K2b.out hb3)
  have K3c := hid (stay K3b.out hb3)
  have HLc := hid (HL.out.up hb3)
  have HM := hid hm
  obtain ⟨am, cm, rfl, _, _⟩ := hm
  have c1 := cell_at (i := 0) K1c.out rfl
  obtain ⟨e0, e1, e2, e3⟩ : u3.cell? ⟨w.heap.size + 1, 0, none⟩ = _ ∧ u3.cell? ⟨w.heap.size + 1, 1, none⟩ = _ ∧ u3.cell? ⟨w.heap.size + 1, 2, none⟩ = _ ∧ u3.cell? ⟨w.heap.size + 1, 3, none⟩ = _ := four_at K2c.out
  clear hb3 B2 V9b X9b K1b K2b K3b HL
  go_wp2_with fail
  refine Calls.mono (CR.out u3 B3.out) ?_
  rintro e u4 ⟨hb4, _, cr4, m4, aa4, PV4, rfl, hm4, hv4⟩
  have HM4 := hid hm4
  have hby := below_alloc u4 (.cells #[.slice aa4 m4 cr4] 24)
  obtain ⟨V4, hV4⟩ : ∃ V4, u4.alloc (.cells #[.slice aa4 m4 cr4] 24) = V4 := ⟨_, rfl⟩
  have ky : V4.heap[u4.heap.size]? = some (.cells #[.slice aa4 m4 cr4] 24 (0, 0)) := by rw [← hV4]; exact heap_alloc_new _ _
  rw [hV4] at hby
  have h34 : Below u3.heap.size u3 V4 := hb4.trans (hby.mono hb4.size)
  have B4 := hid (B3.out.trans (h34.mono B3.out.size))
  have V9d := hid (V9c.out.up h34)
  have VXd := hid (hv4.up hby)
  have X9d := hid (stay X9c.out h34)
  have XYd := hid ky
  have K1d := hid (stay K1c.out h34)
  have K3d := hid (stay K3c.out h34)
  have HLd := hid (HLc.out.up h34)
  have HMd := hid (HM.out.up h34)
  have c1 := cell_at (i := 0) K1d.out rfl
  clear e0 e1 e2 e3 hm4 hv4 hb4 hby ky h34 B3 V9c X9c K1c K2c K3c HLc HM
  go_wp2_with fail
  refine Calls.mono (CK.out V4 B4.out) ?_
  rintro e W ⟨rfl, hb5⟩
  have B5 := hid (B4.out.trans (hb5.mono B4.out.size))
  have V9e := hid (V9d.out.up hb5)
  have VXe := hid (VXd.out.up hb5)
  have X9e := hid (stay X9d.out hb5)
  have XYe := hid (stay XYd.out hb5)
  have K1e := hid (stay K1d.out hb5)
  have K3e := hid (stay K3d.out hb5)
  have HLe := hid (HLd.out.up hb5)
  have HMe := hid (HMd.out.up hb5)
  clear c1 hb5 B4 V9d VXd X9d XYd K1d K3d HLd HMd
  go_wp2_with fail
  have hne : Nonempty (Of (Below W.heap.size W)) := ⟨⟨W, Below.refl _ _⟩⟩
  have F1 : ∀ u : Of (Below W.heap.size W), u.val.cell? ⟨w.heap.size, 0, none⟩ = some (.slice ad n cap) := fun u => cell_at (stay K1e.out u.is) rfl
  have F3 : ∀ u : Of (Below W.heap.size W), u.val.cell? ⟨w.heap.size + 2, 0, none⟩ = some (.slice ae m cape) := fun u => cell_at (stay K3e.out u.is) rfl
  have F9 : ∀ u : Of (Below W.heap.size W), u.val.cell? ⟨u1.heap.size, 0, none⟩ = some (.slice aa1 m1 cr1) := fun u => cell_at (stay X9e.out u.is) rfl
  have FX : ∀ u : Of (Below W.heap.size W), u.val.cell? ⟨u4.heap.size, 0, none⟩ = some (.slice aa4 m4 cr4) := fun u => cell_at (stay XYe.out u.is) rfl
  have HD0 : Hid (Below W.heap.size W W.drew) := ⟨rfl, rfl, rfl, Nat.le_refl _, fun _ _ => rfl⟩
  refine region_mixed (Below W.heap.size W) [([], 0), ([1, 2, 3, 5], 4), ([6, 7, 8, 9, 10, 12, 13], 11), ([], 14), ([15, 16, 17, 18, 19, 20, 21, 22, 23, 24], 25)] [26, 27, 28, 29, 30, 31, 32] (by kernel_rfl) (by kernel_rfl) HD0.out ?_
  refine mixO_cons (lq := []) rfl (by simp only [pickO, List.getElem?_cons_zero]; exact rfl) ?_
  refine wpQuiet_nil ?_
  intro K hK
  go_wp2_with fail
  refine Calls.mono (listed_any _) ?_
  rintro e y0 ⟨rfl, hb⟩
  have Hy0 : Hid (Below W.heap.size W y0) := HD0.out.trans (hb.mono HD0.out.size)
  clear hb
  go_wp2
  refine ⟨rfl, hK _ _ Hy0.out ?_⟩
  clear hK K
  refine mixO_cons (by simp only [pickO, List.getElem?_cons_zero, List.getElem?_cons_succ]; exact rfl) (by simp only [pickO, List.getElem?_cons_zero, List.getElem?_cons_succ]; exact rfl) ?_
  repeat (go_big_quiet_step (fail))
  refine wpQuiet_nil ?_
  intro K hK
  go_wp2_with fail
  refine Calls.mono (CC.out y0 (B5.out.trans (Hy0.out.mono B5.out.size))) ?_
  rintro e y1 ⟨rfl, hb⟩
  have Hy1 : Hid (Below W.heap.size W y1) := Hy0.out.trans (hb.mono Hy0.out.size)
  clear hb
  go_wp2
  refine ⟨rfl, hK _ _ Hy1.out ?_⟩
  clear hK K
  refine mixO_cons (by simp only [pickO, List.getElem?_cons_zero, List.getElem?_cons_succ]; exact rfl) (by simp only [pickO, List.getElem?_cons_zero, List.getElem?_cons_succ]; exact rfl) ?_
  repeat (go_big_quiet_step (fail))
  refine wpQuiet_nil ?_
  intro K hK
  go_wp2_with fail
  refine Calls.mono (CS.out y1 (B5.out.trans (Hy1.out.mono B5.out.size))) ?_
  rintro e y2 ⟨rfl, hb⟩
  have Hy2 : Hid (Below W.heap.size W y2) := Hy1.out.trans (hb.mono Hy1.out.size)
  clear hb
  go_wp2
  refine ⟨rfl, hK _ _ Hy2.out ?_⟩
  clear hK K
  refine mixO_cons (lq := []) rfl (by simp only [pickO, List.getElem?_cons_zero, List.getElem?_cons_succ]; exact rfl) ?_
  refine wpQuiet_nil ?_
  intro K hK
  go_wp2_with fail
  refine Calls.mono (CT.out y2 (B5.out.trans (Hy2.out.mono B5.out.size))) ?_
  rintro e y3 ⟨rfl, hb⟩
  have Hy3 : Hid (Below W.heap.size W y3) := Hy2.out.trans (hb.mono Hy2.out.size)
  clear hb
  go_wp2
  refine ⟨rfl, hK _ _ Hy3.out ?_⟩
  clear hK K
  refine mixO_cons (by simp only [pickO, List.getElem?_cons_zero, List.getElem?_cons_succ]; exact rfl) (by simp only [pickO, List.getElem?_cons_zero, List.getElem?_cons_succ]; exact rfl) ?_
  repeat (go_big_quiet_step (fail))
  refine wpQuiet_nil ?_
  intro K hK
  go_wp2_with fail
  have CX : Hid (Calls Try.prog 20 #[.agg #[.slice aa1 m1 cr1], .agg #[.slice aa4 m4 cr4]] y3 fun e u' => e = .returned (.bool true) ∧ Below y3.heap.size y3 u') := by
    have h := sameBook_any (V9e.out.up Hy3.out) (VXe.out.up Hy3.out)
    rw [show m4 = m1 from HM4.out.trans HM1.out.symm, bookB_refl] at h
    rw [show m4 = m1 from HM4.out.trans HM1.out.symm]
    exact h
  refine Calls.mono CX.out ?_
  rintro e y4 ⟨rfl, hb⟩
  have Hy4 : Hid (Below W.heap.size W y4) := Hy3.out.trans (hb.mono Hy3.out.size)
  clear hb
  go_wp2
  refine ⟨rfl, hK _ _ Hy4.out ?_⟩
  clear hK K
  refine mixO_nil (by simp only [pickO, List.getElem?_cons_zero, List.getElem?_cons_succ]; exact rfl) ?_
  repeat (go_big_quiet_step (fail))
  refine wpQuiet_nil ?_
  have B6 := hid (B5.out.trans (Hy4.out.mono B5.out.size))
  have HL6 := hid (HLe.out.up Hy4.out)
  have HM6 := hid (HMe.out.up Hy4.out)
  have c1 := cell_at (i := 0) (stay K1e.out Hy4.out) rfl
  have HK1 := hid (stay K1e.out Hy4.out)
  clear F1 F3 F9 FX CX V9e VXe X9e XYe K3e K1e HLe HMe CA CR CH CB CK CC CS CT Hy0 Hy1 Hy2 Hy3 Hy4 HD0 hne
  by_cases hc0 : c = 0
  · subst hc0
    have HR := hid (right_of HCe.out)
    have hn12 : n ≤ 12 := HR.out.le
    obtain rfl : headsL b n n = lh := by rw [← HLh.out, if_pos rfl]
    have hll := headsL_len b n n
    have CHo := hid (headsOf_any n _ PV b hn12 y4 (HV.out.up B6.out))
    unfold bookV at CHo
    go_wp2_with fail
    refine Calls.mono CHo.out ?_
    rintro e z1 ⟨hb1, vo, rfl, ho⟩
    have B7 := hid (B6.out.trans (hb1.mono B6.out.size))
    have HM7 := hid (HM6.out.up hb1)
    have K7 := stay HK1.out hb1
    have HEq := hid (equal_isl (HL6.out.up hb1) (ho.isl (by omega)))
    rw [eqB_refl] at HEq
    obtain ⟨ao, co, hvo⟩ : ∃ ao co, vo = .slice ao (headsL b n n).length co := ho.ownI.shape
    subst hvo
    have HK7 := hid K7
    clear hb1 ho CHo
    go_wp2_with fail
    refine Calls.mono HEq.out ?_
    rintro e z2 ⟨rfl, q2, hq2⟩
    have hb2 : Below z1.heap.size z1 z2 := by rw [hq2]; exact drewN_below _ _
    have B8 := hid (B7.out.trans (hb2.mono B7.out.size))
    have HM8 := hid (HM7.out.up hb2)
    have c8 := cell_at (i := 0) (stay HK7.out hb2) rfl
    have HK8 := hid (stay HK7.out hb2)
    clear hb2 hq2 HEq K7 c1
    have he1 := HEr.out
    unfold behE at he1
    rw [HCe.out, if_pos rfl] at he1
    by_cases hk0 : k < 0
    · obtain rfl : (4 : Int) = er := by rw [← he1, if_neg (by omega)]
      obtain rfl : [] = lb := by rw [← HLb.out, if_neg (by decide)]
      clear he1
      go_wp2
      go_ret
      exact ⟨rfl, B8.out⟩
    by_cases hkn : (n : Int) ≤ k
    · obtain rfl : (4 : Int) = er := by rw [← he1, if_neg (by omega)]
      obtain rfl : [] = lb := by rw [← HLb.out, if_neg (by decide)]
      clear he1
      go_wp2
      go_ret
      exact ⟨rfl, B8.out⟩
    obtain rfl : (0 : Int) = er := by rw [← he1, if_pos (by omega)]
    obtain rfl : bhL b k.toNat = lb := by rw [← HLb.out, if_pos rfl]
    obtain ⟨q, rfl⟩ : ∃ q : Nat, k = q := ⟨k.toNat, by omega⟩
    rw [Int.toNat_natCast] at *
    have hqn : q < n := by omega
    have hbl : (bhL b q).length ≤ q + 1 := behL_len b (q + 1) q (q + 1)
    have CAl := hid (allBehind_any n _ PV b HR.out.elder hn12 q hqn z2 (HV.out.up B8.out))
    rw [show behL b (q + 1) q (q + 1) = bhL b q from rfl] at CAl
    unfold bookV at CAl
    clear he1
    go_wp2_with fail
    refine Calls.mono CAl.out ?_
    rintro e z3 ⟨hb3, vp, rfl, hp⟩
    have B9 := hid (B8.out.trans (hb3.mono B8.out.size))
    have HEq := hid (equal_isl (HM8.out.up hb3) (hp.isl (by omega)))
    rw [eqB_refl] at HEq
    obtain ⟨ap, cp, hvp⟩ : ∃ ap cp, vp = .slice ap (bhL b q).length cp := hp.ownI.shape
    subst hvp
    clear hb3 hp CAl
    go_wp2_with fail
    refine Calls.mono HEq.out ?_
    rintro e z4 ⟨rfl, q4, hq4⟩
    have hb4 : Below z3.heap.size z3 z4 := by rw [hq4]; exact drewN_below _ _
    have BA := hid (B9.out.trans (hb4.mono B9.out.size))
    clear hb4 hq4 HEq
    go_wp2
    go_ret
    exact ⟨rfl, BA.out⟩
  · have hcb : (c != 0) = true := by simpa using hc0
    have he : er = c := by rw [← HEr.out]; unfold behE; rw [HCe.out, if_neg hc0]
    subst he
    obtain rfl : [] = lh := by rw [← HLh.out, if_neg hc0]
    obtain rfl : [] = lb := by rw [← HLb.out, if_neg hc0]
    clear hc0
    go_wp2
    go_ret
    exact ⟨rfl, B6.out⟩

end Go.Proofs.Ytdhefajaekackaa
