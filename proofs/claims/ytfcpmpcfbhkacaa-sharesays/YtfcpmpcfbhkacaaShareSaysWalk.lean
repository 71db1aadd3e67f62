/- The law ShareSays, of a package that does what it owes. -/
import Derived.Test.YtfcpmpcfbhkacaaShareJoins
import Derived.Test.YtfcpmpcfbhkacaaShareEq
namespace Go.Proofs.Ytfcpmpcfbhkacaa
open Go.RowKit CurveMath
set_option linter.unusedVariables false

theorem eqB_refl (n : Nat) (X : Nat → Int) : eqB n n X X = true := decide_eq_true ⟨rfl, fun _ _ => rfl⟩

theorem eqShB_refl (n : Nat) (N : Nat → Int) (L : Nat → Nat) (X : Nat → Nat → Int) : eqShB n n N N L L X X = true := decide_eq_true ⟨rfl, fun j _ => by
  unfold sameB
  rw [decide_eq_true rfl, eqB_refl]
  rfl⟩

theorem heap_three {w : World} (o1 o2 o3 : Obj) : (((w.alloc o1).alloc o2).alloc o3).heap[w.heap.size]? = some o1 ∧ (((w.alloc o1).alloc o2).alloc o3).heap[w.heap.size + 1]? = some o2 ∧ (((w.alloc o1).alloc o2).alloc o3).heap[w.heap.size + 1 + 1]? = some o3 := by
  have z1 : (w.alloc o1).heap.size = w.heap.size + 1 := by simp
  have z2 : ((w.alloc o1).alloc o2).heap.size = w.heap.size + 1 + 1 := by simp
  have h3 := heap_alloc_new ((w.alloc o1).alloc o2) o3
  rw [z2] at h3
  have h2 := heap_two_new w o1 o2
  have h1 := heap_two_old w o1 o2
  exact ⟨by rw [Below.heap_alloc _ _ _ (by rw [z2]; omega)]; exact h1, by rw [Below.heap_alloc _ _ _ (by rw [z2]; omega)]; exact h2, h3⟩

set_option maxRecDepth 10000 in
set_option maxHeartbeats 4000000 in
theorem shareSays_of (hO : Owes) (nd of sz : Int) (a1 : Option Addr) (n1 cap1 : Nat) (D : Nat → Int) (a2 : Option Addr) (n2 cap2 : Nat) (N : Nat → Int) (V : Nat → Value) (L : Nat → Nat) (X : Nat → Nat → Int) (Ns : Int) (a3 : Option Addr) (n3 cap3 : Nat) (Xs : Nat → Int) (Nt : Int) (a4 : Option Addr) (n4 cap4 : Nat) (Xt : Nat → Int) (w : World)
    (w1 : SlArg w a1 n1 cap1 D) (w2 : ShSl w w.heap.size (.slice a2 n2 cap2) n2 N V L X) (w3 : SlArg w a3 n3 cap3 Xs) (w4 : SlArg w a4 n4 cap4 Xt) :
    Calls Try.prog 3 #[planV nd of sz, .slice a1 n1 cap1, .slice a2 n2 cap2, shareV Ns (.slice a3 n3 cap3), shareV Nt (.slice a4 n4 cap4)] w fun e w' => e = .returned (.bool true) ∧ Below w.heap.size w w' := by
  obtain ⟨h1, h2, h3⟩ := heap_three (w := w) (.cells #[.int .i64 nd, .int .i64 of, .int .i64 sz] 23) (.cells #[.int .i64 Ns, .slice a3 n3 cap3] 27) (.cells #[.int .i64 Nt, .slice a4 n4 cap4] 27)
  have hbW : Below w.heap.size w (((w.alloc (.cells #[.int .i64 nd, .int .i64 of, .int .i64 sz] 23)).alloc (.cells #[.int .i64 Ns, .slice a3 n3 cap3] 27)).alloc (.cells #[.int .i64 Nt, .slice a4 n4 cap4] 27)) :=
    (((Below.refl w.heap.size w).alloc (Nat.le_refl _) _).alloc (by simp) _).alloc (by simp; omega) _
  obtain ⟨W, hW⟩ : ∃ W, ((w.alloc (.cells #[.int .i64 nd, .int .i64 of, .int .i64 sz] 23)).alloc (.cells #[.int .i64 Ns, .slice a3 n3 cap3] 27)).alloc (.cells #[.int .i64 Nt, .slice a4 n4 cap4] 27) = W := ⟨_, rfl⟩
  rw [hW] at h1 h2 h3 hbW
  have p0 : W.cell? ⟨w.heap.size, 0, none⟩ = some (.int .i64 nd) := cell_at h1 rfl
  have p1 : W.cell? ⟨w.heap.size, 1, none⟩ = some (.int .i64 of) := cell_at h1 rfl
  have p2 : W.cell? ⟨w.heap.size, 2, none⟩ = some (.int .i64 sz) := cell_at h1 rfl
  have s0 : W.cell? ⟨w.heap.size + 1, 0, none⟩ = some (.int .i64 Ns) := cell_at h2 rfl
  have s1 : W.cell? ⟨w.heap.size + 1, 1, none⟩ = some (.slice a3 n3 cap3) := cell_at h2 rfl
  have t0 : W.cell? ⟨w.heap.size + 1 + 1, 0, none⟩ = some (.int .i64 Nt) := cell_at h3 rfl
  have t1 : W.cell? ⟨w.heap.size + 1 + 1, 1, none⟩ = some (.slice a4 n4 cap4) := cell_at h3 rfl
  have KC : Hid (∀ w', Below W.heap.size W w' → ∀ (a : Addr) (v : Value), W.cell? a = some v → w'.cell? a = some v) := fun w' hb' a v h => by rw [hb'.cell (cell_lt h)]; exact h
  have HI1 : Hid (∀ w', Below W.heap.size W w' → IntSl w' w'.heap.size (.slice a1 n1 cap1) n1 D) := fun w' hb' => (w1.isl.up hbW).up hb'
  have HI2 : Hid (∀ w', Below W.heap.size W w' → ShSl w' w'.heap.size (.slice a2 n2 cap2) n2 N V L X) := fun w' hb' => (w2.up hbW).up hb'
  have HI3 : Hid (∀ w', Below W.heap.size W w' → IntSl w' w'.heap.size (.slice a3 n3 cap3) n3 Xs) := fun w' hb' => (w3.isl.up hbW).up hb'
  have HI4 : Hid (∀ w', Below W.heap.size W w' → IntSl w' w'.heap.size (.slice a4 n4 cap4) n4 Xt) := fun w' hb' => (w4.isl.up hbW).up hb'
  have HO := hid hO
  have HBW := hid hbW
  have P0 := hid p0
  have P1 := hid p1
  have P2 := hid p2
  have S0 := hid s0
  have S1 := hid s1
  have T0 := hid t0
  have T1 := hid t1
  clear w1 w2 w3 w4 hbW h1 h2 h3 hO
  unfold planV shareV
  go_enter Try.func3, Try.ntmps3
  go_wp2_with fail
  clear hW
  refine Calls.mono (HO.out.split nd of sz _ n1 D W (HI1.out W (Below.refl _ _))) ?_
  rintro e u1 ⟨hb1, ra, ma, VA, rfl, hma, hsa, _, _⟩
  have B1 := hid hb1
  have SA := hid hsa
  have p0 := KC.out u1 hb1 _ _ P0.out
  have p1 := KC.out u1 hb1 _ _ P1.out
  have p2 := KC.out u1 hb1 _ _ P2.out
  clear hb1 hsa
  go_wp2_with fail
  refine Calls.mono (HO.out.join nd of sz _ n2 N V L X u1 (HI2.out u1 B1.out)) ?_
  rintro e u2 ⟨hb2, rb, mb, rfl, hmb, hsb⟩
  have B2 := hid (B1.out.trans (hb2.mono B1.out.size))
  have SA2 := hid (SA.out.up hb2)
  have SB := hid hsb
  have p0 := KC.out u2 B2.out _ _ P0.out
  have p1 := KC.out u2 B2.out _ _ P1.out
  have p2 := KC.out u2 B2.out _ _ P2.out
  clear hb2 hsb SA
  go_wp2_with fail
  refine Calls.mono (splits_any nd of sz a1 n1 cap1 D u2 (HI1.out u2 B2.out)) ?_
  rintro e u3 ⟨hb3, rA, mA, VA2, rfl, hmA, hsA⟩
  have B3 := hid (B2.out.trans (hb3.mono B2.out.size))
  have SA3 := hid (SA2.out.up hb3)
  have SB3 := hid (SB.out.up hb3)
  have SC := hid hsA
  have p0 := KC.out u3 B3.out _ _ P0.out
  have p1 := KC.out u3 B3.out _ _ P1.out
  have p2 := KC.out u3 B3.out _ _ P2.out
  clear hb3 hsA SA2 SB
  go_wp2_with fail
  refine Calls.mono (joins_any nd of sz _ n2 N V L X u3 (HI2.out u3 B3.out)) ?_
  rintro e u4 ⟨hb4, rB, mB, rfl, hmB, hsB⟩
  have B4 := hid (B3.out.trans (hb4.mono B3.out.size))
  obtain rfl : mA = ma := by omega
  obtain rfl : mB = mb := by omega
  have KEqS : Hid (∀ w', Below u4.heap.size u4 w' → Calls Try.prog 25 #[ra, rA, .func (.func 24) #[] #[]] w' fun e w'' => e = .returned (.bool true) ∧ Below u4.heap.size u4 w'') := fun w' hb' => by
    have h := equalFunc_SameShare sameShare_any (((SA3.out.up hb4)).up hb') ((SC.out.up hb4).up hb')
    rw [eqShB_refl] at h
    exact h.mono fun e w'' ⟨he, hb⟩ => ⟨he, hb'.trans (hb.mono hb'.size)⟩
  have KEqI : Hid (∀ w', Below u4.heap.size u4 w' → Calls Try.prog 26 #[rb, rB] w' fun e w'' => e = .returned (.bool true) ∧ Below u4.heap.size u4 w'') := fun w' hb' => by
    have h := equal_isl ((SB3.out.up hb4).up hb') (hsB.up hb')
    rw [eqB_refl] at h
    exact h.mono fun e w'' ⟨he, k, hk⟩ => ⟨he, by rw [hk]; exact hb'.trans ⟨rfl, rfl, rfl, Nat.le_refl _, fun _ _ => rfl⟩⟩
  clear hb4 hsB SA3 SB3 SC hma hmb hmA hmB
  generalize splitE nd of sz n1 D = c1
  generalize joinE nd of sz n2 N L X = c2
  have HUp : Hid (∀ w', Below u4.heap.size u4 w' → Below W.heap.size W w') := fun w' hb' => B4.out.trans (hb'.mono B4.out.size)
  have KPa := hid (fun w' (hb' : Below u4.heap.size u4 w') => parted_up HO.out (w0 := u4) w' hb')
  obtain ⟨c3, hc3⟩ : ∃ c, chkP nd of sz = c := ⟨_, rfl⟩
  obtain ⟨c4, hc4⟩ : ∃ c, longP nd of sz = c := ⟨_, rfl⟩
  obtain ⟨c5, hc5⟩ : ∃ c, oneE nd of sz Ns n3 Xs = c := ⟨_, rfl⟩
  obtain ⟨c6, hc6⟩ : ∃ c, sameB Ns Nt n3 n4 Xs Xt = c := ⟨_, rfl⟩
  have K3 : Hid (∀ w', Below u4.heap.size u4 w' → Calls Try.prog 17 #[.agg #[.int .i64 nd, .int .i64 of, .int .i64 sz]] w' fun e w'' => e = .returned (.int .i64 c3) ∧ Below u4.heap.size u4 w'') := fun w' hb' => (HO.out.check nd of sz w').mono fun e w'' ⟨he, hb⟩ => ⟨by rw [he, hc3], hb'.trans (hb.mono hb'.size)⟩
  have K3r : Hid (∀ w', Below u4.heap.size u4 w' → Calls Try.prog 18 #[.agg #[.int .i64 nd, .int .i64 of, .int .i64 sz]] w' fun e w'' => e = .returned (.int .i64 c3) ∧ Below u4.heap.size u4 w'') := fun w' hb' => (checkPlan_any nd of sz w').mono fun e w'' ⟨he, hb⟩ => ⟨by rw [he, hc3], hb'.trans (hb.mono hb'.size)⟩
  have K4 : Hid (∀ w', Below u4.heap.size u4 w' → Calls Try.prog 19 #[.agg #[.int .i64 nd, .int .i64 of, .int .i64 sz]] w' fun e w'' => e = .returned (.int .i64 c4) ∧ Below u4.heap.size u4 w'') := fun w' hb' => (HO.out.long nd of sz w').mono fun e w'' ⟨he, hb⟩ => ⟨by rw [he, hc4], hb'.trans (hb.mono hb'.size)⟩
  have K4r : Hid (∀ w', Below u4.heap.size u4 w' → Calls Try.prog 20 #[.agg #[.int .i64 nd, .int .i64 of, .int .i64 sz]] w' fun e w'' => e = .returned (.int .i64 c4) ∧ Below u4.heap.size u4 w'') := fun w' hb' => (rowsOf_any nd of sz w').mono fun e w'' ⟨he, hb⟩ => ⟨by rw [he, hc4], hb'.trans (hb.mono hb'.size)⟩
  have K5 : Hid (∀ w', Below u4.heap.size u4 w' → Calls Try.prog 21 #[.agg #[.int .i64 nd, .int .i64 of, .int .i64 sz], .agg #[.int .i64 Ns, .slice a3 n3 cap3]] w' fun e w'' => e = .returned (.int .i64 c5) ∧ Below u4.heap.size u4 w'') := fun w' hb' => (HO.out.one nd of sz Ns _ n3 Xs w' (HI3.out w' (HUp.out w' hb'))).mono fun e w'' ⟨he, hb⟩ => ⟨by rw [he, hc5], hb'.trans (hb.mono hb'.size)⟩
  have K5r : Hid (∀ w', Below u4.heap.size u4 w' → Calls Try.prog 22 #[.agg #[.int .i64 nd, .int .i64 of, .int .i64 sz], .agg #[.int .i64 Ns, .slice a3 n3 cap3]] w' fun e w'' => e = .returned (.int .i64 c5) ∧ Below u4.heap.size u4 w'') := fun w' hb' => (checkShare_any nd of sz Ns _ n3 Xs w' (HI3.out w' (HUp.out w' hb'))).mono fun e w'' ⟨he, hb⟩ => ⟨by rw [he, hc5], hb'.trans (hb.mono hb'.size)⟩
  have K6 : Hid (∀ w', Below u4.heap.size u4 w' → Calls Try.prog 23 #[.agg #[.int .i64 Ns, .slice a3 n3 cap3], .agg #[.int .i64 Nt, .slice a4 n4 cap4]] w' fun e w'' => e = .returned (.bool c6) ∧ Below u4.heap.size u4 w'') := fun w' hb' => (HO.out.same Ns Nt _ _ n3 n4 Xs Xt w' (HI3.out w' (HUp.out w' hb')) (HI4.out w' (HUp.out w' hb'))).mono fun e w'' ⟨he, hb⟩ => ⟨by rw [he, hc6], hb'.trans (hb.mono hb'.size)⟩
  have K6r : Hid (∀ w', Below u4.heap.size u4 w' → Calls Try.prog 24 #[.agg #[.int .i64 Ns, .slice a3 n3 cap3], .agg #[.int .i64 Nt, .slice a4 n4 cap4]] w' fun e w'' => e = .returned (.bool c6) ∧ Below u4.heap.size u4 w'') := fun w' hb' => (sameShare_any Ns Nt _ _ n3 n4 Xs Xt w' (HI3.out w' (HUp.out w' hb')) (HI4.out w' (HUp.out w' hb'))).mono fun e w'' ⟨he, hb⟩ => ⟨by rw [he, hc6], hb'.trans (hb.mono hb'.size)⟩
  have hne : Nonempty (Of (Below u4.heap.size u4)) := ⟨⟨u4, Below.refl _ _⟩⟩
  have F0 : ∀ u : Of (Below u4.heap.size u4), u.val.cell? ⟨w.heap.size, 0, none⟩ = some (.int .i64 nd) := fun u => KC.out _ (HUp.out _ u.is) _ _ P0.out
  have F1 : ∀ u : Of (Below u4.heap.size u4), u.val.cell? ⟨w.heap.size, 1, none⟩ = some (.int .i64 of) := fun u => KC.out _ (HUp.out _ u.is) _ _ P1.out
  have F2 : ∀ u : Of (Below u4.heap.size u4), u.val.cell? ⟨w.heap.size, 2, none⟩ = some (.int .i64 sz) := fun u => KC.out _ (HUp.out _ u.is) _ _ P2.out
  have F3 : ∀ u : Of (Below u4.heap.size u4), u.val.cell? ⟨w.heap.size + 1, 0, none⟩ = some (.int .i64 Ns) := fun u => KC.out _ (HUp.out _ u.is) _ _ S0.out
  have F4 : ∀ u : Of (Below u4.heap.size u4), u.val.cell? ⟨w.heap.size + 1, 1, none⟩ = some (.slice a3 n3 cap3) := fun u => KC.out _ (HUp.out _ u.is) _ _ S1.out
  have F5 : ∀ u : Of (Below u4.heap.size u4), u.val.cell? ⟨w.heap.size + 1 + 1, 0, none⟩ = some (.int .i64 Nt) := fun u => KC.out _ (HUp.out _ u.is) _ _ T0.out
  have F6 : ∀ u : Of (Below u4.heap.size u4), u.val.cell? ⟨w.heap.size + 1 + 1, 1, none⟩ = some (.slice a4 n4 cap4) := fun u => KC.out _ (HUp.out _ u.is) _ _ T1.out
  have HFin : Hid (∀ w', Below u4.heap.size u4 w' → Below w.heap.size w w') := fun w' hb' => HBW.out.trans ((HUp.out w' hb').mono HBW.out.size)
  have HD4 : Hid (Below u4.heap.size u4 u4.drew) := ⟨rfl, rfl, rfl, Nat.le_refl _, fun _ _ => rfl⟩
  clear hc3 hc4 hc5 hc6 p0 p1 p2 s0 s1 t0 t1
  go_wp2_with fail
  refine region_mixed (Below u4.heap.size u4) [([], 0), ([1, 2, 4], 3), ([], 5), ([6, 7, 8, 9, 11], 10), ([], 12), ([13, 14, 15, 16, 17, 19, 20], 18), ([], 21), ([22, 23, 24, 25, 26, 28, 29], 27), ([], 30), ([31, 32, 33, 34, 35, 36, 37, 38, 39, 40], 41), ([42, 43, 44, 45, 46, 47, 48, 49, 50], 51)] [52, 53] (by kernel_rfl) (by kernel_rfl) HD4.out ?_
  refine mixO_cons (lq := []) ?_ rfl (by simp only [pickO, List.getElem?_cons_zero]; exact rfl)
  refine wpQuiet_nil ?_
  intro K hK
  go_wp2_with fail
  refine Calls.mono (KPa.out _ HD4.out) ?_
  rintro e y0 ⟨rfl, hb⟩
  have Hy0 := hid hb
  clear hb
  go_wp2
  refine ⟨rfl, hK _ _ Hy0.out ?_⟩
  clear hK K
  refine mixO_cons ?_
  repeat (go_big_quiet_step (fail))
  refine wpQuiet_nil ?_
  intro K hK
  go_wp2_with fail
  refine Calls.mono (K3.out _ Hy0.out) ?_
  rintro e y1 ⟨rfl, hb⟩
  have Hy1 := hid hb
  clear hb
  go_wp2
  refine ⟨rfl, hK _ _ Hy1.out ?_⟩
  clear hK K
  refine mixO_cons (lq := []) ?_ rfl
  refine wpQuiet_nil ?_
  intro K hK
  go_wp2_with fail
  refine Calls.mono (K3r.out _ Hy1.out) ?_
  rintro e y2 ⟨rfl, hb⟩
  have Hy2 := hid hb
  clear hb
  go_wp2
  refine ⟨rfl, hK _ _ Hy2.out ?_⟩
  clear hK K
  refine mixO_cons ?_
  repeat (go_big_quiet_step (fail))
  refine wpQuiet_nil ?_
  intro K hK
  go_wp2_with fail
  refine Calls.mono (K4.out _ Hy2.out) ?_
  rintro e y3 ⟨rfl, hb⟩
  have Hy3 := hid hb
  clear hb
  go_wp2
  refine ⟨rfl, hK _ _ Hy3.out ?_⟩
  clear hK K
  refine mixO_cons (lq := []) ?_ rfl
  refine wpQuiet_nil ?_
  intro K hK
  go_wp2_with fail
  refine Calls.mono (K4r.out _ Hy3.out) ?_
  rintro e y4 ⟨rfl, hb⟩
  have Hy4 := hid hb
  clear hb
  go_wp2
  refine ⟨rfl, hK _ _ Hy4.out ?_⟩
  clear hK K
  refine mixO_cons ?_
  repeat (go_big_quiet_step (fail))
  refine wpQuiet_nil ?_
  intro K hK
  go_wp2_with fail
  refine Calls.mono (K5.out _ Hy4.out) ?_
  rintro e y5 ⟨rfl, hb⟩
  have Hy5 := hid hb
  clear hb
  go_wp2
  refine ⟨rfl, hK _ _ Hy5.out ?_⟩
  clear hK K
  refine mixO_cons (lq := []) ?_ rfl
  refine wpQuiet_nil ?_
  intro K hK
  go_wp2_with fail
  refine Calls.mono (K5r.out _ Hy5.out) ?_
  rintro e y6 ⟨rfl, hb⟩
  have Hy6 := hid hb
  clear hb
  go_wp2
  refine ⟨rfl, hK _ _ Hy6.out ?_⟩
  clear hK K
  refine mixO_cons ?_
  repeat (go_big_quiet_step (fail))
  refine wpQuiet_nil ?_
  intro K hK
  go_wp2_with fail
  refine Calls.mono (K6.out _ Hy6.out) ?_
  rintro e y7 ⟨rfl, hb⟩
  have Hy7 := hid hb
  clear hb
  go_wp2
  refine ⟨rfl, hK _ _ Hy7.out ?_⟩
  clear hK K
  refine mixO_cons (lq := []) ?_ rfl
  refine wpQuiet_nil ?_
  intro K hK
  go_wp2_with fail
  refine Calls.mono (K6r.out _ Hy7.out) ?_
  rintro e y8 ⟨rfl, hb⟩
  have Hy8 := hid hb
  clear hb
  go_wp2
  refine ⟨rfl, hK _ _ Hy8.out ?_⟩
  clear hK K
  refine mixO_cons ?_
  repeat (go_big_quiet_step (fail))
  refine wpQuiet_nil ?_
  intro K hK
  go_wp2_with fail
  refine Calls.mono (KEqS.out _ Hy8.out) ?_
  rintro e y9 ⟨rfl, hb⟩
  have Hy9 := hid hb
  clear hb
  go_wp2
  refine ⟨rfl, hK _ _ Hy9.out ?_⟩
  clear hK K
  refine mixO_cons ?_
  repeat (go_big_quiet_step (fail))
  refine wpQuiet_nil ?_
  intro K hK
  go_wp2_with fail
  refine Calls.mono (KEqI.out _ Hy9.out) ?_
  rintro e y10 ⟨rfl, hb⟩
  have Hy10 := hid hb
  clear hb
  go_wp2
  refine ⟨rfl, hK _ _ Hy10.out ?_⟩
  clear hK K
  refine mixO_nil ?_
  repeat (go_big_quiet_step (fail))
  refine wpQuiet_nil ?_
  go_wp2
  go_ret
  exact ⟨rfl, HFin.out _ Hy10.out⟩

end Go.Proofs.Ytfcpmpcfbhkacaa
