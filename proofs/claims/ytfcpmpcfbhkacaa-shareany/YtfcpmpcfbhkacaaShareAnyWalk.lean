/- The law ShareAny, of a package that does what it owes. -/
import Derived.Test.YtfcpmpcfbhkacaaShareMath
namespace Go.Proofs.Ytfcpmpcfbhkacaa
open Go.RowKit CurveMath
set_option linter.unusedVariables false

theorem pickM_nat {c m : Nat} (h : c ≤ m) {x : Int} (hx : x = (c : Int)) : pickM x m = c := by
  subst hx
  unfold pickM
  split
  · omega
  · omega

theorem eqB_true {n m : Nat} {X Y : Nat → Int} (h1 : n = m) (h2 : ∀ j, j < n → X j = Y j) : eqB n m X Y = true := decide_eq_true ⟨h1, h2⟩

set_option maxRecDepth 10000 in
set_option maxHeartbeats 4000000 in
theorem shareAny_of (hO : Owes) (nd of sz : Int) (a1 : Option Addr) (n cap1 : Nat) (D : Nat → Int) (a2 : Option Addr) (lo cap2 : Nat) (Od : Nat → Int) (more : Int) (w : World) (w1 : SlArg w a1 n cap1 D) (w2 : SlArg w a2 lo cap2 Od) :
    Calls Try.prog 4 #[planV nd of sz, .slice a1 n cap1, .slice a2 lo cap2, .int .i64 more] w fun e w' => e = .returned (.bool true) ∧ Below w.heap.size w w' := by
  have hbx := below_alloc w (.cells #[.int .i64 nd, .int .i64 of, .int .i64 sz] 23)
  have i1 := w1.isl
  have i2 := w2.isl
  have HS := hid (hO.split nd of sz _ n D _ (i1.up hbx))
  have HP := hid (parted_up hO (w0 := w))
  unfold planV
  go_enter Try.func4, Try.ntmps4
  go_wp2_with fail
  refine HS.out.mono ?_
  rintro e w3 ⟨hb3, rl, m, V, rfl, hm, hsl, _, _⟩
  have B3 : Below w.heap.size w w3 := hbx.trans (hb3.mono hbx.size)
  have p0 : w3.cell? ⟨w.heap.size, 0, none⟩ = some (.int .i64 nd) := by rw [hb3.cell (by simp)]; exact cell_at (heap_alloc_new _ _) rfl
  have p1 : w3.cell? ⟨w.heap.size, 1, none⟩ = some (.int .i64 of) := by rw [hb3.cell (by simp)]; exact cell_at (heap_alloc_new _ _) rfl
  have p2 : w3.cell? ⟨w.heap.size, 2, none⟩ = some (.int .i64 sz) := by rw [hb3.cell (by simp)]; exact cell_at (heap_alloc_new _ _) rfl
  have KP : Hid (∀ w', Below w3.heap.size w3 w' → w'.cell? ⟨w.heap.size, 0, none⟩ = some (.int .i64 nd) ∧ w'.cell? ⟨w.heap.size, 1, none⟩ = some (.int .i64 of) ∧ w'.cell? ⟨w.heap.size, 2, none⟩ = some (.int .i64 sz)) := fun w' hb' =>
    ⟨by rw [hb'.cell (cell_lt p0)]; exact p0, by rw [hb'.cell (cell_lt p1)]; exact p1, by rw [hb'.cell (cell_lt p2)]; exact p2⟩
  clear p0 p1 p2
  have HB3 := hid B3
  by_cases he : splitE nd of sz n D = 0
  · rw [if_pos he] at hm
    rw [he]
    obtain ⟨hp, hsz, hD⟩ := splitE_ok he
    obtain ⟨hnd, hof, hsz2⟩ := planOk_spec hp
    have hrw := rowsN_bd hnd hsz2
    obtain ⟨d, rfl⟩ : ∃ d : Nat, nd = d := ⟨nd.toNat, by omega⟩
    subst hsz
    subst hm
    obtain ⟨R, hR⟩ : ∃ R : Nat, rowsN (d : Int) (n : Int) = R := ⟨_, rfl⟩
    rw [hR] at hrw hsl
    rw [Int.toNat_natCast] at hsl
    obtain ⟨x, hx⟩ : ∃ x : Nat, more % ((m : Int) - (d : Int) + 1) = x := ⟨(more % ((m : Int) - (d : Int) + 1)).toNat, by have := Int.emod_nonneg more (show ((m : Int) - (d : Int) + 1) ≠ 0 by omega); omega⟩
    have hxm : x ≤ m - d := by have := Int.emod_lt_of_pos more (show 0 < ((m : Int) - (d : Int) + 1) by omega); omega
    have HP3 := hid (parted_up hO (w0 := w3))
    have HO := hid hO
    have HSL := hid hsl
    have HPl := hid hp
    have HD := hid hD
    have HR := hid hR
    have HI1 := hid (i1.up B3)
    have HI2 := hid (i2.up B3)
    have hdd : 1 ≤ d ∧ d ≤ 4 := by omega
    have hdm : d ≤ m ∧ m ≤ 8 := by omega
    have hRR : 1 ≤ R ∧ R ≤ 24 := by omega
    have hnn : 1 ≤ n ∧ n ≤ 24 := by omega
    have HPk : Hid (∀ w', Below w3.heap.size w3 w' → ∀ (many : Int) (c : Nat), c ≤ m → many = (c : Int) → Calls Try.prog 28 #[rl, .slice a2 lo cap2, .int .i64 many] w' fun e w'' => PickPost w' m c (fun k => (k : Int)) V e w'') := fun w' hb' many c hc hmn => by
      have h := picked_any (hsl.up hb') (by omega) a2 lo cap2 Od ((i2.up B3).up hb') many
      rw [pickM_nat hc hmn] at h
      exact h
    have HJn : Hid (∀ w' w'' v' O Lf c, Below w3.heap.size w3 w' → OwnS w' w'' v' c (fun j => (O j : Int)) (fun j => V (O j)) → Pick m c O Lf → c ≤ 8 → Calls Try.prog 13 #[.agg #[.int .i64 (d : Int), .int .i64 (m : Int), .int .i64 (n : Int)], v'] w'' fun e w3 => Below w''.heap.size w'' w3 ∧ ∃ (r : Value) (k : Nat), e = .returned (.tuple #[r, .int .i64 (if d ≤ c then 0 else 7)]) ∧ (d ≤ c → k = n ∧ IntSl w3 w3.heap.size r n D)) := fun w' w'' v' O Lf c hb' hown hpick hc8 => by
      have hs' := hsl.up hb'
      have hi : ∀ j, j < c → IntSl w'' w''.heap.size (V (O j)) R (fun r => shv d n D (O j) r) := fun j hj => by
        obtain ⟨_, _, _, _, h2⟩ := hs'
        rcases h2 with h0 | ⟨_, _, _, _, h5⟩
        · omega
        · exact ((h5 (O j) (hpick.o j hj)).2.2).up hown.2
      have hsh := hown.shl (L := fun _ => R) (X := fun j r => shv d n D (O j) r) (by omega) hi
      refine (hO.join (d : Int) (m : Int) (n : Int) v' c _ _ _ _ w'' hsh).mono ?_
      rintro e w4 ⟨hb4, r, k, he, hk, hr⟩
      refine ⟨hb4, r, k, ?_, fun hdc => ?_⟩
      · rw [he]
        by_cases hdc : d ≤ c
        · rw [if_pos hdc, joinE_pick hp hD hdc hpick.le hpick.o hpick.oinj hR]
        · rw [if_neg hdc, joinE_few hp (by omega) hpick.o hpick.oinj hR]
      · rw [joinE_pick hp hD hdc hpick.le hpick.o hpick.oinj hR, if_pos rfl] at hk
        obtain rfl : k = n := by omega
        refine ⟨rfl, hr.congr fun j hj => ?_⟩
        rw [Int.toNat_natCast, joinD_pick (by omega) hD (fun j hj => by have := hpick.o j (by omega); omega) (fun i j h1 h2 => hpick.oinj i j (by omega) (by omega))]
        unfold padD
        rw [if_pos hj]
    clear hsl hp hD hR he hrw hnd hof hsz2 i1 i2 w1 w2 hbx hb3 HS HP hO B3
    go_wp2_with (go_at_call 16; go_must (refine (HP3.out _ (Below.refl _ _)).mono ?_; rintro e w4 ⟨rfl, hb4⟩; obtain ⟨p0, p1, p2⟩ := KP.out w4 hb4; have HB4 := hid hb4; clear hb4))
    go_quiet ((go_at_call 27; exact Calls.quiet_of_same (at_any _ _ (by omega) _)))
    have hne : Nonempty (Of (Below w3.heap.size w3)) := ⟨⟨w3, Below.refl _ _⟩⟩
    have F0 : ∀ u : Of (Below w3.heap.size w3), u.val.cell? ⟨w.heap.size, 0, none⟩ = some (.int .i64 (d : Int)) := fun u => (KP.out u.val u.is).1
    have F1 : ∀ u : Of (Below w3.heap.size w3), u.val.cell? ⟨w.heap.size, 1, none⟩ = some (.int .i64 (m : Int)) := fun u => (KP.out u.val u.is).2.1
    have F2 : ∀ u : Of (Below w3.heap.size w3), u.val.cell? ⟨w.heap.size, 2, none⟩ = some (.int .i64 (n : Int)) := fun u => (KP.out u.val u.is).2.2
    clear hx p0 p1 p2
    go_wp2_with fail
    have HD5 : Hid (Below w3.heap.size w3 (w4.drewN nq).drew) := HB4.out.trans ⟨rfl, rfl, rfl, Nat.le_refl _, fun _ _ => rfl⟩
    refine region_mixed (Below w3.heap.size w3) [([0, 1, 2, 3], 4), ([], 5)] [6, 7, 8, 9, 10] (by kernel_rfl) (by kernel_rfl) HD5.out ?_
    refine mixO_cons ?_
    repeat (go_big_quiet_step (fail))
    refine wpQuiet_nil ?_
    intro K hK
    go_wp2_with fail
    refine Calls.mono (HPk.out _ HD5.out _ (d + x) (by omega) (by omega)) ?_
    rintro e w5 ⟨vp, O, Lf, rfl, hown, hpick⟩
    have HOw := hid hown
    have HPi := hid hpick
    have HB5 : Hid (Below w3.heap.size w3 w5) := HD5.out.trans (hown.2.mono HD5.out.size)
    clear hown hpick
    go_wp2
    refine ⟨rfl, hK _ _ HB5.out ?_⟩
    clear hK K
    refine mixO_cons (lq := []) ?_ rfl
    refine wpQuiet_nil ?_
    intro K hK
    go_wp2_with fail
    refine Calls.mono (HJn.out _ _ _ O Lf (d + x) HD5.out HOw.out HPi.out (by omega)) ?_
    rintro e w6 ⟨hb6, r, k, rfl, hr⟩
    rw [if_pos (by omega)]
    obtain ⟨rfl, hr⟩ := hr (by omega)
    have HB6 : Hid (Below w3.heap.size w3 w6) := HB5.out.trans (hb6.mono HB5.out.size)
    have HRs := hid hr
    clear hb6 hr
    go_wp2
    refine ⟨rfl, hK _ _ HB6.out ?_⟩
    clear hK K
    refine mixO_nil ?_
    repeat (go_big_quiet_step (fail))
    refine wpQuiet_nil ?_
    obtain ⟨p0, p1, p2⟩ := KP.out w6 HB6.out
    have HEq := hid (equal_isl HRs.out ((HI1.out.up HB6.out)))
    rw [eqB_true rfl (fun _ _ => rfl)] at HEq
    have hsh : ∃ al cl, rl = .slice al m cl := by obtain ⟨al, cl, e, _⟩ := HSL.out; exact ⟨al, cl, e⟩
    obtain ⟨al, cl, hrl⟩ := hsh
    subst hrl
    go_wp2_with fail
    refine Calls.mono HEq.out ?_
    rintro e w7 ⟨rfl, q7, hq7⟩
    have HB7 : Hid (Below w3.heap.size w3 w7.drew) := by rw [hq7]; exact HB6.out.trans ⟨rfl, rfl, rfl, Nat.le_refl _, fun _ _ => rfl⟩
    clear hq7 HEq p0 p1 p2
    go_wp2_with fail
    refine region_mixed (Below w3.heap.size w3) [([0, 1, 2, 3, 4, 5], 6), ([], 7)] [8, 9, 10, 11] (by kernel_rfl) (by kernel_rfl) HB7.out ?_
    refine mixO_cons ?_
    repeat (go_big_quiet_step (fail))
    refine wpQuiet_nil ?_
    intro K hK
    go_wp2_with fail
    refine Calls.mono (HPk.out _ HB7.out _ (d - 1) (by omega) (by omega)) ?_
    rintro e w8 ⟨vp2, O2, Lf2, rfl, hown, hpick⟩
    have HOw2 := hid hown
    have HPi2 := hid hpick
    have HB8 : Hid (Below w3.heap.size w3 w8) := HB7.out.trans (hown.2.mono HB7.out.size)
    clear hown hpick
    go_wp2
    refine ⟨rfl, hK _ _ HB8.out ?_⟩
    clear hK K
    refine mixO_cons (lq := []) ?_ rfl
    refine wpQuiet_nil ?_
    intro K hK
    go_wp2_with fail
    refine Calls.mono (HJn.out _ _ _ O2 Lf2 (d - 1) HB7.out HOw2.out HPi2.out (by omega)) ?_
    rintro e w9 ⟨hb9, r9, k9, rfl, _⟩
    rw [if_neg (by omega)]
    have HB9 : Hid (Below w3.heap.size w3 w9) := HB8.out.trans (hb9.mono HB8.out.size)
    clear hb9
    go_wp2
    refine ⟨rfl, hK _ _ HB9.out ?_⟩
    clear hK K
    refine mixO_nil ?_
    repeat (go_big_quiet_step (fail))
    refine wpQuiet_nil ?_
    obtain ⟨al', cl', e1, _, hjl⟩ := HSL.out
    injection e1 with e1 _ e3
    subst e1 e3
    rcases hjl with h0 | ⟨bl, ol, rfl, hbl, hjl⟩
    · omega
    have HJL := hid hjl
    clear hjl
    go_wp2
    go_loopw [76] (fun i wr => ∃ j : Nat, j ≤ m ∧ i = .int .i64 j ∧ Hid (Below w3.heap.size w3 wr)) (fun i _ => m - (intOf i).toNat)
    case atStart => exact ⟨0, Nat.zero_le _, rfl, HB9⟩
    case round =>
      obtain ⟨j, hj, rfl, HQ⟩ := hrel
      by_cases hjm : j < m
      · have hji : (j : Int) < (m : Int) := by omega
        obtain ⟨hg1, hg2, hg3⟩ := HJL.out j hjm
        have HI3 : Hid (∀ w', Below w3.heap.size w3 w' → IntSl w' w'.heap.size (V j) R (fun i => shv d k D j i)) := fun w' hb => hg3.up hb
        obtain ⟨av, cv, hve, _, _⟩ := hg3
        rw [hve] at HI3
        have g1 : wr.cell? ⟨bl, ol + j * 2, none⟩ = some (.int .i64 (j : Int)) := by rw [HQ.out.cell (cell_lt hg1), hg1]
        have g2 : wr.cell? ⟨bl, ol + j * 2 + 1, none⟩ = some (.slice av R cv) := by rw [HQ.out.cell (cell_lt hg2), hg2, hve]
        have hbA : Below w3.heap.size w3 (wr.alloc (.cells #[.int .i64 (j : Int), .slice av R cv] 27)) := HQ.out.alloc HQ.out.size _
        have HBA := hid hbA
        obtain ⟨p0, p1, p2⟩ := KP.out wr HQ.out
        have lp : w.heap.size < wr.heap.size := cell_lt p0
        have HOn : Hid (Calls Try.prog 21 #[.agg #[.int .i64 (d : Int), .int .i64 (m : Int), .int .i64 (k : Int)], .agg #[.int .i64 (j : Int), .slice av R cv]] (wr.alloc (.cells #[.int .i64 (j : Int), .slice av R cv] 27)) fun e w'' => e = .returned (.int .i64 0) ∧ Below w3.heap.size w3 w'') := by
          refine (HO.out.one (d : Int) (m : Int) (k : Int) (j : Int) _ R _ _ (HI3.out _ hbA)).mono ?_
          rintro e w'' ⟨he, hb⟩
          refine ⟨?_, hbA.trans (hb.mono hbA.size)⟩
          rw [he, oneE_mk HPl.out ⟨by omega, by omega⟩ (by rw [HR.out]) (fun i _ => shv_num _ _ _ _ _)]
        clear hg1 hg2 hve hbA
        go_wp2_with (go_at_call 21; go_must (refine HOn.out.mono ?_; rintro e wx ⟨rfl, hbx⟩; have HBX := hid hbx; clear hbx))
        go_roundw
        case rel => exact ⟨j + 1, by omega, by go_num, HBX⟩
        case measure => simp only [intOf]; omega
      · have hjm2 : j = m := by omega
        subst hjm2
        go_wp2
        go_ret
        exact ⟨rfl, HB3.out.trans (HQ.out.mono HB3.out.size)⟩
  · have hne : (splitE nd of sz n D != 0) = true := by simpa using he
    generalize splitE nd of sz n D = c at *
    clear hm hsl he
    go_wp2_with (go_at_call 16; go_must (refine (HP.out _ HB3.out).mono ?_; rintro e w4 ⟨rfl, hb4⟩; have HB3 := hid hb4; clear hb4))
    go_ret
    exact ⟨rfl, HB3.out⟩

end Go.Proofs.Ytfcpmpcfbhkacaa
