/- Several texts of one proof, in their order. -/
import Derived.Test.YtfcpmpcfbhkacaaVoteOrderPart1

/- The law VoteOrder. -/
namespace Go.Proofs.Ytfcpmpcfbhkacaa

open Go.RowKit CurveMath
set_option linter.unusedVariables false

theorem pickN_nat {c m : Nat} (h : c ≤ m) {x : Int} (hx : x = (c : Int)) : pickM x m = c := by
  subst hx
  unfold pickM
  split
  · omega
  · omega

/-- shares of one content, in whatever order: that content, and nobody else -/
theorem most_pick {d m n c R : Nat} {D : Nat → Int} {O : Nat → Nat} (hp : planOk (d : Int) (m : Int) (n : Int) = true) (hD : ∀ j, j < n → 0 ≤ D j ∧ D j ≤ 30) (hdc : d ≤ c) (hc : c ≤ m) (hpk : ∀ j, j < c → O j < m) (hi : ∀ i j, i < c → j < c → O i = O j → i = j) (hR : rowsN (d : Int) (n : Int) = R) :
    mostE (d : Int) (m : Int) (n : Int) c (fun j => (O j : Int)) (fun _ => R) (fun j r => shv d n D (O j) r) = 0 ∧ mostB (d : Int) (m : Int) (n : Int) c (fun j => (O j : Int)) (fun _ => R) (fun j r => shv d n D (O j) r) = [] ∧
      ∀ i, i < n → mostD (d : Int) (n : Int) c (fun j => (O j : Int)) (fun j r => shv d n D (O j) r) i = D i := by
  obtain ⟨h1, h2, h3⟩ := planOk_spec hp
  have hj := joinE_pick hp hD hdc hc hpk hi hR
  obtain ⟨k1, k2, k3⟩ := most_join (nd := (d : Int)) (of := (m : Int)) (sz := (n : Int)) (n := c) (N := fun j => (O j : Int)) (L := fun _ => R) (X := fun j r => shv d n D (O j) r) (by rw [hj]; decide)
  refine ⟨by rw [k1, hj], k2, fun i hi' => ?_⟩
  rw [k3 hj i (by rw [Int.toNat_natCast]; exact hi'), Int.toNat_natCast, joinD_pick (by omega) hD (fun j hj => by have := hpk j (by omega); omega) (fun i j h1 h2 => hi i j (by omega) (by omega))]
  unfold padD
  rw [if_pos hi']

/-- Most, of shares of one content that the call owns -/
theorem most_own {d m n c R : Nat} {D : Nat → Int} {O : Nat → Nat} {V : Nat → Value} {w0 w1 wr : World} {rl vp : Value} (hp : planOk (d : Int) (m : Int) (n : Int) = true) (hD : ∀ j, j < n → 0 ≤ D j ∧ D j ≤ 30) (hdc : d ≤ c) (hc : c ≤ m) (hpk : ∀ j, j < c → O j < m) (hi : ∀ i j, i < c → j < c → O i = O j → i = j) (hR : rowsN (d : Int) (n : Int) = R)
    (hsl : ShSl w0 w0.heap.size rl m (fun k => (k : Int)) V (fun _ => R) (fun k i => shv d n D k i)) (hb : Below w0.heap.size w0 w1) (hown : OwnS w1 wr vp c (fun j => (O j : Int)) (fun j => V (O j))) :
    Calls Try.prog 30 #[.agg #[.int .i64 (d : Int), .int .i64 (m : Int), .int .i64 (n : Int)], vp] wr fun e w' => Below wr.heap.size wr w' ∧ ∃ (a b : Option Addr) (ca cb : Nat), e = .returned (.tuple #[.slice a n ca, .slice b 0 cb, .int .i64 0]) ∧ IntSl w' w'.heap.size (.slice a n ca) n D := by
  obtain ⟨h1, h2, h3⟩ := planOk_spec hp
  have hs' := hsl.up hb
  have hii : ∀ j, j < c → IntSl wr wr.heap.size (V (O j)) R (fun r => shv d n D (O j) r) := fun j hj => by
    obtain ⟨_, _, _, _, h2⟩ := hs'
    rcases h2 with h0 | ⟨_, _, _, _, h5⟩
    · have := hpk j hj; omega
    · exact ((h5 (O j) (hpk j hj)).2.2).up hown.2
  have hsh := hown.shl (L := fun _ => R) (X := fun j r => shv d n D (O j) r) (by omega) hii
  obtain ⟨k1, k2, k3⟩ := most_pick hp hD hdc hc hpk hi hR
  refine (most_any (d : Int) (m : Int) (n : Int) vp c _ _ _ _ wr hsh).mono ?_
  rintro e w' ⟨hb', r, b, mm, rfl, hmm, hr, hbb⟩
  rw [k1] at hmm ⊢
  rw [k2] at hbb
  rw [if_pos rfl] at hmm
  obtain rfl : mm = n := by omega
  obtain ⟨ab, cb, rfl, _, _⟩ := hbb
  have hr2 := hr.congr k3
  obtain ⟨ar, cr, rfl, _, _⟩ := hr
  exact ⟨hb', ar, ab, cr, cb, rfl, hr2⟩

set_option maxRecDepth 10000 in
set_option maxHeartbeats 4000000 in
theorem voteOrder_of (nd of sz : Int) (a1 : Option Addr) (n cap1 : Nat) (D : Nat → Int) (a2 : Option Addr) (lo cap2 : Nat) (Od : Nat → Int) (more : Int) (w : World) (w1 : SlArg w a1 n cap1 D) (w2 : SlArg w a2 lo cap2 Od) :
    Calls Try.prog 11 #[planV nd of sz, .slice a1 n cap1, .slice a2 lo cap2, .int .i64 more] w fun e w' => e = .returned (.bool true) ∧ Below w.heap.size w w' := by
  have hbx := below_alloc w (.cells #[.int .i64 nd, .int .i64 of, .int .i64 sz] 23)
  have i1 := w1.isl
  have i2 := w2.isl
  have HS := hid (owes.split nd of sz _ n D _ (i1.up hbx))
  unfold planV
  go_enter Try.func11, Try.ntmps11
  go_wp2_with fail
  refine HS.out.mono ?_
  rintro e w3 ⟨hb3, rl, m, V, rfl, hm, hsl, _, _⟩
  have B3 : Below w.heap.size w w3 := hbx.trans (hb3.mono hbx.size)
  have p0 : w3.cell? ⟨w.heap.size, 0, none⟩ = some (.int .i64 nd) := by rw [hb3.cell (by simp)]; exact cell_at (heap_alloc_new _ _) rfl
  have p1 : w3.cell? ⟨w.heap.size, 1, none⟩ = some (.int .i64 of) := by rw [hb3.cell (by simp)]; exact cell_at (heap_alloc_new _ _) rfl
  have p2 : w3.cell? ⟨w.heap.size, 2, none⟩ = some (.int .i64 sz) := by rw [hb3.cell (by simp)]; exact cell_at (heap_alloc_new _ _) rfl
  have KP : Hid (∀ w', Below w3.heap.size w3 w' → w'.cell? ⟨w.heap.size, 0, none⟩ = some (.int .i64 nd) ∧ w'.cell? ⟨w.heap.size, 1, none⟩ = some (.int .i64 of) ∧ w'.cell? ⟨w.heap.size, 2, none⟩ = some (.int .i64 sz)) := fun w' hb' =>
    ⟨by rw [hb'.cell (cell_lt p0)]; exact p0, by rw [hb'.cell (cell_lt p1)]; exact p1, by rw [hb'.cell (cell_lt p2)]; exact p2⟩
  clear p0 p1 p2
  have HB3 := hid B3
  by_cases he : splitE nd of sz n D = 0
  · rw [if_pos he] at hm
    rw [he]
    obtain ⟨hp, hsz, hD⟩ := splitE_ok he
    obtain ⟨hnd, hof, hsz2⟩ := planOk_spec hp
    have hrw := rowsN_bd hnd hsz2
    obtain ⟨d, rfl⟩ : ∃ d : Nat, nd = d := ⟨nd.toNat, by omega⟩
    subst hsz
    subst hm
    obtain ⟨R, hR⟩ : ∃ R : Nat, rowsN (d : Int) (n : Int) = R := ⟨_, rfl⟩
    rw [hR] at hrw hsl
    rw [Int.toNat_natCast] at hsl
    obtain ⟨x, hx⟩ : ∃ x : Nat, more % ((m : Int) - (d : Int) + 1) = x := ⟨(more % ((m : Int) - (d : Int) + 1)).toNat, by have := Int.emod_nonneg more (show ((m : Int) - (d : Int) + 1) ≠ 0 by omega); omega⟩
    have hxm : x ≤ m - d := by have := Int.emod_lt_of_pos more (show 0 < ((m : Int) - (d : Int) + 1) by omega); omega
    have HSL := hid hsl
    have HPl := hid hp
    have HD := hid hD
    have HR := hid hR
    have HI1 := hid (i1.up B3)
    have hdd : 1 ≤ d ∧ d ≤ 4 := by omega
    have hdm : d ≤ m ∧ m ≤ 8 := by omega
    have hnn : 1 ≤ n ∧ n ≤ 24 := by omega
    have HPk : Hid (∀ w', Below w3.heap.size w3 w' → ∀ (many : Int) (c : Nat), c ≤ m → many = (c : Int) → Calls Try.prog 28 #[rl, .slice a2 lo cap2, .int .i64 many] w' fun e w'' => PickPost w' m c (fun k => (k : Int)) V e w'') := fun w' hb' many c hc hmn => by
      have h := picked_any (hsl.up hb') (by omega) a2 lo cap2 Od ((i2.up B3).up hb') many
      rw [pickN_nat hc hmn] at h
      exact h
    have HVs : Hid (∀ j, j < m → ∃ a l c, V j = .slice a l c) := by
      obtain ⟨_, _, _, _, h2⟩ := hsl
      rcases h2 with h0 | ⟨_, _, _, _, h5⟩
      · intro j hj; omega
      · exact fun j hj => by obtain ⟨ad, cap, e, _⟩ := (h5 j hj).2.2; exact ⟨_, _, _, e⟩
    have HLs : Hid (∀ w', Below w3.heap.size w3 w' → ∀ j, j < m → IntSl w' w'.heap.size (V j) R (fun r => shv d n D j r)) := fun w' hb' j hj => by
      obtain ⟨_, _, _, _, h2⟩ := HSL.out.up hb'
      rcases h2 with h0 | ⟨_, _, _, _, h5⟩
      · omega
      · exact (h5 j hj).2.2
    clear hsl hp hD hR he hrw hnd hof hsz2 i1 i2 w1 w2 hbx hb3 HS B3
    go_wp2_with (go_at_call 32; go_must (refine (voted_any _).mono ?_; rintro e w4 ⟨rfl, hb4⟩; have HB4 := hid hb4; clear hb4))
    have hne : Nonempty (Of (Below w3.heap.size w3)) := ⟨⟨w3, Below.refl _ _⟩⟩
    have F0 : ∀ u : Of (Below w3.heap.size w3), u.val.cell? ⟨w.heap.size, 0, none⟩ = some (.int .i64 (d : Int)) := fun u => (KP.out u.val u.is).1
    have F1 : ∀ u : Of (Below w3.heap.size w3), u.val.cell? ⟨w.heap.size, 1, none⟩ = some (.int .i64 (m : Int)) := fun u => (KP.out u.val u.is).2.1
    have F2 : ∀ u : Of (Below w3.heap.size w3), u.val.cell? ⟨w.heap.size, 2, none⟩ = some (.int .i64 (n : Int)) := fun u => (KP.out u.val u.is).2.2
    have HX := hid hx
    clear hx
    go_wp2_with fail
    have HD5 : Hid (Below w3.heap.size w3 w4.drew) := HB4.out.trans ⟨rfl, rfl, rfl, Nat.le_refl _, fun _ _ => rfl⟩
    refine region_mixed (Below w3.heap.size w3) [([0, 1, 2, 3, 4, 5, 6, 7, 8, 9, 10], 11), ([12], 13)] [14] (by kernel_rfl) (by kernel_rfl) HD5.out ?_
    refine mixO_cons ?_
    repeat (go_big_quiet_step (fail))
    refine wpQuiet_nil ?_
    intro K hK
    go_wp2_with fail
    refine Calls.mono (at_any _ _ (by omega) _) ?_
    rintro e wq ⟨rfl, hwq⟩
    subst wq
    rw [HX.out]
    go_wp2
    refine ⟨rfl, hK _ _ HD5.out ?_⟩
    clear hK K
    refine mixO_cons ?_
    repeat (go_big_quiet_step (fail))
    refine wpQuiet_nil ?_
    intro K hK
    go_wp2_with fail
    refine Calls.mono (HPk.out _ HD5.out _ (d + x) (by omega) (by omega)) ?_
    rintro e w5 ⟨vp, O, Lf, rfl, hown, hpick⟩
    have HOw := hid hown
    have HPi := hid hpick
    have HB5 : Hid (Below w3.heap.size w3 w5) := HD5.out.trans (hown.2.mono HD5.out.size)
    clear hown hpick
    go_wp2
    refine ⟨rfl, hK _ _ HB5.out ?_⟩
    clear hK K
    refine mixO_nil ?_
    repeat (go_big_quiet_step (fail))
    refine wpQuiet_nil ?_
    have hsh5 : ShSl w5 w5.heap.size vp (d + x) (fun j => (O j : Int)) (fun j => V (O j)) (fun _ => R) (fun j r => shv d n D (O j) r) := HOw.out.shl (by omega) (fun j hj => HLs.out w5 HB5.out _ (HPi.out.o j hj))
    have HCl := hid (cloneS hsh5 ⟨by omega, by omega⟩)
    clear hsh5
    go_wp2_with fail
    refine HCl.out.mono ?_
    rintro e w6 ⟨v2, rfl, ho6⟩
    have HRv := hid (reverse_own ho6 (by omega) (fun j hj => HVs.out _ (HPi.out.o j hj)))
    clear ho6 HCl
    go_wp2_with fail
    refine HRv.out.mono ?_
    rintro e w7 ⟨rfl, ho7⟩
    have HO7 := hid ho7
    have HB7 : Hid (Below w3.heap.size w3 w7) := HB5.out.trans (ho7.2.mono HB5.out.size)
    obtain ⟨p0, p1, p2⟩ := KP.out w7 HB7.out
    clear ho7 HRv
    have HM1 := hid (most_own HPl.out HD.out (c := d + x) (by omega) (by omega) HPi.out.o HPi.out.oinj HR.out HSL.out HD5.out (HOw.out.up HO7.out.2))
    go_wp2_with fail
    refine HM1.out.mono ?_
    rintro e w8 ⟨hb8, ma, mb, mca, mcb, rfl, hr8⟩
    have HR8 := hid hr8
    have HB8 : Hid (Below w3.heap.size w3 w8) := HB7.out.trans (hb8.mono HB7.out.size)
    have HO8 := hid (HO7.out.up hb8)
    clear hb8 hr8 HM1 p0 p1 p2
    obtain ⟨p0, p1, p2⟩ := KP.out w8 HB8.out
    have HM2 := hid (most_own HPl.out HD.out (c := d + x) (O := fun j => O (d + x - 1 - j)) (by omega) (by omega) (fun j hj => HPi.out.o _ (by omega)) (fun i j hi hj e => by have := HPi.out.oinj _ _ (by omega) (by omega) e; omega) HR.out HSL.out HB5.out HO8.out)
    go_wp2_with fail
    refine HM2.out.mono ?_
    rintro e w9 ⟨hb9, na, nb, nca, ncb, rfl, hr9⟩
    have HR9 := hid hr9
    have HB9 : Hid (Below w3.heap.size w3 w9) := HB8.out.trans (hb9.mono HB8.out.size)
    have HEq := hid (equal_isl (HR8.out.up hb9) (HI1.out.up HB9.out))
    rw [eqB_yes rfl (fun _ _ => rfl)] at HEq
    clear hb9 hr9 HM2 p0 p1 p2
    go_wp2_with fail
    refine HEq.out.mono ?_
    rintro e wA ⟨rfl, qA, hqA⟩
    have hbA : Below w9.heap.size w9 wA := by rw [hqA]; exact ⟨rfl, rfl, rfl, Nat.le_refl _, fun _ _ => rfl⟩
    have HBA : Hid (Below w3.heap.size w3 wA) := HB9.out.trans (hbA.mono HB9.out.size)
    have HEq2 := hid (equal_isl (HR9.out.up hbA) (HI1.out.up HBA.out))
    rw [eqB_yes rfl (fun _ _ => rfl)] at HEq2
    clear hbA hqA HEq
    go_wp2_with fail
    refine HEq2.out.mono ?_
    rintro e wB ⟨rfl, qB, hqB⟩
    have HBB : Hid (Below w3.heap.size w3 wB) := HBA.out.trans (by rw [hqB]; exact ⟨rfl, rfl, rfl, Nat.le_refl _, fun _ _ => rfl⟩)
    clear hqB HEq2
    go_wp2
    go_ret
    exact ⟨rfl, HB3.out.trans (HBB.out.mono HB3.out.size)⟩
  · have hne : (splitE nd of sz n D != 0) = true := by simpa using he
    generalize splitE nd of sz n D = c at *
    clear hm hsl he
    go_wp2_with (go_at_call 32; go_must (refine (voted_any _).mono ?_; rintro e w4 ⟨rfl, hb4⟩; have HB3 := hid (HB3.out.trans (hb4.mono HB3.out.size)); clear hb4))
    go_ret
    exact ⟨rfl, HB3.out⟩

end Go.Proofs.Ytfcpmpcfbhkacaa
