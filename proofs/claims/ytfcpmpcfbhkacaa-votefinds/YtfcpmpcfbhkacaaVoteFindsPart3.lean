/- Several texts of one proof, in their order. -/
import Derived.Test.YtfcpmpcfbhkacaaVoteFindsPart2

/- The law VoteFinds. -/
namespace Go.Proofs.Ytfcpmpcfbhkacaa

open Go.RowKit CurveMath
set_option linter.unusedVariables false

/-- what number i of share k is bent to -/
def findY (n d R : Nat) (D : Nat → Int) (O : Nat → Nat) (lt : Nat) (To : Nat → Int) (k i : Nat) : Int := if k * R + i < lt then To (k * R + i) % 31 else shv d n D (O k) i
/-- the shares' numbers, those of the first ones bent -/
def findX (n d R b : Nat) (D : Nat → Int) (O : Nat → Nat) (lt : Nat) (To : Nat → Int) (j r : Nat) : Int := if j < b then findY n d R D O lt To j r else shv d n D (O j) r

theorem own_shape {w : World} {base : Nat} {e : TypeId} {v : Value} {n : Nat} {xs : List Value} (h : w.ownsRow base e 1 v n xs) : ∃ a c, v = .slice a n c := by
  obtain ⟨_, h2⟩ := h
  rcases h2 with ⟨h1, h0⟩ | ⟨g, cap, cur, h1, _⟩
  · exact ⟨none, 0, by rw [h0]; exact h1⟩
  · exact ⟨_, _, h1⟩

theorem find_step {n d R c lt : Nat} {D : Nat → Int} {O : Nat → Nat} {To : Nat → Int} (k : Nat) : ∀ j, j < c → ∀ r, r < R → (if j = k then findY n d R D O lt To k else fun r => if j < k then findY n d R D O lt To j r else shv d n D (O j) r) r = if j < k + 1 then findY n d R D O lt To j r else shv d n D (O j) r := by
  intro j _ r _
  by_cases e : j = k
  · subst e; rw [if_pos rfl, if_pos (by omega)]
  · rw [if_neg e]
    by_cases h : j < k
    · rw [if_pos h, if_pos (by omega)]
    · rw [if_neg h, if_neg (by omega)]

theorem pickF_nat {c m : Nat} (h : c ≤ m) {x : Int} (hx : x = (c : Int)) : pickM x m = c := by
  subst hx
  unfold pickM
  split
  · omega
  · omega

set_option maxRecDepth 10000 in
set_option maxHeartbeats 8000000 in
theorem voteFinds_of (nd of sz : Int) (a1 : Option Addr) (n cap1 : Nat) (D : Nat → Int) (a2 : Option Addr) (lo cap2 : Nat) (Od : Nat → Int) (more : Int) (a4 : Option Addr) (lt cap4 : Nat) (To : Nat → Int) (w : World) (w1 : SlArg w a1 n cap1 D) (w2 : SlArg w a2 lo cap2 Od) (w4 : SlArg w a4 lt cap4 To) :
    Calls Try.prog 9 #[planV nd of sz, .slice a1 n cap1, .slice a2 lo cap2, .int .i64 more, .slice a4 lt cap4] w fun e w' => e = .returned (.bool true) ∧ Below w.heap.size w w' := by
  have hbx := below_alloc w (.cells #[.int .i64 nd, .int .i64 of, .int .i64 sz] 23)
  have i1 := w1.isl
  have i2 := w2.isl
  have i4 := w4.isl
  have HS := hid (owes.split nd of sz _ n D _ (i1.up hbx))
  unfold planV
  go_enter Try.func9, Try.ntmps9
  go_wp2_with fail
  refine HS.out.mono ?_
  rintro e w3 ⟨hb3, rl, m, V, rfl, hm, hsl, _, _⟩
  have B3 : Below w.heap.size w w3 := hbx.trans (hb3.mono hbx.size)
  have p0 : w3.cell? ⟨w.heap.size, 0, none⟩ = some (.int .i64 nd) := by rw [hb3.cell (by simp)]; exact cell_at (heap_alloc_new _ _) rfl
  have p1 : w3.cell? ⟨w.heap.size, 1, none⟩ = some (.int .i64 of) := by rw [hb3.cell (by simp)]; exact cell_at (heap_alloc_new _ _) rfl
  have p2 : w3.cell? ⟨w.heap.size, 2, none⟩ = some (.int .i64 sz) := by rw [hb3.cell (by simp)]; exact cell_at (heap_alloc_new _ _) rfl
  have KP : Hid (∀ w', Below w3.heap.size w3 w' → w'.cell? ⟨w.heap.size, 0, none⟩ = some (.int .i64 nd) ∧ w'.cell? ⟨w.heap.size, 1, none⟩ = some (.int .i64 of) ∧ w'.cell? ⟨w.heap.size, 2, none⟩ = some (.int .i64 sz)) := fun w' hb' =>
    ⟨by rw [hb'.cell (cell_lt p0)]; exact p0, by rw [hb'.cell (cell_lt p1)]; exact p1, by rw [hb'.cell (cell_lt p2)]; exact p2⟩
  clear p0 p1 p2
  have HB3 := hid B3
  by_cases he : splitE nd of sz n D = 0
  · rw [if_pos he] at hm
    rw [he]
    obtain ⟨hp, hsz, hD⟩ := splitE_ok he
    obtain ⟨hnd, hof, hsz2⟩ := planOk_spec hp
    have hrw := rowsN_bd hnd hsz2
    obtain ⟨d, rfl⟩ : ∃ d : Nat, nd = d := ⟨nd.toNat, by omega⟩
    subst hsz
    subst hm
    obtain ⟨R, hR⟩ : ∃ R : Nat, rowsN (d : Int) (n : Int) = R := ⟨_, rfl⟩
    rw [hR] at hrw hsl
    rw [Int.toNat_natCast] at hsl
    obtain ⟨x, hx⟩ : ∃ x : Nat, more % ((m : Int) - (d : Int) + 1) = x := ⟨(more % ((m : Int) - (d : Int) + 1)).toNat, by have := Int.emod_nonneg more (show ((m : Int) - (d : Int) + 1) ≠ 0 by omega); omega⟩
    have hxm : x ≤ m - d := by have := Int.emod_lt_of_pos more (show 0 < ((m : Int) - (d : Int) + 1) by omega); omega
    have HSL := hid hsl
    have HPl := hid hp
    have HD := hid hD
    have HR := hid hR
    have HI1 := hid (i1.up B3)
    have HI4 := hid (i4.up B3)
    have hltb : lt * 8 ≤ 140737488351232 := by have := w4.le; have := w4.reach; omega
    have hdd : 1 ≤ d ∧ d ≤ 4 := by omega
    have hdm : d ≤ m ∧ m ≤ 8 := by omega
    have hnn : 1 ≤ n ∧ n ≤ 24 := by omega
    have HPk : Hid (∀ w', Below w3.heap.size w3 w' → ∀ (many : Int) (c : Nat), c ≤ m → many = (c : Int) → Calls Try.prog 28 #[rl, .slice a2 lo cap2, .int .i64 many] w' fun e w'' => PickPost w' m c (fun k => (k : Int)) V e w'') := fun w' hb' many c hc hmn => by
      have h := picked_any (hsl.up hb') (by omega) a2 lo cap2 Od ((i2.up B3).up hb') many
      rw [pickF_nat hc hmn] at h
      exact h
    have HVs : Hid (∀ j, j < m → ∃ a l c, V j = .slice a l c) := by
      obtain ⟨_, _, _, _, h2⟩ := hsl
      rcases h2 with h0 | ⟨_, _, _, _, h5⟩
      · intro j hj; omega
      · exact fun j hj => by obtain ⟨ad, cap, e, _⟩ := (h5 j hj).2.2; exact ⟨_, _, _, e⟩
    have HLs : Hid (∀ w', Below w3.heap.size w3 w' → ∀ j, j < m → IntSl w' w'.heap.size (V j) R (fun r => shv d n D j r)) := fun w' hb' j hj => by
      obtain ⟨_, _, _, _, h2⟩ := HSL.out.up hb'
      rcases h2 with h0 | ⟨_, _, _, _, h5⟩
      · omega
      · exact (h5 j hj).2.2
    clear hsl hp hD hR he hnd hof hsz2 i1 i2 i4 w1 w2 w4 hbx hb3 HS B3
    go_wp2_with (go_at_call 32; go_must (refine (voted_any _).mono ?_; rintro e w4' ⟨rfl, hb4⟩; have HB4 := hid hb4; clear hb4))
    have hne : Nonempty (Of (Below w3.heap.size w3)) := ⟨⟨w3, Below.refl _ _⟩⟩
    have F0 : ∀ u : Of (Below w3.heap.size w3), u.val.cell? ⟨w.heap.size, 0, none⟩ = some (.int .i64 (d : Int)) := fun u => (KP.out u.val u.is).1
    have F1 : ∀ u : Of (Below w3.heap.size w3), u.val.cell? ⟨w.heap.size, 1, none⟩ = some (.int .i64 (m : Int)) := fun u => (KP.out u.val u.is).2.1
    have F2 : ∀ u : Of (Below w3.heap.size w3), u.val.cell? ⟨w.heap.size, 2, none⟩ = some (.int .i64 (n : Int)) := fun u => (KP.out u.val u.is).2.2
    have HX := hid hx
    clear hx
    go_wp2_with fail
    have HD5 : Hid (Below w3.heap.size w3 w4'.drew) := HB4.out.trans ⟨rfl, rfl, rfl, Nat.le_refl _, fun _ _ => rfl⟩
    refine region_mixed (Below w3.heap.size w3) [([0, 1, 2, 3, 4, 5, 6, 7, 8, 9, 10], 11), ([12], 13)] [14] (by kernel_rfl) (by kernel_rfl) HD5.out ?_
    refine mixO_cons ?_
    repeat (go_big_quiet_step (fail))
    refine wpQuiet_nil ?_
    intro K hK
    go_wp2_with fail
    refine Calls.mono (at_any _ _ (by omega) _) ?_
    rintro e wq ⟨rfl, hwq⟩
    subst wq
    rw [HX.out]
    go_wp2
    refine ⟨rfl, hK _ _ HD5.out ?_⟩
    clear hK K
    refine mixO_cons ?_
    repeat (go_big_quiet_step (fail))
    refine wpQuiet_nil ?_
    intro K hK
    go_wp2_with fail
    refine Calls.mono (HPk.out _ HD5.out _ (d + x) (by omega) (by omega)) ?_
    rintro e w5 ⟨vp, O, Lf, rfl, hown, hpick⟩
    have HOw := hid hown
    have HPi := hid hpick
    have HB5 : Hid (Below w3.heap.size w3 w5) := HD5.out.trans (hown.2.mono HD5.out.size)
    clear hown hpick
    go_wp2
    refine ⟨rfl, hK _ _ HB5.out ?_⟩
    clear hK K
    refine mixO_nil ?_
    repeat (go_big_quiet_step (fail))
    refine wpQuiet_nil ?_
    have hRR : 1 ≤ R ∧ R ≤ 24 := by omega
    obtain ⟨g, cap, cur, hvp, hg5, hh5, hcap5, _, _, hcell5⟩ := HOw.out.at (by omega)
    subst hvp
    obtain ⟨b, hbq⟩ : ∃ b : Nat, x / 2 = b := ⟨_, rfl⟩
    have HCell := hid hcell5
    have HH5 := hid hh5
    have hgl : g < w5.heap.size := (Array.getElem?_eq_some_iff.1 hh5).1
    have hg3 : w3.heap.size ≤ g := Nat.le_trans HD5.out.size hg5
    obtain ⟨q0, q1, q2⟩ := KP.out w5 HB5.out
    clear hcell5 hh5 hrw
    obtain ⟨ii, hii, hzz0, hzz1, hzz2⟩ := info_parts Try.infoInt
    go_wp2_with fail
    have hbi : ((d : Int) + (x : Int) - (d : Int)) / 2 = (b : Int) := by omega
    simp only [hbi]
    have hbc : b ≤ d + x := by omega
    have hdb : d + 2 * b ≤ d + x := by omega
    clear hbi q0 q1 q2
    have Hnm : Hid (∀ k i, 0 ≤ findY n d R D O lt To k i ∧ findY n d R D O lt To k i ≤ 30) := fun k i => by
      unfold findY
      split
      · omega
      · exact shv_num _ _ _ _ _
    have J0 : Hid (FInv w3 w5 g (d + x) w5.heap.size R O (fun j => V (O j)) (fun j r => if j < 0 then findY n d R D O lt To j r else shv d n D (O j) r) (.slice none 0 0) (badL d n R 0 (fun j => (O j : Int)) (findX n d R b D O lt To) D)) := by
      refine ⟨HB5.out, hg3, hgl, Nat.le_refl _, fun j hj => (HCell.out j hj).1, fun j hj => (HCell.out j hj).2, fun i => frozen_at HH5.out, fun j hj => ?_, fun j hj e => ?_, fun j hj ad nn cc e h => (by cases h), World.ownsRow_nil _ _ _ _⟩
      · exact HLs.out w5 HB5.out _ (HPi.out.o j hj)
      · obtain ⟨ad, cc, e2, _, h3⟩ := HLs.out w3 (Below.refl _ _) _ (HPi.out.o j hj)
        rw [e2] at e
        rcases h3 with h3 | ⟨b', o', rfl, h4, _⟩
        · omega
        · injection e with e
          have e' : b' = g := e
          omega
    go_loopw [15, 57] (fun vw iv wr => ∃ (k : Nat) (VV : Nat → Value), k ≤ b ∧ iv = .int .i64 k ∧ Hid (FInv w3 wr g (d + x) w5.heap.size R O VV (fun j r => if j < k then findY n d R D O lt To j r else shv d n D (O j) r) vw (badL d n R k (fun j => (O j : Int)) (findX n d R b D O lt To) D))) (fun _ iv _ => b - (intOf iv).toNat)
    case atStart => exact ⟨0, _, Nat.zero_le _, rfl, J0⟩
    case round =>
      obtain ⟨k, VV, hk, rfl, FI⟩ := hrel
      obtain ⟨w0, hw0⟩ : ∃ w0, w0 = wr := ⟨_, rfl⟩
      subst hw0
      by_cases hlt : k < b
      · have hki : (k : Int) < (b : Int) := by omega
        have hkc : k < d + x := by omega
        have hkci : (k : Int) < (d : Int) + (x : Int) := by omega
        have n1 := FI.out.n k hkc
        have v1 := FI.out.v k hkc
        have hl1 := FI.out.l k hkc
        simp only [Nat.lt_irrefl, if_false] at hl1
        have HLk := hid hl1
        obtain ⟨av, cv, hve, _, hlc⟩ := hl1
        rw [hve] at v1 HLk
        rcases hlc with h0 | ⟨bv, ov, rfl, hbv, hlc⟩
        · omega
        have HLc := hid hlc
        have HVe := hid hve
        have lg : g < w0.heap.size := cell_lt n1
        clear hlc hve
        go_wp2
        go_loopw [72] (fun iv wz => ∃ (i : Nat) (vs : Value), i ≤ R ∧ iv = .int .i64 i ∧ Hid (BkInv w0 wz (O k : Int) vs ((List.range i).map (findY n d R D O lt To k)))) (fun iv _ => R - (intOf iv).toNat)
        case atStart => exact ⟨0, _, Nat.zero_le _, rfl, BkInv.new _ _⟩
        case round =>
          obtain ⟨i, vs, hi, rfl, BK⟩ := hrel
          have hkr : k * R ≤ 192 := Nat.mul_le_mul (show k ≤ 8 by omega) (show R ≤ 24 by omega)
          obtain ⟨a0, a1'⟩ := BK.out.cells
          have vk : wr.cell? ⟨g, k * 2 + 1, none⟩ = some (.slice (some ⟨bv, ov, none⟩) R cv) := by rw [BK.out.below.cell (cell_lt v1)]; exact v1
          by_cases hir : i < R
          · have hiri : (i : Int) < (R : Int) := by omega
            have ec : wr.cell? ⟨bv, ov + i, none⟩ = some (.int .i64 (shv d n D (O k) i)) := by rw [BK.out.below.cell hbv]; exact HLc.out i hir
            have nb : 0 ≤ shv d n D (O k) i ∧ shv d n D (O k) i ≤ 30 := shv_num _ _ _ _ _
            obtain ⟨sv, hsv⟩ : ∃ sv, shv d n D (O k) i = sv := ⟨_, rfl⟩
            rw [hsv] at ec nb
            have HSv := hid hsv
            clear hsv
            obtain ⟨q, hq⟩ : ∃ q : Nat, k * R + i = q := ⟨_, rfl⟩
            have hqi : (k : Int) * (R : Int) + (i : Int) = (q : Int) := by rw [← hq]; simp
            have hmb : 0 ≤ (k : Int) * (R : Int) ∧ (k : Int) * (R : Int) ≤ 192 := by
              have h9 : (k : Int) * (R : Int) = ((k * R : Nat) : Int) := by simp
              omega
            have hqb : q ≤ 300 := by omega
            obtain ⟨az, cs, hvs⟩ := own_shape BK.out.own
            have hll : ((List.range i).map (findY n d R D O lt To k)).length = i := by simp
            rw [hll] at hvs
            have HBk := hid BK.out.own
            rw [hll] at HBk
            have HQ := hid hq
            clear hq hll
            have HYv : Hid (∀ y, (if q < lt then To q % 31 else sv) = y → findY n d R D O lt To k i = y) := fun y hy => by
              unfold findY
              rw [HQ.out, HSv.out]
              exact hy
            have hAp : Hid (∀ y, findY n d R D O lt To k i = y → ∀ (v1 : Value) (w6 : World), w6.ownsRow (w0.heap.size + 1) 3 1 v1 (i + 1) (((List.range i).map (findY n d R D O lt To k)).map (Value.int .i64) ++ [.int .i64 y]) → (wr.alloc (.cells #[.int .i64 y] 3)).grownBy w6 vs.ownBlock →
                BkInv w0 (w6.setCell ⟨w0.heap.size, 1, none⟩ v1) (O k : Int) v1 ((List.range (i + 1)).map (findY n d R D O lt To k))) := fun y hy v1 w6 ho hg => by
              have h9 := BK.out.push (y := y) hg (by rw [show ((List.range i).map (findY n d R D O lt To k)).length = i by simp]; exact ho)
              rw [List.range_succ, List.map_append, List.map_cons, List.map_nil, hy]
              exact h9
            subst hvs
            by_cases hn : q < lt
            · have hni : (q : Int) < (lt : Int) := by omega
              obtain ⟨a5, c5, e5, _, h5⟩ := HI4.out
              injection e5 with e6 _ e7
              subst e6 e7
              rcases h5 with h0 | ⟨b4, o4, rfl, hb4, h5⟩
              · omega
              have tc : wr.cell? ⟨b4, o4 + q, none⟩ = some (.int .i64 (To q)) := by rw [(FI.out.below.trans (BK.out.below.mono FI.out.below.size)).cell hb4]; exact h5 q hn
              obtain ⟨tq, htq⟩ : ∃ tq, To q = tq := ⟨_, rfl⟩
              rw [htq] at tc
              obtain ⟨y, hy⟩ : ∃ y, tq % 31 = y := ⟨_, rfl⟩
              have HAp2 := hid (hAp.out y (HYv.out y (by rw [if_pos hn, htq]; exact hy)))
              have HY := hid hy
              clear h5 htq hy
              go_wp2_with (first
                | (go_at_call 27; go_must (refine (at_any _ _ (by omega) _).mono ?_; rintro e wq ⟨rfl, hwq⟩; subst wq; rw [HY.out]))
                | (at_builtin; go_must (refine wpList_append_own _ rfl (.tmp 97) (.tmp 99) 24 rfl (w0.heap.size + 1) 3 ii (.int .i64 0) 1 8 Try.underlying24 hii hzz0 hzz1 hzz2 rfl (by decide) _ _ _ rfl (World.ownsRow.alloc HBk.out _) ⟨_, 0, none⟩ 1 1 [.int .i64 y] rfl rfl (newCell _ _ _) (oneCell _) (by unfold maxLen; omega) (by omega) (by have := BK.out.lt; simp; omega) ?_; intro v1' w6 ho6 hg6 _; obtain ⟨a6, c6, hs6⟩ := own_shape ho6; subst hs6; have B6 := hid (HAp2.out _ _ ho6 hg6); have m1 : w6.cell? ⟨w0.heap.size, 1, none⟩ = some (.slice az i cs) := cell_at (BK.out.mid hg6) rfl; have m2 : w6.frozen? ⟨w0.heap.size, 1, none⟩ = false := frozen_at (BK.out.mid hg6); clear ho6 hg6)))
              go_roundw
              case rel => exact ⟨i + 1, _, by omega, by go_num, B6⟩
              case measure => simp only [intOf]; omega
            · have hni : ¬ (q : Int) < (lt : Int) := by omega
              have HAp2 := hid (hAp.out sv (HYv.out sv (by rw [if_neg hn])))
              go_wp2_with (at_builtin; go_must (refine wpList_append_own _ rfl (.tmp 97) (.tmp 99) 24 rfl (w0.heap.size + 1) 3 ii (.int .i64 0) 1 8 Try.underlying24 hii hzz0 hzz1 hzz2 rfl (by decide) _ _ _ rfl (World.ownsRow.alloc HBk.out _) ⟨_, 0, none⟩ 1 1 [.int .i64 sv] rfl rfl (newCell _ _ _) (oneCell _) (by unfold maxLen; omega) (by omega) (by have := BK.out.lt; simp; omega) ?_; intro v1' w6 ho6 hg6 _; obtain ⟨a6, c6, hs6⟩ := own_shape ho6; subst hs6; have B6 := hid (HAp2.out _ _ ho6 hg6); have m1 : w6.cell? ⟨w0.heap.size, 1, none⟩ = some (.slice az i cs) := cell_at (BK.out.mid hg6) rfl; have m2 : w6.frozen? ⟨w0.heap.size, 1, none⟩ = false := frozen_at (BK.out.mid hg6); clear ho6 hg6))
              go_roundw
              case rel => exact ⟨i + 1, _, by omega, by go_num, B6⟩
              case measure => simp only [intOf]; omega
          · have hie : R = i := by omega
            subst hie
            have hll : ((List.range R).map (findY n d R D O lt To k)).length = R := by simp
            have hgd : ∀ r, r < R → ((List.range R).map (findY n d R D O lt To k)).getD r 0 = findY n d R D O lt To k r := fun r hr => by simp [List.getD_eq_getElem?_getD, hr]
            have his := BK.out.isl (by rw [hll]; omega)
            rw [hll] at his
            have his2 := his.congr hgd
            obtain ⟨az, cs, hvs⟩ := own_shape BK.out.own
            rw [hll] at hvs
            subst hvs
            have hsm : sameB (O k : Int) (O k : Int) R R (findY n d R D O lt To k) (fun r => shv d n D (O k) r) = alB d n R (fun j => (O j : Int)) (findX n d R b D O lt To) D k := by
              unfold sameB eqB alB
              rw [decide_eq_true rfl, Bool.true_and, decide_eq_decide]
              have hX : ∀ r, findX n d R b D O lt To k r = findY n d R D O lt To k r := fun r => by unfold findX; rw [if_pos hlt]
              constructor
              · intro h r hr
                rw [hX r]
                exact h.2 r hr
              · intro h
                refine ⟨rfl, fun r hr => ?_⟩
                rw [← hX r]
                exact h r hr
            have HSm := hid hsm
            have HIs := hid his2
            have n1r : wr.cell? ⟨g, k * 2, none⟩ = some (.int .i64 (O k)) := by rw [BK.out.below.cell (cell_lt n1)]; exact n1
            have hlen := badL_len d n R k (fun j => (O j : Int)) (findX n d R b D O lt To) D
            have hne : Nonempty (Of (Below wr.heap.size wr)) := ⟨⟨wr, Below.refl _ _⟩⟩
            have F3 : ∀ u : Of (Below wr.heap.size wr), u.val.cell? ⟨w0.heap.size, 0, none⟩ = some (.int .i64 (O k)) := fun u => by rw [u.is.cell (cell_lt a0)]; exact a0
            have F4 : ∀ u : Of (Below wr.heap.size wr), u.val.cell? ⟨w0.heap.size, 1, none⟩ = some (.slice az R cs) := fun u => by rw [u.is.cell (cell_lt a1')]; exact a1'
            have F5 : ∀ u : Of (Below wr.heap.size wr), u.val.cell? ⟨g, k * 2, none⟩ = some (.int .i64 (O k)) := fun u => by rw [u.is.cell (cell_lt n1r)]; exact n1r
            have F6 : ∀ u : Of (Below wr.heap.size wr), u.val.cell? ⟨g, k * 2 + 1, none⟩ = some (.slice (some ⟨bv, ov, none⟩) R cv) := fun u => by rw [u.is.cell (cell_lt vk)]; exact vk
            have HDr : Hid (Below wr.heap.size wr wr.drew) := ⟨rfl, rfl, rfl, Nat.le_refl _, fun _ _ => rfl⟩
            clear hsm his his2 hgd hll n1r
            go_wp2_with fail
            refine region_mixed (Below wr.heap.size wr) [([0, 1, 2, 3, 4], 5)] [6] (by kernel_rfl) (by kernel_rfl) HDr.out ?_
            refine mixO_cons ?_
            repeat (go_big_quiet_step (fail))
            refine wpQuiet_nil ?_
            intro K hK
            go_wp2_with fail
            refine Calls.mono (owes.same (O k : Int) (O k : Int) _ _ R R _ _ wr.drew (HIs.out.up HDr.out) ((HLk.out.up BK.out.below).up HDr.out)) ?_
            rintro e w8 ⟨rfl, hb8⟩
            have HB8 := hid (HDr.out.trans (hb8.mono HDr.out.size))
            have FI8 := hid (FI.out.up (BK.out.below.trans (HB8.out.mono BK.out.below.size)))
            have BK8 := hid (BK.out.up HB8.out)
            have HI8 := hid (HIs.out.up HB8.out)
            rw [HSm.out]
            clear hb8
            have hoff : ∀ bq, (Value.slice az R cs).ownBlock = some bq → w0.heap.size + 1 ≤ bq := fun bq e => (BK.out.own.lt bq e).1
            have HOff := hid hoff
            have hoffw : Off u15 (.slice az R cs) := fun ad nn cc e h => by
              injection e with e1
              subst e1
              have h1 := hoff ad.block rfl
              have h2 := (FI.out.w.lt ad.block h.symm).2
              omega
            have hoffg : OffB g (.slice az R cs) := fun e => by have := hoff g e; omega
            have HOw2 := hid hoffw
            have HOg := hid hoffg
            clear hoff hoffw hoffg
            cases hal : alB d n R (fun j => (O j : Int)) (findX n d R b D O lt To) D k with
            | true =>
              have FI9 := hid (FI8.out.put hkc HI8.out HOg.out HOw2.out)
              have b0 := BK8.out.cells.1
              have b1 := BK8.out.cells.2
              have n8 := FI8.out.n k hkc
              have v8 := FI8.out.v k hkc
              rw [HVe.out] at v8
              have f8a := FI8.out.f (k * 2)
              have f8b := FI8.out.f (k * 2 + 1)
              go_wp2
              refine ⟨rfl, hK _ _ HB8.out ?_⟩
              clear hK K
              refine mixO_nil ?_
              repeat (go_big_quiet_step (fail))
              refine wpQuiet_nil ?_
              clear F3 F4 F5 F6 hne
              go_wp2
              go_roundw
              case rel =>
                refine ⟨k + 1, fun j => if j = k then .slice az R cs else VV j, by omega, by go_num, ?_⟩
                rw [badL_succ, if_pos hal, List.append_nil]
                exact FI9.out.congr (find_step k)
              case measure => simp only [intOf]; omega
            | false =>
              go_wp2
              refine ⟨rfl, hK _ _ HB8.out ?_⟩
              clear hK K
              refine mixO_nil ?_
              repeat (go_big_quiet_step (fail))
              refine wpQuiet_nil ?_
              clear F3 F4 F5 F6 hne
              have b0 := BK8.out.cells.1
              have b1 := BK8.out.cells.2
              have HGr : Hid (∀ (v9 : Value) (w9 : World), w9.ownsRow w5.heap.size 3 1 v9 ((badL d n R k (fun j => (O j : Int)) (findX n d R b D O lt To) D).length + 1) ((badL d n R k (fun j => (O j : Int)) (findX n d R b D O lt To) D).map (Value.int .i64) ++ [.int .i64 (O k)]) → (w8.alloc (.cells #[.int .i64 (O k)] 3)).grownBy w9 u15.ownBlock → (v9.ownBlock = u15.ownBlock ∨ v9.ownBlock = some (w8.alloc (.cells #[.int .i64 (O k)] 3)).heap.size) →
                  FInv w3 w9 g (d + x) w5.heap.size R O VV (fun j r => if j < k then findY n d R D O lt To j r else shv d n D (O j) r) v9 (badL d n R k (fun j => (O j : Int)) (findX n d R b D O lt To) D ++ [(O k : Int)]) ∧ w9.cell? ⟨w0.heap.size, 0, none⟩ = some (.int .i64 (O k)) ∧ w9.cell? ⟨w0.heap.size, 1, none⟩ = some (.slice az R cs) ∧ IntSl w9 w9.heap.size (.slice az R cs) R (findY n d R D O lt To k) ∧ Off v9 (.slice az R cs)) := fun v9 w9 ho hg hat => by
                have hbA := below_alloc w8 (.cells #[.int .i64 (O k)] 3)
                have hne0 : some w0.heap.size ≠ u15.ownBlock := fun e => by have := (FI.out.w.lt _ e.symm).2; omega
                obtain ⟨i1, i2⟩ := off_step hRR.1 HI8.out HOw2.out hg hat
                exact ⟨(FI8.out.up hbA).grow hRR.1 hg (by rw [List.length_append, List.map_append]; exact ho) hat, hg.cell (by rw [hbA.cell (cell_lt b0)]; exact b0) hne0, hg.cell (by rw [hbA.cell (cell_lt b1)]; exact b1) hne0, i1, i2⟩
              go_wp2_with (at_builtin; go_must (refine wpList_append_own_at _ rfl (.tmp 110) (.tmp 113) 24 rfl w5.heap.size 3 ii (.int .i64 0) 1 8 Try.underlying24 hii hzz0 hzz1 hzz2 rfl (by decide) _ _ _ rfl (World.ownsRow.alloc FI8.out.w _) ⟨_, 0, none⟩ 1 1 [.int .i64 (O k)] rfl rfl (newCell _ _ _) (oneCell _) (by unfold maxLen; omega) (by omega) (by have := FI8.out.bs; simp; omega) ?_; intro v9 w9 ho9 hg9 _ hat9; obtain ⟨fi9, d0, d1, is9, of9⟩ := HGr.out v9 w9 ho9 hg9 hat9; have FI9 := hid (fi9.put hkc is9 HOg.out of9); have n9 := fi9.n k hkc; have v9c := fi9.v k hkc; rw [HVe.out] at v9c; have f9a := fi9.f (k * 2); have f9b := fi9.f (k * 2 + 1); clear ho9 hg9 hat9 fi9 is9 of9))
              go_roundw
              case rel =>
                refine ⟨k + 1, fun j => if j = k then .slice az R cs else VV j, by omega, by go_num, ?_⟩
                rw [badL_succ, if_neg (by rw [hal]; decide)]
                exact FI9.out.congr (find_step k)
              case measure => simp only [intOf]; omega
      · have hkb : b = k := by omega
        subst hkb
        have hfi : ∀ j, j < d + x → ∀ r, r < R → (if j < b then findY n d R D O lt To j r else shv d n D (O j) r) = findX n d R b D O lt To j r := fun j _ r _ => rfl
        obtain ⟨aw, cw, hvw⟩ := own_shape FI.out.w
        subst hvw
        have FIe := hid (FI.out.congr hfi)
        have hlen := badL_len d n R b (fun j => (O j : Int)) (findX n d R b D O lt To) D
        have HSo := hid (sort_row FI.out.w (by omega))
        obtain ⟨f1, f2, f3⟩ := finds (X := findX n d R b D O lt To) HPl.out HR.out HD.out hdb HPi.out.le HPi.out.o HPi.out.oinj (fun j _ r _ => by unfold findX; split; exact Hnm.out _ _; exact shv_num _ _ _ _ _) (fun j hj _ r _ => by unfold findX; rw [if_neg (by omega)])
        have G1 := hid f1
        have G2 := hid f2
        have G3 := hid f3
        clear hfi f1 f2 f3
        go_wp2_with fail
        refine HSo.out.mono ?_
        rintro e w6 ⟨rfl, ho6, hg6⟩
        have F6 := hid (FIe.out.grow hRR.1 hg6 ho6 (Or.inl rfl))
        clear ho6 hg6
        obtain ⟨q0, q1, q2⟩ := KP.out w6 F6.out.below
        have HM := hid (most_any (d : Int) (m : Int) (n : Int) _ (d + x) _ _ _ _ w6 (F6.out.shl hcap5 (by omega)))
        go_wp2_with fail
        refine HM.out.mono ?_
        rintro e w7 ⟨hb7, r, bb, mm, rfl, hmm, hr, hbb⟩
        rw [G1.out] at hmm ⊢
        rw [G3.out, srt_len] at hbb
        rw [if_pos rfl] at hmm
        have hmn : n = mm := by omega
        subst hmn
        have hr2 := hr.congr G2.out
        have hB7 : Below w3.heap.size w3 w7 := F6.out.below.trans (hb7.mono F6.out.below.size)
        have hw6 := own_isl F6.out.w (by rw [srt_len]; omega)
        rw [srt_len] at hw6
        have HEq := hid (equal_isl hr2 (HI1.out.up hB7))
        rw [eqB_yes rfl (fun _ _ => rfl)] at HEq
        have HB7 := hid hB7
        have HBb := hid hbb
        have HW7 := hid (hw6.up hb7)
        obtain ⟨ar, cr, hre, _, _⟩ := hr
        subst hre
        obtain ⟨ab, cb, hbe, _, _⟩ := hbb
        subst hbe
        obtain ⟨lb, hlb⟩ : ∃ lb, (badL d n R b (fun j => (O j : Int)) (findX n d R b D O lt To) D).length = lb := ⟨_, rfl⟩
        rw [hlb] at HBb HW7
        simp only [hlb]
        clear hb7 hr2 hmm hB7 hw6 q0 q1 q2 hlen hlb HM HSo
        go_wp2_with fail
        refine HEq.out.mono ?_
        rintro e w8 ⟨rfl, q8, hq8⟩
        have hb8 : Below w7.heap.size w7 w8 := by rw [hq8]; exact ⟨rfl, rfl, rfl, Nat.le_refl _, fun _ _ => rfl⟩
        have HB8 := hid (HB7.out.trans (hb8.mono HB7.out.size))
        have HEq2 := hid (equal_isl (HBb.out.up hb8) (HW7.out.up hb8))
        rw [eqB_yes rfl (fun _ _ => rfl)] at HEq2
        clear hq8 hb8 HEq
        go_wp2_with fail
        refine HEq2.out.mono ?_
        rintro e w9 ⟨rfl, q9, hq9⟩
        have HB9 : Hid (Below w3.heap.size w3 w9) := HB8.out.trans (by rw [hq9]; exact ⟨rfl, rfl, rfl, Nat.le_refl _, fun _ _ => rfl⟩)
        clear hq9 HEq2
        go_wp2
        go_ret
        exact ⟨rfl, HB3.out.trans (HB9.out.mono HB3.out.size)⟩
  · have hne : (splitE nd of sz n D != 0) = true := by simpa using he
    generalize splitE nd of sz n D = c at *
    clear hm hsl he
    go_wp2_with (go_at_call 32; go_must (refine (voted_any _).mono ?_; rintro e w4' ⟨rfl, hb4⟩; have HB3 := hid (HB3.out.trans (hb4.mono HB3.out.size)); clear hb4))
    go_ret
    exact ⟨rfl, HB3.out⟩

end Go.Proofs.Ytfcpmpcfbhkacaa
