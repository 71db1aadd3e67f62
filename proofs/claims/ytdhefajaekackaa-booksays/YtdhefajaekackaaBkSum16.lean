/- Several texts of one proof, in their order. -/
import Derived.Test.YtdhefajaekackaaBkSum15

/- What package book's Heads and Behind answer. -/
namespace Go.Proofs.Ytdhefajaekackaa

open Go.RowKit Go.Maps
set_option linter.unusedVariables false

theorem CntM.mono {w : World} {g m m' : Nat} {c : Int → Int} (h : CntM w g m c) (hm : m ≤ m') : CntM w g m' c := by
  obtain ⟨D, h1, h2⟩ := h
  exact ⟨D, h1.mono hm, h2⟩

theorem hinv_step {b : Bk} {k : Nat} {c c' : Int → Int} (h : HInvP b k c) (hl : b.PL k ≤ 12) (hc : Cnted c c' (b.PX k) (k * 12) (b.PL k)) : HInvP b (k + 1) c' := by
  refine ⟨fun x => by have := hc.1 x; omega, fun x => ?_⟩
  rw [hc.2 x, h.2 x]
  constructor
  · rintro ⟨h1, h2⟩ j hj i hi
    by_cases e : j = k
    · subst e; exact h2 i hi
    · exact h1 j (by omega) i hi
  · intro h1
    exact ⟨fun j hj i hi => h1 j (by omega) i hi, fun i hi => h1 k (by omega) i hi⟩

/-- the map, the variable that holds it, and the book -/
structure MpInv (w wr : World) (ad : Option Addr) (n cap : Nat) (bx g m : Nat) (c : Int → Int) : Prop where
  below : Below w.heap.size w wr
  book : wr.cell? ⟨w.heap.size, 0, none⟩ = some (.slice ad n cap)
  var : wr.cell? ⟨bx, 0, none⟩ = some (.map (some g))
  map : CntM wr g m c
  og : w.heap.size < g

section

variable {w wr w' : World} {ad : Option Addr} {n cap bx g m : Nat} {c : Int → Int}

theorem MpInv.up (h : MpInv w wr ad n cap bx g m c) (hb : Below wr.heap.size wr w') : MpInv w w' ad n cap bx g m c :=
  ⟨h.below.trans (hb.mono h.below.size), by rw [hb.cell (cell_lt h.book)]; exact h.book, by rw [hb.cell (cell_lt h.var)]; exact h.var, h.map.up hb, h.og⟩

theorem MpInv.grown (h : MpInv w wr ad n cap bx g m c) (hg : wr.grownBy w' (some g)) {m' : Nat} {c' : Int → Int} (hc : CntM w' g m' c') : MpInv w w' ad n cap bx g m' c' :=
  ⟨h.below.grown hg h.below.size (fun k hk => by cases hk; exact Nat.le_of_lt h.og), hg.cell h.book (by intro e; injection e with e; exact h.map.ne h.book e), hg.cell h.var (by intro e; injection e with e; exact h.map.ne h.var e), hc, h.og⟩

end

set_option maxHeartbeats 2000000 in
theorem bkHeads (v : Value) (n : Nat) (PV : Nat → Value) (b : Bk) (w : World) (h : VeSl w w.heap.size v n PV b) :
    Calls Try.prog 13 #[bookV v] w (LiPost w (if bookE n b = 0 then headsL b n n else []) (bookE n b)) := by
  have HV := hid h
  obtain ⟨ad, cap, rfl, ⟨hcap, hbig⟩, hx⟩ := h
  have hbx := below_alloc w (.cells #[.slice ad n cap] 24)
  have HCk := hid (bkCheck _ n PV b _ (HV.out.up hbx))
  have c0 : (w.alloc (.cells #[.slice ad n cap] 24)).cell? ⟨w.heap.size, 0, none⟩ = some (.slice ad n cap) := cell_at (heap_alloc_new _ _) rfl
  have HC0 := hid c0
  have HBx := hid hbx
  have HX := hid hx
  obtain ⟨c, hcc⟩ : ∃ c, bookE n b = c := ⟨_, rfl⟩
  rw [hcc] at HCk ⊢
  obtain ⟨l, hl⟩ : ∃ l, (if c = 0 then headsL b n n else []) = l := ⟨_, rfl⟩
  rw [hl]
  have HL := hid hl
  clear hbx hx c0 hl
  unfold bookV at HCk
  unfold bookV
  go_enter Try.func13, Try.ntmps13
  go_wp2_with fail
  refine Calls.mono HCk.out ?_
  rintro e W ⟨rfl, hbW⟩
  have HWW := hid (HBx.out.trans (hbW.mono HBx.out.size))
  have d0 : W.cell? ⟨w.heap.size, 0, none⟩ = some (.slice ad n cap) := by rw [hbW.cell (cell_lt HC0.out)]; exact HC0.out
  clear hbW
  by_cases hc0 : c = 0
  · subst hc0
    have HR := hid (right_of hcc)
    have hn12 : n ≤ 12 := (right_of hcc).le
    obtain rfl : headsL b n n = l := HL.out
    clear hcc
    have hmm := @run_makeMap Try.prog
    have hlt : w.heap.size < W.heap.size := cell_lt d0
    have J0 : Hid (MpInv w ((W.alloc (.map #[] 0)).alloc (.cells #[.map (some W.heap.size)] 81)) ad n cap (W.heap.size + 1) W.heap.size 0 (fun _ => 0)) := by
      have hb1 := (Below.refl W.heap.size W).alloc (Nat.le_refl _) (.map #[] 0)
      have hb2 := hb1.alloc (by simp) (.cells #[.map (some W.heap.size)] 81)
      refine ⟨HWW.out.trans (hb2.mono HWW.out.size), by rw [hb2.cell hlt]; exact d0, ?_, (cntM_made W).up (below_alloc _ _), hlt⟩
      have := heap_two_new W (.map #[] 0) (.cells #[.map (some W.heap.size)] 81)
      exact cell_at this rfl
    have HI0 : Hid (HInvP b 0 (fun _ => 0)) := ⟨fun x => by simp, fun x => ⟨fun _ j hj => by omega, fun _ => rfl⟩⟩
    go_wp2
    generalize W.heap.size = g at *
    clear d0 hmm hlt
    go_loopw [17] (fun iv wr => ∃ (k : Nat) (ck : Int → Int), k ≤ n ∧ iv = .int .i64 k ∧ Hid (MpInv w wr ad n cap (g + 1) g (k * 12) ck) ∧ Hid (HInvP b k ck)) (fun iv _ => n - (intOf iv).toNat)
    case atStart => exact ⟨0, _, Nat.zero_le _, rfl, J0, HI0⟩
    case round =>
      obtain ⟨k, ck, hk, rfl, J, HI⟩ := hrel
      by_cases hlt : k < n
      · have hki : (k : Int) < (n : Int) := by omega
        rcases HX.out with h0 | ⟨bl, off, rfl, hbl, hx⟩
        · omega
        obtain ⟨x0, x1, x2, x3, x4⟩ := hx k hlt
        have HIs : Hid (∀ w', Below w.heap.size w w' → IntSl w' w'.heap.size (PV k) (b.PL k) (b.PX k)) := fun w' hb => x4.up hb
        obtain ⟨ap, cp, hpe, _, _⟩ := x4
        rw [hpe] at x0 HIs
        have g0 : wr.cell? ⟨bl, off + k * 4, none⟩ = some (.slice ap (b.PL k) cp) := by rw [J.out.below.cell hbl]; exact x0
        have g1 : wr.cell? ⟨bl, off + k * 4 + 1, none⟩ = some (.int .i64 (b.nd k)) := by rw [J.out.below.cell hbl]; exact x1
        have g2 : wr.cell? ⟨bl, off + k * 4 + 2, none⟩ = some (.int .i64 (b.of k)) := by rw [J.out.below.cell hbl]; exact x2
        have g3 : wr.cell? ⟨bl, off + k * 4 + 3, none⟩ = some (.int .i64 (b.sz k)) := by rw [J.out.below.cell hbl]; exact x3
        have v0 := J.out.var
        have lv := cell_lt v0
        have hfew := HR.out.few hlt
        have hbA := below_alloc wr (.cells #[.slice ap (b.PL k) cp, .int .i64 (b.nd k), .int .i64 (b.of k), .int .i64 (b.sz k)] 29)
        have JA := hid (J.out.up hbA)
        have HCt := hid (bkCount g (k * 12) ck _ (b.PL k) (b.PX k) (k * 12) _ JA.out.map HI.out.1 (by omega) (HIs.out _ JA.out.below) (fun i hi => by have := HR.out.elder k hlt i hi; omega))
        clear x0 x1 x2 x3 hx hpe hbA
        go_wp2_with fail
        refine Calls.mono HCt.out ?_
        rintro e w2 ⟨rfl, hg2, c2, hc2, hn2⟩
        have J2 := hid (JA.out.grown hg2 (hc2.mono (show k * 12 + b.PL k ≤ (k + 1) * 12 by omega)))
        have HI2 := hid (hinv_step HI.out (by omega) hn2)
        clear hg2 hc2 hn2
        go_wp2
        go_roundw
        case rel => exact ⟨k + 1, c2, by omega, by go_num, J2, HI2⟩
        case measure => simp only [intOf]; omega
      · have hke : n = k := by omega
        subst hke
        have b0 := J.out.book
        have HT := hid (bkThoseH (g + 1) g (n * 12) ck _ n (by omega) wr ⟨ad, cap, rfl⟩ J.out.var J.out.map)
        rw [heads_of HI.out] at HT
        unfold bookV at HT
        go_wp2_with fail
        refine Calls.mono HT.out ?_
        rintro e w2 ⟨hb2, vo, rfl, ho⟩
        have hl := headsL_len b n n
        have HFin := hid (J.out.below.trans (hb2.mono J.out.below.size))
        have HIs := hid (ho.isl (by omega))
        clear hb2 ho
        go_wp2
        go_ret2
        exact ⟨HFin.out, _, rfl, HIs.out⟩
  · have hcb : (c != 0) = true := by simpa using hc0
    obtain rfl : [] = l := by rw [← HL.out, if_neg hc0]
    clear hc0 hcc
    go_wp2
    go_ret2
    exact liPost_nil HWW.out

/-- the map with one number in it -/
theorem cntM_one {w w' : World} {k : Int} (ho : w'.ownsMap Try.prog 3 (plainElem Try.prog 3) w.heap.size 1 ((DataW.map [] : DataW Empty).put (.int .i64 k) (.lit (.int .i64 1)))) : CntM w' w.heap.size 1 (fun x => if x = k then 1 else 0) :=
  cntM_put (w := w.alloc (.map #[] 0)) (c := fun _ => 0) (World.ownsMap_made _ _ _ _) (fun x => rfl) ho

set_option maxHeartbeats 2000000 in
theorem bkBehind (v : Value) (n : Nat) (PV : Nat → Value) (b : Bk) (k : Int) (w : World) (h : VeSl w w.heap.size v n PV b) :
    Calls Try.prog 14 #[bookV v, .int .i64 k] w (LiPost w (if behE n b k = 0 then bhL b k.toNat else []) (behE n b k)) := by
  have HV := hid h
  obtain ⟨ad, cap, rfl, ⟨hcap, hbig⟩, hx⟩ := h
  have hbx := below_alloc w (.cells #[.slice ad n cap] 24)
  have HCk := hid (bkCheck _ n PV b _ (HV.out.up hbx))
  have c0 : (w.alloc (.cells #[.slice ad n cap] 24)).cell? ⟨w.heap.size, 0, none⟩ = some (.slice ad n cap) := cell_at (heap_alloc_new _ _) rfl
  have HC0 := hid c0
  have HBx := hid hbx
  have HX := hid hx
  obtain ⟨er, hee⟩ : ∃ er, behE n b k = er := ⟨_, rfl⟩
  rw [hee]
  unfold behE at hee
  obtain ⟨c, hcc⟩ : ∃ c, bookE n b = c := ⟨_, rfl⟩
  rw [hcc] at HCk hee
  obtain ⟨l, hl⟩ : ∃ l, (if er = 0 then bhL b k.toNat else []) = l := ⟨_, rfl⟩
  rw [hl]
  have HL := hid hl
  have HEe := hid hee
  clear hbx hx c0 hl hee
  unfold bookV at HCk
  unfold bookV
  go_enter Try.func14, Try.ntmps14
  go_wp2_with fail
  refine Calls.mono HCk.out ?_
  rintro e W ⟨rfl, hbW⟩
  have HWW := hid (HBx.out.trans (hbW.mono HBx.out.size))
  have d0 : W.cell? ⟨w.heap.size, 0, none⟩ = some (.slice ad n cap) := by rw [hbW.cell (cell_lt HC0.out)]; exact HC0.out
  clear hbW
  by_cases hc0 : c = 0
  · subst hc0
    have HR := hid (right_of hcc)
    have hn12 : n ≤ 12 := (right_of hcc).le
    clear hcc
    have he1 := HEe.out
    rw [if_pos rfl] at he1
    by_cases hk0 : k < 0
    · obtain rfl : (4 : Int) = er := by rw [← he1, if_neg (by omega)]
      obtain rfl : [] = l := by rw [← HL.out, if_neg (by decide)]
      clear he1 HEe
      go_wp2
      go_ret2
      exact liPost_nil HWW.out
    by_cases hkn : (n : Int) ≤ k
    · obtain rfl : (4 : Int) = er := by rw [← he1, if_neg (by omega)]
      obtain rfl : [] = l := by rw [← HL.out, if_neg (by decide)]
      clear he1 HEe
      go_wp2
      go_ret2
      exact liPost_nil HWW.out
    obtain rfl : (0 : Int) = er := by rw [← he1, if_pos (by omega)]
    obtain rfl : bhL b k.toNat = l := by rw [← HL.out, if_pos rfl]
    obtain ⟨q, rfl⟩ : ∃ q : Nat, k = q := ⟨k.toNat, by omega⟩
    rw [Int.toNat_natCast] at *
    have hqn : q < n := by omega
    have hnq : decide (n ≤ q) = false := decide_eq_false (by omega)
    have hnq2 : decide ((n : Int) ≤ (q : Int)) = false := decide_eq_false (by omega)
    have hq0 : decide ((q : Int) < 0) = false := decide_eq_false (by omega)
    clear he1 HEe HL hk0 hkn
    have hmm := @run_makeMap Try.prog
    have hlt : w.heap.size < W.heap.size := cell_lt d0
    obtain ⟨W1, hrun, hown, hgrow⟩ := (World.ownsMap_made (H := Empty) W Try.prog 3 (plainElem Try.prog 3)).update (t := 81) (e := 3) keyedInt Try.underlying81 (by unfold maxLen; omega) (keyInt (x := (q : Int)) (by omega)) (plainElem_int Try.underlying3 (a := 1) (WalkArith.wf_i64 (by omega)))
    have hb1 : Below W.heap.size W W1 := (below_alloc W _).grown hgrow (by simp) (fun k hk => by cases hk; exact Nat.le_refl _)
    have HB1 := hid hb1
    have J0 : Hid (MpInv w (W1.alloc (.cells #[.map (some W.heap.size)] 81)) ad n cap W1.heap.size W.heap.size (1 + (q + 1 - (q + 1)) * 12) (fun x => if x = (q : Int) then 1 else 0)) := by
      have hb2 := hb1.alloc hb1.size (.cells #[.map (some W.heap.size)] 81)
      refine ⟨HWW.out.trans (hb2.mono HWW.out.size), by rw [hb2.cell hlt]; exact d0, cell_at (heap_alloc_new _ _) rfl, ((cntM_one hown).up (below_alloc _ _)).mono (by omega), hlt⟩
    have HI0 := hid (binv_start b q)
    clear hown hgrow hb1
    go_wp2
    generalize W.heap.size = g at *
    generalize W1.heap.size = bx at *
    clear d0 hmm hlt hrun HB1 hnq hnq2 hq0
    go_loopw [8] (fun iv wr => ∃ (j : Nat) (ck : Int → Int), j ≤ q + 1 ∧ iv = .int .i64 ((j : Int) - 1) ∧ Hid (MpInv w wr ad n cap bx g (1 + (q + 1 - j) * 12) ck) ∧ Hid (BInvP b q j ck)) (fun iv _ => (intOf iv + 1).toNat)
    case atStart => exact ⟨q + 1, _, Nat.le_refl _, by simp, J0, HI0⟩
    case round =>
      obtain ⟨j, ck, hj, rfl, J, HI⟩ := hrel
      have v0 := J.out.var
      have b0 := J.out.book
      by_cases hj0 : j = 0
      · subst hj0
        have HT := hid (bkThoseB bx g _ ck _ n (by omega) wr ⟨ad, cap, rfl⟩ J.out.var J.out.map)
        rw [behind_of HR.out.elder hqn HI.out] at HT
        unfold bookV at HT
        go_wp2_with fail
        refine Calls.mono HT.out ?_
        rintro e w2 ⟨hb2, vo, rfl, ho⟩
        have hl : (bhL b q).length ≤ q + 1 := behL_len b (q + 1) q (q + 1)
        have HFin := hid (J.out.below.trans (hb2.mono J.out.below.size))
        have HIs := hid (ho.isl (by omega))
        clear hb2 ho
        go_wp2
        go_ret2
        exact ⟨HFin.out, _, rfl, HIs.out⟩
      · obtain ⟨y, rfl⟩ : ∃ y, j = y + 1 := ⟨j - 1, by omega⟩
        have hy : ((y + 1 : Nat) : Int) - 1 = (y : Int) := by omega
        rw [hy]
        have hyn : y < n := by omega
        have hyi : (y : Int) < (n : Int) := by omega
        obtain ⟨D, hD, hat⟩ := J.out.map
        have HD := hid hD
        have HAt := hid hat
        have HK := hid (keyInt (x := (y : Int)) (by omega))
        obtain ⟨cx, hcx⟩ : ∃ cx, ck (y : Int) = cx := ⟨_, rfl⟩
        have hbd := HI.out.1 (y : Int)
        rw [hcx] at hbd
        have HCx := hid hcx
        clear hD hat hcx hy hj0
        by_cases hz : cx = 0
        · have HI2 := hid (binv_skip HR.out.elder hqn (by omega) HI.out (by rw [HCx.out]; exact hz))
          have hz2 : ¬ 0 < cx := by omega
          clear hz
          go_wp2_with (at_lookup; refine wpList_lookup_own_int _ rfl _ _ 81 rfl 3 3 .i64 keyedInt Try.underlying81 Try.underlying3 (zeroInt _) g _ _ rfl HD.out _ _ rfl HK.out ?_; intro c0 hat0 hwc; obtain rfl : c0 = cx := (cnt_val HAt.out hat0).trans HCx.out; clear hat0 hwc)
          go_roundw
          case rel => exact ⟨y, ck, by omega, rfl, ⟨J.out.below, J.out.book, J.out.var, J.out.map.mono (show 1 + (q + 1 - (y + 1)) * 12 ≤ 1 + (q + 1 - y) * 12 by omega), J.out.og⟩, HI2⟩
          case measure => simp only [intOf]; omega
        · have hz2 : 0 < cx := by omega
          rcases HX.out with h0 | ⟨bl, off, rfl, hbl, hx⟩
          · omega
          obtain ⟨x0, _, _, _, x4⟩ := hx y hyn
          have HIs := hid (x4.up J.out.below)
          obtain ⟨ap, cp, hpe, _, _⟩ := x4
          rw [hpe] at x0 HIs
          have g0 : wr.cell? ⟨bl, off + y * 4, none⟩ = some (.slice ap (b.PL y) cp) := by rw [J.out.below.cell hbl]; exact x0
          have hfew := HR.out.few hyn
          have HNz : Hid (ck (y : Int) ≠ 0) := by show ¬ _; rw [HCx.out]; exact hz
          have hne : Nonempty (Of (fun u : World => u.cell? ⟨bx, 0, none⟩ = some (.map (some g)) ∧ u.cell? ⟨w.heap.size, 0, none⟩ = some (.slice (some ⟨bl, off, none⟩) n cap) ∧ u.cell? ⟨bl, off + y * 4, none⟩ = some (.slice ap (b.PL y) cp))) := ⟨⟨wr, v0, b0, g0⟩⟩
          have F0 : ∀ u : Of (fun u : World => u.cell? ⟨bx, 0, none⟩ = some (.map (some g)) ∧ u.cell? ⟨w.heap.size, 0, none⟩ = some (.slice (some ⟨bl, off, none⟩) n cap) ∧ u.cell? ⟨bl, off + y * 4, none⟩ = some (.slice ap (b.PL y) cp)), u.val.cell? ⟨bx, 0, none⟩ = some (.map (some g)) := fun u => u.is.1
          have F1 : ∀ u : Of (fun u : World => u.cell? ⟨bx, 0, none⟩ = some (.map (some g)) ∧ u.cell? ⟨w.heap.size, 0, none⟩ = some (.slice (some ⟨bl, off, none⟩) n cap) ∧ u.cell? ⟨bl, off + y * 4, none⟩ = some (.slice ap (b.PL y) cp)), u.val.cell? ⟨w.heap.size, 0, none⟩ = some (.slice (some ⟨bl, off, none⟩) n cap) := fun u => u.is.2.1
          have F2 : ∀ u : Of (fun u : World => u.cell? ⟨bx, 0, none⟩ = some (.map (some g)) ∧ u.cell? ⟨w.heap.size, 0, none⟩ = some (.slice (some ⟨bl, off, none⟩) n cap) ∧ u.cell? ⟨bl, off + y * 4, none⟩ = some (.slice ap (b.PL y) cp)), u.val.cell? ⟨bl, off + y * 4, none⟩ = some (.slice ap (b.PL y) cp) := fun u => u.is.2.2
          have HDD : Hid ((fun u : World => u.cell? ⟨bx, 0, none⟩ = some (.map (some g)) ∧ u.cell? ⟨w.heap.size, 0, none⟩ = some (.slice (some ⟨bl, off, none⟩) n cap) ∧ u.cell? ⟨bl, off + y * 4, none⟩ = some (.slice ap (b.PL y) cp)) wr.drew) := ⟨v0, b0, g0⟩
          have HGn : Hid (bl ≠ g) := J.out.map.ne g0
          have HD1 : Hid (Below wr.heap.size wr wr.drew) := ⟨rfl, rfl, rfl, Nat.le_refl _, fun _ _ => rfl⟩
          have J1 := hid (J.out.up HD1.out)
          have hbnd : 1 + (q + 1 - (y + 1)) * 12 + b.PL y ≤ 100000 := by omega
          have hel : ∀ i, i < b.PL y → 0 ≤ b.PX y i ∧ b.PX y i ≤ 1000 := fun i hi => by have := HR.out.elder y hyn i hi; omega
          have HCt := hid (bkCount g (1 + (q + 1 - (y + 1)) * 12) ck _ (b.PL y) (b.PX y) (1 + (q + 1 - (y + 1)) * 12) _ J1.out.map HI.out.1 ⟨hbnd, hbnd⟩ (HIs.out.up HD1.out) hel)
          clear x0 hx hpe hz g0
          go_wp2_with (at_lookup; refine wpList_lookup_own_int _ rfl _ _ 81 rfl 3 3 .i64 keyedInt Try.underlying81 Try.underlying3 (zeroInt _) g _ _ rfl HD.out _ _ rfl HK.out ?_; intro c0 hat0 hwc; obtain rfl : c0 = cx := (cnt_val HAt.out hat0).trans HCx.out; clear hat0 hwc)
          refine region_mixed (fun u : World => u.cell? ⟨bx, 0, none⟩ = some (.map (some g)) ∧ u.cell? ⟨w.heap.size, 0, none⟩ = some (.slice (some ⟨bl, off, none⟩) n cap) ∧ u.cell? ⟨bl, off + y * 4, none⟩ = some (.slice ap (b.PL y) cp)) [([0, 1, 2, 3, 4, 5, 6], 7)] [] (by kernel_rfl) (by kernel_rfl) HDD.out ?_
          refine mixO_cons (by simp only [pickO, List.getElem?_cons_zero, List.getElem?_cons_succ]; exact rfl) (by simp only [pickO, List.getElem?_cons_zero, List.getElem?_cons_succ]; exact rfl) ?_
          repeat (go_big_quiet_step (fail))
          refine wpQuiet_nil ?_
          intro K hK
          go_wp2_with fail
          refine Calls.mono HCt.out ?_
          rintro e w2 ⟨rfl, hg2, c2, hc2, hn2⟩
          have hD2 : (fun u : World => u.cell? ⟨bx, 0, none⟩ = some (.map (some g)) ∧ u.cell? ⟨w.heap.size, 0, none⟩ = some (.slice (some ⟨bl, off, none⟩) n cap) ∧ u.cell? ⟨bl, off + y * 4, none⟩ = some (.slice ap (b.PL y) cp)) w2 := ⟨hg2.cell HDD.out.1 (by intro e; injection e with e; exact J.out.map.ne J.out.var e), hg2.cell HDD.out.2.1 (by intro e; injection e with e; exact J.out.map.ne J.out.book e), hg2.cell HDD.out.2.2 (by intro e; injection e with e; exact HGn.out e)⟩
          have HD2 := hid hD2
          have J2 := hid (J1.out.grown hg2 (hc2.mono (show 1 + (q + 1 - (y + 1)) * 12 + b.PL y ≤ 1 + (q + 1 - y) * 12 by omega)))
          have HI2 := hid (binv_take HR.out.elder hqn (by omega) HI.out HNz.out (fun x => by have := hn2.1 x; omega) hn2.2)
          clear hg2 hc2 hn2 F0 F1 F2 hD2
          go_wp2
          refine ⟨rfl, hK _ _ HD2.out ?_⟩
          clear hK K
          refine mixO_nil (lq := []) rfl ?_
          refine wpQuiet_nil ?_
          go_wp2
          go_roundw
          case rel => exact ⟨y, c2, by omega, rfl, J2, HI2⟩
          case measure => simp only [intOf]; omega
  · have hcb : (c != 0) = true := by simpa using hc0
    obtain rfl : c = er := by rw [← HEe.out, if_neg hc0]
    obtain rfl : [] = l := by rw [← HL.out, if_neg hc0]
    clear hc0 hcc
    go_wp2
    go_ret2
    exact liPost_nil HWW.out

end Go.Proofs.Ytdhefajaekackaa
