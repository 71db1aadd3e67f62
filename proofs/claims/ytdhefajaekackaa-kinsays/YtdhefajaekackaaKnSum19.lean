/- Several texts of one proof, in their order. -/
import Derived.Test.YtdhefajaekackaaKnSum18

/- Common and Apart, of the landed code: what package kin owes. -/
namespace Go.Proofs.Ytdhefajaekackaa

open Go.RowKit
set_option linter.unusedVariables false

/-- the first question: is it behind the other one, too? -/
theorem kinAskA (bx : Nat) (v : Value) (l : List Int) (x : Int) (w : World) (hl : IntSl w w.heap.size v l.length (fun t => l.getD t 0)) (hx : w.cell? ⟨bx, 0, none⟩ = some v) :
    Calls Try.prog 71 #[.int .i64 x, .pointer (some ⟨bx, 0, none⟩)] w fun e w' => e = .returned (.bool (amB l x)) ∧ Below w.heap.size w w' := by
  have h1 : Calls Try.prog 24 #[v, .int .i64 x] w fun e w' => e = .returned (.bool (amB l x)) ∧ w' = w := contains_sl hl x
  have HC := hid h1
  generalize amB l x = ans at *
  obtain ⟨al, cl, rfl, _, _⟩ := hl
  clear h1
  go_enter Try.func71, Try.ntmps71
  go_wp2_with fail
  refine Calls.mono HC.out ?_
  rintro e w3 ⟨rfl, hw3⟩
  subst hw3
  go_wp2
  go_ret
  exact ⟨rfl, Below.refl _ _⟩

/-- the second one: does no other one of them come from it? -/
theorem kinAskB (bb bl : Nat) (v : Value) (n : Nat) (PV : Nat → Value) (b : Bk) (vl : Value) (l : List Int) (x : Nat) (w : World) (h : VeSl w w.heap.size v n PV b) (hb : bookE n b = 0)
    (hl : IntSl w w.heap.size vl l.length (fun t => l.getD t 0)) (hm : ∀ y, y ∈ l → ∃ q : Nat, y = q ∧ q < n) (h1 : w.cell? ⟨bb, 0, none⟩ = some v) (h2 : w.cell? ⟨bl, 0, none⟩ = some vl) :
    Calls Try.prog 72 #[.int .i64 (x : Int), .pointer (some ⟨bb, 0, none⟩), .pointer (some ⟨bl, 0, none⟩)] w fun e w' => e = .returned (.bool (!pasB b l (x : Int))) ∧ Below w.heap.size w w' := by
  have HP := hid (kinPassed v n PV b vl l x w h hb hl hm)
  obtain ⟨ans, hans⟩ : ∃ ans, pasB b l (x : Int) = ans := ⟨_, rfl⟩
  rw [hans] at HP ⊢
  clear hans
  obtain ⟨ad, cap, rfl, _, _⟩ := h
  obtain ⟨al, cl, rfl, _, _⟩ := hl
  unfold bookV at HP
  clear hm hb
  go_enter Try.func72, Try.ntmps72
  go_wp2_with fail
  refine Calls.mono HP.out ?_
  rintro e w3 ⟨rfl, hb3⟩
  have HB3 := hid hb3
  clear hb3
  go_wp2
  go_ret
  exact ⟨rfl, HB3.out⟩

set_option maxHeartbeats 2000000 in
theorem kinCommon (v : Value) (n : Nat) (PV : Nat → Value) (b : Bk) (i j : Int) (w : World) (h : VeSl w w.heap.size v n PV b) :
    Calls Try.prog 29 #[bookV v, .int .i64 i, .int .i64 j] w (LiPost w (if kinE n b i j = 0 then comL b n i.toNat j.toNat else []) (kinE n b i j)) := by
  have HV := hid h
  have hbx := below_alloc w (.cells #[v] 24)
  have c0 := cell_at (i := 0) (heap_alloc_new w (.cells #[v] 24)) rfl
  have HBi := hid (bkBehind v n PV b i _ (h.up hbx))
  obtain ⟨W, hW⟩ : ∃ W, w.alloc (.cells #[v] 24) = W := ⟨_, rfl⟩
  rw [hW] at hbx c0
  have HBx := hid hbx
  have HC0 := hid c0
  have HW := hid hW
  obtain ⟨ad, cap, rfl, _, _⟩ := h
  obtain ⟨li, hli⟩ : ∃ li, (if behE n b i = 0 then bhL b i.toNat else []) = li := ⟨_, rfl⟩
  obtain ⟨ei, hei⟩ : ∃ ei, behE n b i = ei := ⟨_, rfl⟩
  rw [hli, hei] at HBi
  rw [hei] at hli
  have HLi := hid hli
  have HEi := hid hei
  obtain ⟨er, her⟩ : ∃ er, kinE n b i j = er := ⟨_, rfl⟩
  rw [her]
  obtain ⟨l, hl⟩ : ∃ l, (if er = 0 then comL b n i.toNat j.toNat else []) = l := ⟨_, rfl⟩
  rw [hl]
  have HEr := hid her
  have HL := hid hl
  clear hli hei her hl hbx c0 hW
  unfold bookV at *
  have hmf : ∀ (fn : Fn) (first cap : Array Value) (w : World), (Instr.makeFunc fn first cap).run Try.prog w = .ok (.func fn first cap) w := fun _ _ _ _ => rfl
  go_enter Try.func29, Try.ntmps29
  go_wp2_with fail
  refine Calls.mono HBi.out ?_
  rw [HW.out]
  rintro e w2 ⟨hb2, vi, rfl, hi2⟩
  have B2 := hid (HBx.out.trans (hb2.mono HBx.out.size))
  have d0 : w2.cell? ⟨w.heap.size, 0, none⟩ = some (.slice ad n cap) := by rw [hb2.cell (cell_lt HC0.out)]; exact HC0.out
  have HI2 := hid hi2
  obtain ⟨ai, ci, rfl, _, _⟩ := hi2
  clear hb2 HBi
  by_cases hc0 : ei = 0
  · subst hc0
    have HD0 := hid d0
    have HBj := hid (bkBehind _ n PV b j _ (HV.out.up B2.out))
    obtain ⟨lj, hlj⟩ : ∃ lj, (if behE n b j = 0 then bhL b j.toNat else []) = lj := ⟨_, rfl⟩
    obtain ⟨ej, hej⟩ : ∃ ej, behE n b j = ej := ⟨_, rfl⟩
    rw [hlj, hej] at HBj
    rw [hej] at hlj
    obtain rfl : ej = er := by rw [← HEr.out]; unfold kinE; rw [HEi.out, if_pos rfl]; exact hej.symm
    have HLj := hid hlj
    have HEj := hid hej
    clear hlj hej
    unfold bookV at HBj
    go_wp2_with fail
    refine Calls.mono HBj.out ?_
    rintro e w3 ⟨hb3, vj, rfl, hj3⟩
    have B3 := hid (B2.out.trans (hb3.mono B2.out.size))
    have d3 : w3.cell? ⟨w.heap.size, 0, none⟩ = some (.slice ad n cap) := by rw [hb3.cell (cell_lt HD0.out)]; exact HD0.out
    have HD3 := hid d3
    have HI3 := hid (HI2.out.up hb3)
    have HJ3 := hid hj3
    obtain ⟨aj, cj, rfl, _, _⟩ := hj3
    clear hb3 HBj d0 HD0
    by_cases hc1 : ej = 0
    · subst hc1
      obtain ⟨hbk, ⟨hi0, hin⟩, hj0, hjn⟩ := kinE_ok HEr.out
      obtain ⟨p, rfl⟩ : ∃ p : Nat, i = p := ⟨i.toNat, by omega⟩
      obtain ⟨q, rfl⟩ : ∃ q : Nat, j = q := ⟨j.toNat, by omega⟩
      obtain rfl : bhL b p = li := HLi.out
      obtain rfl : bhL b q = lj := HLj.out
      obtain rfl : comL b n p q = l := HL.out
      have hpn : p < n := by omega
      have hqn : q < n := by omega
      have HR := hid (right_of hbk)
      have hn12 : n ≤ 12 := (right_of hbk).le
      have HBk := hid hbk
      have hb4 := below_alloc w3 (.cells #[.slice aj (bhL b q).length cj] 25)
      have e4 := cell_at (i := 0) (heap_alloc_new w3 (.cells #[.slice aj (bhL b q).length cj] 25)) rfl
      have lp : (bhL b p).length ≤ p + 1 := behL_len b (p + 1) p (p + 1)
      have HT := hid (kinThoseA w3.heap.size _ (bhL b p) (by omega) (amB (bhL b q)) _ (HI3.out.up hb4) (fun x hx w' hb' => kinAskA _ _ (bhL b q) x w' ((HJ3.out.up hb4).up hb') (by rw [hb'.cell (cell_lt e4)]; exact e4)))
      rw [both_pick HR.out.elder hpn hqn] at HT
      obtain ⟨U, hU⟩ : ∃ U, w3.alloc (.cells #[.slice aj (bhL b q).length cj] 25) = U := ⟨_, rfl⟩
      rw [hU] at hb4
      have HU := hid hU
      have B4 := hid (B3.out.trans (hb4.mono B3.out.size))
      have d4 : U.cell? ⟨w.heap.size, 0, none⟩ = some (.slice ad n cap) := by rw [hb4.cell (cell_lt HD3.out)]; exact HD3.out
      have HD4 := hid d4
      clear hb4 e4 hU d3 d4 hi0 hin hj0 hjn hbk
      go_wp2_with fail
      refine Calls.mono HT.out ?_
      rw [HU.out]
      rintro e w5 ⟨hb5, vo, rfl, ho⟩
      have lo : (bothL b n p q).length ≤ n := pickL_len _ _
      have B5 := hid (B4.out.trans (hb5.mono B4.out.size))
      have d5 : w5.cell? ⟨w.heap.size, 0, none⟩ = some (.slice ad n cap) := by rw [hb5.cell (cell_lt HD4.out)]; exact HD4.out
      have hs5 := ho.isl (by omega)
      have HS5 := hid hs5
      obtain ⟨ao, co, rfl, _, _⟩ := hs5
      have hb6 := below_alloc w5 (.cells #[.slice ao (bothL b n p q).length co] 25)
      have e6 := cell_at (i := 0) (heap_alloc_new w5 (.cells #[.slice ao (bothL b n p q).length co] 25)) rfl
      have B6 := hid (B5.out.trans (hb6.mono B5.out.size))
      have HT2 := hid (kinThoseB w.heap.size w5.heap.size _ (bothL b n p q) (by omega) (fun x => !pasB b (bothL b n p q) x) _ (HS5.out.up hb6) (fun x hx w' hb' => by
        obtain ⟨y, rfl, hy⟩ := bothL_lt hx
        exact kinAskB _ _ _ n PV b _ (bothL b n p q) y w' ((HV.out.up B6.out).up hb') HBk.out ((HS5.out.up hb6).up hb') (fun z hz => bothL_lt hz) (by rw [hb'.cell (by have := hb6.size; have := cell_lt d5; omega), hb6.cell (cell_lt d5)]; exact d5) (by rw [hb'.cell (cell_lt e6)]; exact e6)))
      rw [com_pick HR.out.elder hpn hqn] at HT2
      clear hb5 ho d5 hb6 HT
      have lc : (comL b n p q).length ≤ n := pickL_len _ _
      go_wp2_with fail
      refine Calls.mono HT2.out ?_
      rintro e w7 ⟨hb7, vf, rfl, hf⟩
      have B7 := hid (B6.out.trans (hb7.mono B6.out.size))
      have HIs := hid (hf.isl (by omega))
      clear hb7 hf e6
      go_wp2
      go_ret2
      exact ⟨B7.out, _, rfl, HIs.out⟩
    · have hcb : (ej != 0) = true := by simpa using hc1
      obtain rfl : [] = l := by rw [← HL.out, if_neg hc1]
      clear hc1
      go_wp2
      go_ret2
      exact liPost_nil (B3.out.trans ((below_alloc w3 _).mono B3.out.size))
  · have hcb : (ei != 0) = true := by simpa using hc0
    obtain rfl : ei = er := by rw [← HEr.out]; unfold kinE; rw [HEi.out, if_neg hc0]
    obtain rfl : [] = l := by rw [← HL.out, if_neg hc0]
    clear hc0
    go_wp2
    go_ret2
    exact liPost_nil B2.out

set_option maxHeartbeats 2000000 in
theorem kinApart (v : Value) (n : Nat) (PV : Nat → Value) (b : Bk) (i j : Int) (w : World) (h : VeSl w w.heap.size v n PV b) :
    Calls Try.prog 30 #[bookV v, .int .i64 i, .int .i64 j] w fun e w' => e = .returned (.tuple #[.bool (if kinE n b i j = 0 then apB b i.toNat j.toNat else false), .int .i64 (kinE n b i j)]) ∧ Below w.heap.size w w' := by
  have hbx := below_alloc w (.cells #[v] 24)
  have HC := hid (kinCommon v n PV b i j _ (h.up hbx))
  have HBx := hid hbx
  obtain ⟨ad, cap, rfl, _, _⟩ := h
  obtain ⟨er, her⟩ : ∃ er, kinE n b i j = er := ⟨_, rfl⟩
  rw [her] at HC ⊢
  have HEr := hid her
  obtain ⟨ans, hans⟩ : ∃ ans, (if er = 0 then apB b i.toNat j.toNat else false) = ans := ⟨_, rfl⟩
  rw [hans]
  have HA := hid hans
  clear hbx her hans
  unfold bookV at *
  go_enter Try.func30, Try.ntmps30
  go_wp2_with fail
  refine Calls.mono HC.out ?_
  rintro e w2 ⟨hb2, vl, rfl, hl⟩
  have B2 := hid (HBx.out.trans (hb2.mono HBx.out.size))
  have HL := hid hl
  obtain ⟨al, cl, rfl, _, _⟩ := hl
  clear hb2 HC
  by_cases hc0 : er = 0
  · subst hc0
    obtain ⟨hbk, ⟨hi0, hin⟩, hj0, hjn⟩ := kinE_ok HEr.out
    obtain ⟨p, rfl⟩ : ∃ p : Nat, i = p := ⟨i.toNat, by omega⟩
    obtain ⟨q, rfl⟩ : ∃ q : Nat, j = q := ⟨j.toNat, by omega⟩
    have hR := right_of hbk
    have ha := HA.out
    rw [if_pos rfl, Int.toNat_natCast, Int.toNat_natCast] at ha
    have C1 := contains_sl HL.out (p : Int)
    have C2 := contains_sl HL.out (q : Int)
    rw [if_pos rfl, Int.toNat_natCast, Int.toNat_natCast] at C1 C2
    rw [show hasB (fun t => (comL b n p q).getD t 0) (comL b n p q).length (p : Int) = fR b q p from amB_left hR.elder (by omega) (by omega)] at C1
    rw [show hasB (fun t => (comL b n p q).getD t 0) (comL b n p q).length (q : Int) = fR b p q from amB_right hR.elder (by omega) (by omega)] at C2
    rw [if_pos rfl, Int.toNat_natCast, Int.toNat_natCast]
    have HC1 := hid C1
    have HC2 := hid C2
    clear hbk hi0 hin hj0 hjn hR HL HA C1 C2
    generalize comL b n p q = l at *
    unfold apB at ha
    cases h1 : fR b q p with
    | true =>
      rw [h1, Bool.not_true, Bool.and_false] at ha
      subst ha
      rw [h1] at HC1
      clear h1
      go_wp2_with fail
      refine Calls.mono HC1.out ?_
      rintro e w3 ⟨rfl, hw3⟩
      subst hw3
      go_wp2
      go_ret2
      exact ⟨rfl, B2.out⟩
    | false =>
      rw [h1, Bool.not_false, Bool.and_true] at ha
      rw [h1] at HC1
      clear h1
      obtain ⟨c, hc⟩ : ∃ c, fR b p q = c := ⟨_, rfl⟩
      rw [hc] at ha HC2
      subst ha
      clear hc
      go_wp2_with fail
      refine Calls.mono HC1.out ?_
      rintro e w3 ⟨rfl, hw3⟩
      subst hw3
      go_wp2_with fail
      refine Calls.mono HC2.out ?_
      rintro e w4 ⟨rfl, hw4⟩
      subst hw4
      go_wp2
      go_ret2
      exact ⟨rfl, B2.out⟩
  · have hcb : (er != 0) = true := by simpa using hc0
    obtain rfl : false = ans := by rw [← HA.out, if_neg hc0]
    rw [if_neg hc0]
    clear hc0
    go_wp2
    go_ret2
    exact ⟨rfl, B2.out⟩

/-- what package kin owes, it does -/
theorem kinOwes : KinOwes := ⟨kinCommon, kinApart⟩

end Go.Proofs.Ytdhefajaekackaa
