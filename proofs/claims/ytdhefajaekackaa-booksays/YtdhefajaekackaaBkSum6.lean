/- Several texts of one proof, in their order. -/
import Derived.Test.YtdhefajaekackaaBkSum4
import Derived.Test.YtdhefajaekackaaBkSum5
import Derived.StillTail
import Derived.Deep.Quiet
import Derived.Deep.QuietTactic
import Derived.BigQuiet
import Derived.WalkKit

/- What chapter 5's reference answers: what is behind a version; which are heads? -/
namespace Go.Proofs.Ytdhefajaekackaa

open Go.RowKit
set_option linter.unusedVariables false

/-- what is behind version k, among the first j -/
def behL (b : Bk) (f k j : Nat) : List Int := ((List.range j).filter fun old => frm b f k old).map fun (x : Nat) => (x : Int)

theorem behL_succ (b : Bk) (f k j : Nat) : behL b f k (j + 1) = behL b f k j ++ (if frm b f k j = true then [(j : Int)] else []) := by
  unfold behL
  rw [List.range_succ, List.filter_append, List.map_append]
  cases h : frm b f k j <;> simp [h]

theorem behL_len (b : Bk) (f k j : Nat) : (behL b f k j).length ≤ j := by
  unfold behL
  rw [List.length_map]
  refine Nat.le_trans (List.length_filter_le _ _) ?_
  simp

set_option maxHeartbeats 1000000 in
theorem allBehind_any (n : Nat) (v : Value) (PV : Nat → Value) (b : Bk) (hE : Elder n b) (hn : n ≤ 12) (k : Nat) (hk : k < n) (w : World) (h : VeSl w w.heap.size v n PV b) :
    Calls Try.prog 23 #[bookV v, .int .i64 (k : Int)] w fun e w' => Below w.heap.size w w' ∧ ∃ vo, e = .returned vo ∧ OwnL w w' vo (behL b (k + 1) k (k + 1)) := by
  have hbx := below_alloc w (.cells #[v] 24)
  have HFr := hid (fun (old : Nat) (w' : World) (ho : old < 1000) (hb' : Below w.heap.size w w') => from_any n v PV b hE hn (k + 1) k old w' (Nat.lt_succ_self _) hk ho (h.up hb'))
  have HBx := hid hbx
  obtain ⟨ad, cap, rfl, _, _⟩ := h
  obtain ⟨ii, hii, hzz0, hzz1, hzz2⟩ := info_parts Try.infoInt
  obtain ⟨W, hW⟩ : ∃ W, w.alloc (.cells #[.slice ad n cap] 24) = W := ⟨_, rfl⟩
  rw [hW] at HBx
  have b0 : W.cell? ⟨w.heap.size, 0, none⟩ = some (.slice ad n cap) := by rw [← hW]; exact cell_at (heap_alloc_new _ _) rfl
  have HB0 := hid b0
  clear hE hbx b0
  unfold bookV at *
  go_enter Try.func23, Try.ntmps23
  go_wp2
  go_loopw [5, 9] (fun vo iv wr => ∃ j : Nat, j ≤ k + 1 ∧ iv = .int .i64 j ∧ Hid (OwnL W wr vo (behL b (k + 1) k j))) (fun _ iv _ => k + 1 - (intOf iv).toNat)
  case atStart => exact ⟨0, Nat.zero_le _, rfl, OwnL.nil _⟩
  case round =>
    obtain ⟨j, hj, rfl, OW⟩ := hrel
    by_cases hlt : j < k + 1
    · have hji : (j : Int) < (k : Int) + 1 := by omega
      have HBr := hid (HBx.out.trans (OW.out.2.mono HBx.out.size))
      have c0 : wr.cell? ⟨w.heap.size, 0, none⟩ = some (.slice ad n cap) := by rw [OW.out.2.cell (cell_lt HB0.out)]; exact HB0.out
      have hsc := behL_succ b (k + 1) k j
      have hll := behL_len b (k + 1) k j
      have HC := hid (HFr.out j wr (by omega) HBr.out)
      cases hf : frm b (k + 1) k j with
      | true =>
        rw [hf, if_pos rfl] at hsc
        rw [hf] at HC
        have HSc := hid hsc
        clear hsc hf
        go_wp2_with fail
        refine Calls.mono HC.out ?_
        rintro e w2 ⟨rfl, hb2⟩
        have O2 := hid (OW.out.up hb2)
        have hge : W.heap.size ≤ w2.heap.size := O2.out.2.size
        clear hb2
        go_wp2_with (at_builtin; go_must (refine wpList_append_own _ rfl (.tmp 16) (.tmp 18) 25 rfl W.heap.size 3 ii (.int .i64 0) 1 8 Try.underlying25 hii hzz0 hzz1 hzz2 rfl (by decide) _ _ _ rfl (World.ownsRow.alloc O2.out.1 _) ⟨_, 0, none⟩ 1 1 [.int .i64 (j : Int)] rfl rfl (newCell _ _ _) (oneCell _) (by unfold maxLen; omega) (by omega) (by simp; omega) ?_; intro v1 w6 ho6 hg6 _; have O6 := hid (O2.out.push ho6 hg6); clear ho6 hg6))
        go_roundw
        case rel => exact ⟨j + 1, by omega, by go_num, by rw [HSc.out]; exact O6.out⟩
        case measure => simp only [intOf]; omega
      | false =>
        rw [hf, if_neg (by decide), List.append_nil] at hsc
        rw [hf] at HC
        have HSc := hid hsc
        clear hsc hf
        go_wp2_with fail
        refine Calls.mono HC.out ?_
        rintro e w2 ⟨rfl, hb2⟩
        have O2 := hid (OW.out.up hb2)
        clear hb2
        go_wp2
        go_roundw
        case rel => exact ⟨j + 1, by omega, by go_num, by rw [HSc.out]; exact O2.out⟩
        case measure => simp only [intOf]; omega
    · have hje : k + 1 = j := by omega
      subst hje
      go_wp2
      go_ret
      refine ⟨HBx.out.trans (OW.out.2.mono HBx.out.size), _, rfl, owns_base OW.out.1 HBx.out.size, HBx.out.trans (OW.out.2.mono HBx.out.size)⟩

theorem contains_sl {w : World} {B : Nat} {v : Value} {n : Nat} {X : Nat → Int} (h : IntSl w B v n X) (x : Int) :
    Calls Try.prog 24 #[v, .int .i64 x] w fun e w' => e = .returned (.bool (hasB X n x)) ∧ w' = w := by
  obtain ⟨ad, cap, rfl, ⟨h0, h1⟩, h2⟩ := h
  rcases h2 with rfl | ⟨b, off, rfl, _, h3⟩
  · exact contains_none ad cap x w
  · exact contains_any b off n cap X x w h1 h3

/-- is version k a parent of version j? -/
def parB (b : Bk) (k j : Nat) : Bool := hasB (b.PX j) (b.PL j) (k : Int)

theorem headF_any (pv : Value) (m : Nat) (X : Nat → Int) (nd of sz k : Int) (bk : Nat) (w : World) (h : IntSl w w.heap.size pv m X) (hk : w.cell? ⟨bk, 0, none⟩ = some (.int .i64 k)) :
    Calls Try.prog 66 #[verV pv nd of sz, .pointer (some ⟨bk, 0, none⟩)] w fun e w' => e = .returned (.bool (hasB X m k)) ∧ Below w.heap.size w w' := by
  have hb := below_alloc w (.cells #[pv, .int .i64 nd, .int .i64 of, .int .i64 sz] 29)
  have HC := hid (contains_sl (h.up hb) k)
  have HB := hid hb
  have lk := cell_lt hk
  obtain ⟨ad, cap, rfl, _, _⟩ := h
  clear hb
  unfold verV
  go_enter Try.func66, Try.ntmps66
  go_wp2_with fail
  refine HC.out.mono ?_
  rintro e w2 ⟨rfl, hw2⟩
  subst hw2
  go_wp2
  go_ret
  exact ⟨rfl, HB.out⟩

set_option maxHeartbeats 1000000 in
theorem indexFunc_heads (bk : Nat) (k : Nat) (v : Value) (n : Nat) (PV : Nat → Value) (b : Bk) (w : World) (h : VeSl w w.heap.size v n PV b) (hk : w.cell? ⟨bk, 0, none⟩ = some (.int .i64 (k : Int))) :
    Calls Try.prog 101 #[v, .func (.func 66) #[] #[.pointer (some ⟨bk, 0, none⟩)]] w fun e w' => ∃ r : Int, e = .returned (.int .i64 r) ∧ decide (0 ≤ r) = anyB (parB b k) n 0 ∧ Below w.heap.size w w' := by
  obtain ⟨ad, cap, rfl, ⟨hc, hr⟩, hx⟩ := h
  obtain ⟨ans, hans⟩ : ∃ ans, anyB (parB b k) n 0 = ans := ⟨_, rfl⟩
  rw [hans]
  have HA := hid hans
  have HX := hid hx
  have HK := hid hk
  clear hans hx hk
  go_enter Try.func101, Try.ntmps101
  go_wp2
  go_loopw [8] (fun iv wr => ∃ i : Nat, i ≤ n ∧ iv = .int .i64 i ∧ Hid (Below w.heap.size w wr) ∧ Hid (anyB (parB b k) (n - i) i = ans)) (fun iv _ => n - (intOf iv).toNat)
  case atStart => exact ⟨0, Nat.zero_le _, rfl, Below.refl _ _, HA⟩
  case round =>
    obtain ⟨i, hi, rfl, HB, HS⟩ := hrel
    by_cases hlt : i < n
    · have hii : (i : Int) < (n : Int) := by omega
      rcases HX.out with h0 | ⟨b1, o1, rfl, hb1, hx⟩
      · omega
      obtain ⟨x0, x1, x2, x3, x4⟩ := hx i hlt
      have HI := hid (x4.up HB.out)
      obtain ⟨ap, cp, hpe, _, _⟩ := x4
      rw [hpe] at x0 HI
      have g0 : wr.cell? ⟨b1, o1 + i * 4, none⟩ = some (.slice ap (b.PL i) cp) := by rw [HB.out.cell hb1]; exact x0
      have g1 : wr.cell? ⟨b1, o1 + i * 4 + 1, none⟩ = some (.int .i64 (b.nd i)) := by rw [HB.out.cell hb1]; exact x1
      have g2 : wr.cell? ⟨b1, o1 + i * 4 + 2, none⟩ = some (.int .i64 (b.of i)) := by rw [HB.out.cell hb1]; exact x2
      have g3 : wr.cell? ⟨b1, o1 + i * 4 + 3, none⟩ = some (.int .i64 (b.sz i)) := by rw [HB.out.cell hb1]; exact x3
      have hkr : wr.cell? ⟨bk, 0, none⟩ = some (.int .i64 (k : Int)) := by rw [HB.out.cell (cell_lt HK.out)]; exact HK.out
      have hstep := HS.out
      rw [show n - i = (n - (i + 1)) + 1 by omega] at hstep
      simp only [anyB] at hstep
      have HC := hid (headF_any _ _ _ (b.nd i) (b.of i) (b.sz i) _ bk wr HI.out hkr)
      unfold verV at HC
      have hpb : hasB (b.PX i) (b.PL i) (k : Int) = parB b k i := rfl
      rw [hpb] at HC
      clear hx x0 x1 x2 x3 hpe hpb hkr
      cases hpi : parB b k i with
      | true =>
        rw [hpi, Bool.true_or] at hstep
        rw [hpi] at HC
        have HSt := hid hstep
        clear hstep hpi
        go_wp2_with fail
        refine Calls.mono HC.out ?_
        rintro e w2 ⟨rfl, hb2⟩
        have HB2 := hid (HB.out.trans (hb2.mono HB.out.size))
        clear hb2
        go_wp2
        go_ret
        exact ⟨_, rfl, by rw [← HSt.out]; exact decide_eq_true (by omega), HB2.out⟩
      | false =>
        rw [hpi, Bool.false_or] at hstep
        rw [hpi] at HC
        have HSt := hid hstep
        clear hstep hpi
        go_wp2_with fail
        refine Calls.mono HC.out ?_
        rintro e w2 ⟨rfl, hb2⟩
        have HB2 := hid (HB.out.trans (hb2.mono HB.out.size))
        clear hb2
        go_wp2
        go_roundw
        case rel => exact ⟨i + 1, by omega, by go_num, HB2, HSt⟩
        case measure => simp only [intOf]; omega
    · have hie : n = i := by omega
      subst hie
      have hst := HS.out
      rw [Nat.sub_self] at hst
      have HFin : Hid (false = ans) := hst
      clear hst
      go_wp2
      go_ret
      exact ⟨_, rfl, by rw [← HFin.out]; decide, HB.out⟩

theorem containsFunc_heads (bk : Nat) (k : Nat) (v : Value) (n : Nat) (PV : Nat → Value) (b : Bk) (w : World) (h : VeSl w w.heap.size v n PV b) (hk : w.cell? ⟨bk, 0, none⟩ = some (.int .i64 (k : Int))) :
    Calls Try.prog 65 #[v, .func (.func 66) #[] #[.pointer (some ⟨bk, 0, none⟩)]] w fun e w' => e = .returned (.bool (anyB (parB b k) n 0)) ∧ Below w.heap.size w w' := by
  have HI := hid (indexFunc_heads bk k v n PV b w h hk)
  obtain ⟨ad, cap, rfl, _, _⟩ := h
  clear hk
  go_enter Try.func65, Try.ntmps65
  go_wp2_with fail
  refine HI.out.mono ?_
  rintro e w2 ⟨r, rfl, hd, hb⟩
  have HB := hid hb
  have HD := hid hd
  clear hb hd
  go_wp2
  go_ret
  exact ⟨by rw [← HD.out]; simp, HB.out⟩

/-- those of the first j that are no parent -/
def headsL (b : Bk) (n j : Nat) : List Int := ((List.range j).filter fun k => !anyB (parB b k) n 0).map fun (x : Nat) => (x : Int)

theorem headsL_succ (b : Bk) (n j : Nat) : headsL b n (j + 1) = headsL b n j ++ (if anyB (parB b j) n 0 = true then [] else [(j : Int)]) := by
  unfold headsL
  rw [List.range_succ, List.filter_append, List.map_append]
  cases h : anyB (parB b j) n 0 <;> simp [h]

theorem headsL_len (b : Bk) (n j : Nat) : (headsL b n j).length ≤ j := by
  unfold headsL
  rw [List.length_map]
  refine Nat.le_trans (List.length_filter_le _ _) ?_
  simp

set_option maxHeartbeats 1000000 in
theorem headsOf_any (n : Nat) (v : Value) (PV : Nat → Value) (b : Bk) (hn : n ≤ 12) (w : World) (h : VeSl w w.heap.size v n PV b) :
    Calls Try.prog 22 #[bookV v] w fun e w' => Below w.heap.size w w' ∧ ∃ vo, e = .returned vo ∧ OwnL w w' vo (headsL b n n) := by
  have hbx := below_alloc w (.cells #[v] 24)
  have HV := hid h
  have HBx := hid hbx
  obtain ⟨ad, cap, rfl, _, _⟩ := h
  obtain ⟨ii, hii, hzz0, hzz1, hzz2⟩ := info_parts Try.infoInt
  obtain ⟨W, hW⟩ : ∃ W, w.alloc (.cells #[.slice ad n cap] 24) = W := ⟨_, rfl⟩
  rw [hW] at HBx
  have b0 : W.cell? ⟨w.heap.size, 0, none⟩ = some (.slice ad n cap) := by rw [← hW]; exact cell_at (heap_alloc_new _ _) rfl
  have HB0 := hid b0
  clear hbx
  unfold bookV
  go_enter Try.func22, Try.ntmps22
  go_wp2
  clear b0
  go_loopw [3, 8] (fun vo iv wr => ∃ j : Nat, j ≤ n ∧ iv = .int .i64 j ∧ Hid (OwnL W wr vo (headsL b n j))) (fun _ iv _ => n - (intOf iv).toNat)
  case atStart => exact ⟨0, Nat.zero_le _, rfl, OwnL.nil _⟩
  case round =>
    obtain ⟨j, hj, rfl, OW⟩ := hrel
    by_cases hlt : j < n
    · have hji : (j : Int) < (n : Int) := by omega
      have hbA := below_alloc wr (.cells #[.int .i64 (j : Int)] 3)
      obtain ⟨U, hU⟩ : ∃ U, wr.alloc (.cells #[.int .i64 (j : Int)] 3) = U := ⟨_, rfl⟩
      rw [hU] at hbA
      have u0 : U.cell? ⟨wr.heap.size, 0, none⟩ = some (.int .i64 (j : Int)) := by rw [← hU]; exact cell_at (heap_alloc_new _ _) rfl
      have HBU := hid (OW.out.2.trans (hbA.mono OW.out.2.size))
      have c0 : U.cell? ⟨w.heap.size, 0, none⟩ = some (.slice ad n cap) := by rw [HBU.out.cell (cell_lt HB0.out)]; exact HB0.out
      have OU := hid (OW.out.up hbA)
      have hsc := headsL_succ b n j
      have hll := headsL_len b n j
      have HC := hid (containsFunc_heads wr.heap.size j _ n PV b U (HV.out.up (HBx.out.trans (HBU.out.mono HBx.out.size))) u0)
      clear hbA
      cases hf : anyB (parB b j) n 0 with
      | true =>
        rw [hf, if_pos rfl, List.append_nil] at hsc
        rw [hf] at HC
        have HSc := hid hsc
        clear hsc hf
        go_wp2_with fail
        refine Calls.mono HC.out ?_
        rintro e w2 ⟨rfl, hb2⟩
        have O2 := hid (OU.out.up hb2)
        clear hb2
        go_wp2
        go_roundw
        case rel => exact ⟨j + 1, by omega, by go_num, by rw [HSc.out]; exact O2.out⟩
        case measure => simp only [intOf]; omega
      | false =>
        rw [hf, if_neg (by decide)] at hsc
        rw [hf] at HC
        have HSc := hid hsc
        clear hsc hf
        go_wp2_with fail
        refine Calls.mono HC.out ?_
        rintro e w2 ⟨rfl, hb2⟩
        have O2 := hid (OU.out.up hb2)
        have u2 : w2.cell? ⟨wr.heap.size, 0, none⟩ = some (.int .i64 (j : Int)) := by rw [hb2.cell (cell_lt u0)]; exact u0
        have hge : W.heap.size ≤ w2.heap.size := O2.out.2.size
        clear hb2
        go_wp2_with (at_builtin; go_must (refine wpList_append_own _ rfl (.tmp 16) (.tmp 18) 25 rfl W.heap.size 3 ii (.int .i64 0) 1 8 Try.underlying25 hii hzz0 hzz1 hzz2 rfl (by decide) _ _ _ rfl (World.ownsRow.alloc O2.out.1 _) ⟨_, 0, none⟩ 1 1 [.int .i64 (j : Int)] rfl rfl (newCell _ _ _) (oneCell _) (by unfold maxLen; omega) (by omega) (by simp; omega) ?_; intro v1 w6 ho6 hg6 _; have O6 := hid (O2.out.push ho6 hg6); clear ho6 hg6))
        go_roundw
        case rel => exact ⟨j + 1, by omega, by go_num, by rw [HSc.out]; exact O6.out⟩
        case measure => simp only [intOf]; omega
    · have hje : n = j := by omega
      subst hje
      go_wp2
      go_ret
      refine ⟨HBx.out.trans (OW.out.2.mono HBx.out.size), _, rfl, owns_base OW.out.1 HBx.out.size, HBx.out.trans (OW.out.2.mono HBx.out.size)⟩

end Go.Proofs.Ytdhefajaekackaa

/- A region that draws its order, whose first operations only read (or call what only reads and draws) and whose last ones are forced: one walk in the text's order serves every order. Plain: it speaks of no program. -/
namespace Go.Proofs.Ytdhefajaekackaa

variable {P : Program} {ops : Array Oper} {md : Region.Mode} {C : World → Prop}

end Go.Proofs.Ytdhefajaekackaa
