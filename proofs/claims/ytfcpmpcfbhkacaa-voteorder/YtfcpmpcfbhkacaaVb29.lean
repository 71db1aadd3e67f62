/- Several texts of one proof, in their order. -/
import Derived.Test.YtfcpmpcfbhkacaaVb28

/- What package share's Join answers: its walk. -/
namespace Go.Proofs.Ytfcpmpcfbhkacaa

open Go.RowKit CurveMath
set_option linter.unusedVariables false

theorem join_no (nd of sz : Int) (v : Value) (n : Nat) (N : Nat → Int) (V : Nat → Value) (L : Nat → Nat) (X : Nat → Nat → Int) (w : World) (hc : ¬ checksE nd of sz n N L X = 0) (h : ShSl w w.heap.size v n N V L X) :
    Calls Try.prog 13 #[planV nd of sz, v] w fun e w' => e = .returned (.tuple #[.slice none 0 0, .int .i64 (checksE nd of sz n N L X)]) ∧ Below w.heap.size w w' := by
  have hbx := below_alloc w (.cells #[.int .i64 nd, .int .i64 of, .int .i64 sz] 23)
  have HC := hid (shEnough nd of sz v n N V L X _ (h.up hbx))
  have HBx := hid hbx
  obtain ⟨a, c, rfl, _, _⟩ := h
  generalize checksE nd of sz n N L X = ec at *
  have hb : (ec != 0) = true := by simpa using hc
  clear hbx hc
  unfold planV
  go_enter Try.func13, Try.ntmps13
  go_wp2_with fail
  refine HC.out.mono ?_
  rintro e w1 ⟨rfl, hb1⟩
  have HB1 := hid (HBx.out.trans (hb1.mono HBx.out.size))
  clear hb1
  go_wp2
  go_ret2
  exact ⟨rfl, HB1.out⟩

set_option maxHeartbeats 2000000 in
set_option maxRecDepth 10000 in
theorem join_good (d m s R n : Nat) (a : Option Addr) (cp : Nat) (N : Nat → Int) (V : Nat → Value) (L : Nat → Nat) (X : Nat → Nat → Int) (w : World) (hS : Shares d m s R n N L X) (hc : checksE (d : Int) (m : Int) (s : Int) n N L X = 0)
    (h : ShSl w w.heap.size (.slice a n cp) n N V L X) :
    Calls Try.prog 13 #[planV (d : Int) (m : Int) (s : Int), .slice a n cp] w fun e w' => JoinPost w (d : Int) (m : Int) (s : Int) n N L X e w' := by
  obtain ⟨hnd, hof, hsz⟩ := planOk_spec hS.plan
  have hrb := rowsN_bd hnd hsz
  rw [hS.rows] at hrb
  have hRo := fun w => shLong (d : Int) (m : Int) (s : Int) w
  have e2 : longP (d : Int) (m : Int) (s : Int) = (R : Int) := by unfold longP; rw [if_pos hS.plan, hS.rows]
  rw [e2] at hRo
  have HRo := hid hRo
  have hdd : 1 ≤ d ∧ d ≤ 4 := by omega
  have hmm : d ≤ m ∧ m ≤ 8 := by omega
  have hRR : 1 ≤ R ∧ R ≤ 24 := by omega
  have hss : 1 ≤ s ∧ s ≤ 24 := by omega
  have hsR : s ≤ R * d ∧ R * d ≤ 27 := by
    have h1 := hrb.1
    have h2 := hrb.2.2.2.2
    have h3 : ((R * d : Nat) : Int) = (R : Int) * (d : Int) := by simp
    omega
  have HMul : Hid ((R : Int) * (d : Int) = ((R * d : Nat) : Int)) := by show _ = _; simp
  have hdn := hS.le
  have HJe : Hid (joinE (d : Int) (m : Int) (s : Int) n N L X = if tornB d s R n N X = true then 9 else 0) := by
    show _ = _
    rw [joinE_checks, if_pos hc, Int.toNat_natCast, Int.toNat_natCast, hS.rows]
  have hbx := below_alloc w (.cells #[.int .i64 (d : Int), .int .i64 (m : Int), .int .i64 (s : Int)] 23)
  have HC := hid (shEnough (d : Int) (m : Int) (s : Int) _ n N V L X _ (h.up hbx))
  rw [hc] at HC
  have HSl := hid h
  have HS := hid hS
  have HBx := hid hbx
  obtain ⟨ii, hi, hzz0, hzz1, hzz2⟩ := info_parts Try.infoInt
  obtain ⟨ad, cap, e, ⟨hcap, hbig⟩, hx⟩ := h
  injection e with e3 _ e4
  subst e3 e4
  rcases hx with h0 | ⟨b, off, rfl, hb, hx⟩
  · omega
  clear hRo e2 hrb hnd hof hsz hbx hc hS hx
  unfold planV
  go_enter Try.func13, Try.ntmps13
  go_wp2_with fail
  refine HC.out.mono ?_
  rintro e w1 ⟨rfl, hb1⟩
  have p0 : w1.cell? ⟨w.heap.size, 0, none⟩ = some (.int .i64 (d : Int)) := by rw [hb1.cell (by simp)]; exact cell_at (heap_alloc_new _ _) rfl
  have p1 : w1.cell? ⟨w.heap.size, 1, none⟩ = some (.int .i64 (m : Int)) := by rw [hb1.cell (by simp)]; exact cell_at (heap_alloc_new _ _) rfl
  have p2 : w1.cell? ⟨w.heap.size, 2, none⟩ = some (.int .i64 (s : Int)) := by rw [hb1.cell (by simp)]; exact cell_at (heap_alloc_new _ _) rfl
  have HB1 := hid (HBx.out.trans (hb1.mono HBx.out.size))
  clear hb1
  have KP : Hid (∀ w', Below w1.heap.size w1 w' → w'.cell? ⟨w.heap.size, 0, none⟩ = some (.int .i64 (d : Int)) ∧ w'.cell? ⟨w.heap.size, 1, none⟩ = some (.int .i64 (m : Int)) ∧ w'.cell? ⟨w.heap.size, 2, none⟩ = some (.int .i64 (s : Int))) := fun w' hb' =>
    ⟨by rw [hb'.cell (cell_lt p0)]; exact p0, by rw [hb'.cell (cell_lt p1)]; exact p1, by rw [hb'.cell (cell_lt p2)]; exact p2⟩
  have hwl : w.heap.size < w1.heap.size := cell_lt p0
  go_wp2_with fail
  have hne : Nonempty (Of (Below w1.heap.size w1)) := ⟨⟨w1, Below.refl _ _⟩⟩
  have F0 : ∀ u : Of (Below w1.heap.size w1), u.val.cell? ⟨w.heap.size, 0, none⟩ = some (.int .i64 (d : Int)) := fun u => (KP.out u.val u.is).1
  have F1 : ∀ u : Of (Below w1.heap.size w1), u.val.cell? ⟨w.heap.size, 1, none⟩ = some (.int .i64 (m : Int)) := fun u => (KP.out u.val u.is).2.1
  have F2 : ∀ u : Of (Below w1.heap.size w1), u.val.cell? ⟨w.heap.size, 2, none⟩ = some (.int .i64 (s : Int)) := fun u => (KP.out u.val u.is).2.2
  have HD1 : Hid (Below w1.heap.size w1 w1.drew) := ⟨rfl, rfl, rfl, Nat.le_refl _, fun _ _ => rfl⟩
  refine region_mixed (Below w1.heap.size w1) [([0, 2, 3], 1), ([4], 5)] [6] (by kernel_rfl) (by kernel_rfl) HD1.out ?_
  refine mixO_cons ?_
  repeat (go_big_quiet_step (fail))
  refine wpQuiet_nil ?_
  intro K hK
  go_wp2_with fail
  refine Calls.mono (HRo.out _) ?_
  rintro e w2 ⟨rfl, hb2⟩
  have HB2 : Hid (Below w1.heap.size w1 w2) := HD1.out.trans (hb2.mono HD1.out.size)
  clear hb2
  go_wp2
  refine ⟨rfl, hK _ _ HB2.out ?_⟩
  clear hK K
  have hb3 : 0 ≤ (R : Int) * (d : Int) ∧ (R : Int) * (d : Int) ≤ 27 := by rw [HMul.out]; omega
  refine mixO_cons ?_
  repeat (go_big_quiet_step (fail))
  refine wpQuiet_nil ?_
  intro K hK
  go_wp2_with (at_make; refine wpList_make_own _ rfl (.const (.int .i64 0)) (.tmp 24) 24 rfl w2.heap.size 3 ii (.int .i64 0) 1 Try.underlying24 hi hzz0 hzz1 _ _ _ (R * d) rfl rfl HMul.out (by rw [hzz2]; omega) (by unfold maxLen; omega) (Nat.le_refl _) ?_; intro w3 ho3 hg3; have HO3 := hid ho3; have HG3 := hid hg3; clear ho3 hg3)
  have HW3 := hid (below_of_grown HG3.out)
  have HB3 : Hid (Below w1.heap.size w1 w3) := HB2.out.trans (HW3.out.mono HB2.out.size)
  refine ⟨rfl, hK _ _ HB3.out ?_⟩
  clear hK K
  refine mixO_nil ?_
  repeat (go_big_quiet_step (fail))
  refine wpQuiet_nil ?_
  have J3 : Hid (JoInv w w3 d m s w2.heap.size 0 (R * d) (joinD d N X)) := by
    obtain ⟨r0, r1, r2⟩ := KP.out w3 HB3.out
    exact ⟨HB1.out.trans (HB3.out.mono HB1.out.size), r0, r1, r2, Nat.lt_of_lt_of_le hwl HB2.out.size, HO3.out⟩
  generalize w2.heap.size = g at *
  clear p0 p1 p2 HO3 HG3 HW3 HB3
  have r0 := J3.out.p0
  have r1 := J3.out.p1
  have r2 := J3.out.p2
  go_wp2_with fail
  refine Calls.mono (HRo.out _) ?_
  rintro e w4 ⟨rfl, hb4⟩
  have J4 := hid (J3.out.up hb4)
  clear hb4 r0 r1 r2
  go_wp2
  go_loopw [7, 28] (fun vd iv wr => ∃ r : Nat, r ≤ R ∧ iv = .int .i64 r ∧ vd = .slice (some ⟨g, 0, none⟩) (r * d) (R * d) ∧ Hid (JoInv w wr d m s g (r * d) (R * d) (joinD d N X)) ∧ Hid (∀ r', r' < r → fitsB d (n - d) r' N (fun i => X i r') (fun j => N (d + j)) (fun j => X (d + j)) = true)) (fun _ iv _ => R - (intOf iv).toNat)
  case atStart => exact ⟨0, Nat.zero_le _, rfl, by rw [Nat.zero_mul], by rw [Nat.zero_mul]; exact J4, fun r' hr' => absurd hr' (Nat.not_lt_zero _)⟩
  case round =>
    obtain ⟨r, hr, rfl, rfl, J, HFt⟩ := hrel
    have r0 := J.out.p0
    have r1 := J.out.p1
    have r2 := J.out.p2
    by_cases hrR : r < R
    · have hri : (r : Int) < (R : Int) := by omega
      have hdi : (d : Int) ≤ (n : Int) := by omega
      have hdc : (d : Int) ≤ (cp : Int) := by omega
      have hrd : r * d + d ≤ R * d := by
        have h1 : (r + 1) * d ≤ R * d := Nat.mul_le_mul_right d hrR
        rw [Nat.add_mul, Nat.one_mul] at h1
        omega
      have HGd := hid (HS.out.good r hrR)
      go_wp2_with fail
      refine Calls.mono (shPoints d cp r _ N V L X wr ⟨hdd.1, by omega⟩ (by omega) (fun j hj => by rw [HS.out.len j (by omega)]; exact hrR) ((HSl.out.up J.out.below).take hdn.1)) ?_
      rintro e w5 ⟨vx, vy, rfl, ox, oy⟩
      have J5 := hid (J.out.up ox.2)
      have hglt : g < wr.heap.size := (J.out.own.lt g rfl).2
      have HX := hid ox
      have HY := hid oy
      clear ox oy
      go_wp2_with fail
      refine Calls.mono (shThrough vx vy d N (fun i => X i r) w5 (HX.out.isl hdd.1 (by omega)) (HY.out.isl hdd.1 (by omega))) ?_
      rintro e w6 ⟨rfl, hb6, hf6, k6x, k6z⟩
      have J6 := hid (J5.out.up hb6)
      have AF := hid hf6
      have AO : Hid (AtOff g w6 w5.heap.size (w5.heap.size + 1)) := by
        have h1 := (J5.out.own.lt g rfl).2
        refine ⟨by omega, by omega, fun v hv e => ?_, fun v hv e => ?_⟩
        · rw [k6x] at hv
          injection hv with hv
          rw [← hv] at e
          have := (HX.out.1.lt g e).1
          omega
        · rw [k6z] at hv
          injection hv with hv
          rw [← hv] at e
          have := (HY.out.1.lt g e).1
          omega
      generalize w5.heap.size = bx at *
      clear hb6 hf6 k6x k6z r0 r1 r2
      have r0 := J6.out.p0
      have r1 := J6.out.p1
      have r2 := J6.out.p2
      by_cases hcd : cp = d
      · have hcd2 : d = cp := hcd.symm
        subst hcd2
        have HN0 : Hid (n - d = 0) := by show _ = _; omega
        have HT : Hid (ShSl w6 w6.heap.size (.slice (some ⟨b, off, none⟩) 0 0) 0 (fun j => N (d + j)) (fun j => V (d + j)) (fun j => L (d + j)) (fun j => X (d + j))) := ⟨_, _, rfl, ⟨by omega, by omega⟩, Or.inl (by omega)⟩
        go_wp2_with fail
        refine Calls.mono (shFit d 0 _ r bx (bx + 1) _ N (fun i => X i r) (fun j => N (d + j)) (fun j => V (d + j)) (fun j => L (d + j)) (fun j => X (d + j)) w6 (by omega) (by omega) (fun j hj => by show r < L (d + j); rw [HS.out.len (d + j) (by omega)]; exact hrR) (fun j hj => by show 0 ≤ N (d + j) ∧ N (d + j) ≤ 30; have := HS.out.who (d + j) (by omega); omega) HT.out AF.out HGd.out) ?_
        rintro e w7 ⟨rfl, hb7⟩
        have J7 := hid (J6.out.up hb7)
        have AF7 := hid (AF.out.up hb7)
        have AO7 := hid (AO.out.up AF.out hb7)
        clear hb7 r0 r1 r2
        have r0 := J7.out.p0
        have r1 := J7.out.p1
        have r2 := J7.out.p2
        cases hfb : fitsB d 0 r N (fun i => X i r) (fun j => N (d + j)) (fun j => X (d + j)) with
        | false =>
          have HFb : Hid (fitsB d (n - d) r N (fun i => X i r) (fun j => N (d + j)) (fun j => X (d + j)) = false) := by show _ = _; rw [HN0.out]; exact hfb
          clear hfb
          go_wp2
          go_ret2
          exact join_err J7.out.below (by rw [HJe.out, if_pos (torn_fit hrR HFb.out)]) (by decide)
        | true =>
          have HFb : Hid (fitsB d (n - d) r N (fun i => X i r) (fun j => N (d + j)) (fun j => X (d + j)) = true) := by show _ = _; rw [HN0.out]; exact hfb
          clear hfb
          unfold atF
          go_wp2
          go_loopw [7, 50] (fun vd iv wz => ∃ t : Nat, t ≤ d ∧ iv = .int .i64 t ∧ vd = .slice (some ⟨g, 0, none⟩) (r * d + t) (R * d) ∧ Hid (JoInv w wz d m s g (r * d + t) (R * d) (joinD d N X)) ∧ Hid (AtFn wz bx (bx + 1) d N (fun i => X i r)) ∧ Hid (AtOff g wz bx (bx + 1))) (fun _ iv _ => d - (intOf iv).toNat)
          case atStart => exact ⟨0, Nat.zero_le _, rfl, rfl, J7, AF7, AO7⟩
          case round =>
            obtain ⟨t, ht, rfl, rfl, JT, AFT, AOT⟩ := hrel
            by_cases htd : t < d
            · have hti : (t : Int) < (d : Int) := by omega
              have ht30 : 0 ≤ (t : Int) ∧ (t : Int) ≤ 30 := by omega
              go_wp2_with fail
              refine Calls.mono (shAt bx (bx + 1) d N (fun i => X i r) (t : Int) _ AFT.out HGd.out ht30) ?_
              rintro e w8 ⟨rfl, hb8⟩
              have J8 := hid (JT.out.up hb8)
              have AF8 := hid (AFT.out.up hb8)
              have AO8 := hid (AOT.out.up AFT.out hb8)
              clear hb8
              obtain ⟨x, hx⟩ : ∃ x, crv d N (fun i => X i r) (t : Int) = x := ⟨_, rfl⟩
              rw [hx]
              have HXx : Hid (joinD d N X (r * d + t) = x) := by show _ = _; rw [joinD_row htd]; exact hx
              clear hx
              go_wp2_with (at_builtin; go_must (refine wpList_append_fits _ rfl (.tmp 53) (.tmp 57) 24 rfl g 3 ii 1 Try.underlying24 hi hzz1 g (r * d + t) (R * d) _ rfl (World.ownsRow.alloc J8.out.own _) ⟨_, 0, none⟩ 1 1 [.int .i64 x] rfl rfl (newCell _ _ _) (oneCell _) (by omega) ?_; intro w9 ho9 hg9; have J9 := hid ((J8.out.up (below_alloc w8 (.cells #[.int .i64 x] 3))).push ho9 hg9 HXx.out); have AF9 := hid ((AF8.out.up (below_alloc w8 (.cells #[.int .i64 x] 3))).grown (AO8.out.up AF8.out (below_alloc w8 (.cells #[.int .i64 x] 3))) hg9); have AO9 := hid ((AO8.out.up AF8.out (below_alloc w8 (.cells #[.int .i64 x] 3))).grown (AF8.out.up (below_alloc w8 (.cells #[.int .i64 x] 3))) hg9); clear ho9 hg9))
              go_roundw
              case rel => exact ⟨t + 1, by omega, by go_num, rfl, J9, AF9, AO9⟩
              case measure => simp only [intOf]; omega
            · have hte : t = d := by omega
              subst hte
              go_wp2
              go_roundw
              case rel =>
                have e9 : (r + 1) * t = r * t + t := by rw [Nat.add_mul, Nat.one_mul]
                refine ⟨r + 1, by omega, by go_num, by rw [e9], by rw [e9]; exact JT, fun r' hr' => ?_⟩
                by_cases e : r' = r
                · rw [e]; exact HFb.out
                · exact HFt.out r' (by omega)
              case measure => simp only [intOf]; omega
      · have HT : Hid (ShSl w6 w6.heap.size (.slice (some ⟨b, off + d * 2, none⟩) (n - d) (cp - d)) (n - d) (fun j => N (d + j)) (fun j => V (d + j)) (fun j => L (d + j)) (fun j => X (d + j))) := (HSl.out.up J6.out.below).drop hdn.1
        go_wp2_with fail
        refine Calls.mono (shFit d (n - d) _ r bx (bx + 1) _ N (fun i => X i r) (fun j => N (d + j)) (fun j => V (d + j)) (fun j => L (d + j)) (fun j => X (d + j)) w6 (by omega) (by omega) (fun j hj => by show r < L (d + j); rw [HS.out.len (d + j) (by omega)]; exact hrR) (fun j hj => by show 0 ≤ N (d + j) ∧ N (d + j) ≤ 30; have := HS.out.who (d + j) (by omega); omega) HT.out AF.out HGd.out) ?_
        rintro e w7 ⟨rfl, hb7⟩
        have J7 := hid (J6.out.up hb7)
        have AF7 := hid (AF.out.up hb7)
        have AO7 := hid (AO.out.up AF.out hb7)
        clear hb7 r0 r1 r2
        have r0 := J7.out.p0
        have r1 := J7.out.p1
        have r2 := J7.out.p2
        cases hfb : fitsB d (n - d) r N (fun i => X i r) (fun j => N (d + j)) (fun j => X (d + j)) with
        | false =>
          have HFb : Hid (fitsB d (n - d) r N (fun i => X i r) (fun j => N (d + j)) (fun j => X (d + j)) = false) := by show _ = _; exact hfb
          clear hfb
          go_wp2
          go_ret2
          exact join_err J7.out.below (by rw [HJe.out, if_pos (torn_fit hrR HFb.out)]) (by decide)
        | true =>
          have HFb : Hid (fitsB d (n - d) r N (fun i => X i r) (fun j => N (d + j)) (fun j => X (d + j)) = true) := by show _ = _; exact hfb
          clear hfb
          unfold atF
          go_wp2
          go_loopw [7, 50] (fun vd iv wz => ∃ t : Nat, t ≤ d ∧ iv = .int .i64 t ∧ vd = .slice (some ⟨g, 0, none⟩) (r * d + t) (R * d) ∧ Hid (JoInv w wz d m s g (r * d + t) (R * d) (joinD d N X)) ∧ Hid (AtFn wz bx (bx + 1) d N (fun i => X i r)) ∧ Hid (AtOff g wz bx (bx + 1))) (fun _ iv _ => d - (intOf iv).toNat)
          case atStart => exact ⟨0, Nat.zero_le _, rfl, rfl, J7, AF7, AO7⟩
          case round =>
            obtain ⟨t, ht, rfl, rfl, JT, AFT, AOT⟩ := hrel
            by_cases htd : t < d
            · have hti : (t : Int) < (d : Int) := by omega
              have ht30 : 0 ≤ (t : Int) ∧ (t : Int) ≤ 30 := by omega
              go_wp2_with fail
              refine Calls.mono (shAt bx (bx + 1) d N (fun i => X i r) (t : Int) _ AFT.out HGd.out ht30) ?_
              rintro e w8 ⟨rfl, hb8⟩
              have J8 := hid (JT.out.up hb8)
              have AF8 := hid (AFT.out.up hb8)
              have AO8 := hid (AOT.out.up AFT.out hb8)
              clear hb8
              obtain ⟨x, hx⟩ : ∃ x, crv d N (fun i => X i r) (t : Int) = x := ⟨_, rfl⟩
              rw [hx]
              have HXx : Hid (joinD d N X (r * d + t) = x) := by show _ = _; rw [joinD_row htd]; exact hx
              clear hx
              go_wp2_with (at_builtin; go_must (refine wpList_append_fits _ rfl (.tmp 53) (.tmp 57) 24 rfl g 3 ii 1 Try.underlying24 hi hzz1 g (r * d + t) (R * d) _ rfl (World.ownsRow.alloc J8.out.own _) ⟨_, 0, none⟩ 1 1 [.int .i64 x] rfl rfl (newCell _ _ _) (oneCell _) (by omega) ?_; intro w9 ho9 hg9; have J9 := hid ((J8.out.up (below_alloc w8 (.cells #[.int .i64 x] 3))).push ho9 hg9 HXx.out); have AF9 := hid ((AF8.out.up (below_alloc w8 (.cells #[.int .i64 x] 3))).grown (AO8.out.up AF8.out (below_alloc w8 (.cells #[.int .i64 x] 3))) hg9); have AO9 := hid ((AO8.out.up AF8.out (below_alloc w8 (.cells #[.int .i64 x] 3))).grown (AF8.out.up (below_alloc w8 (.cells #[.int .i64 x] 3))) hg9); clear ho9 hg9))
              go_roundw
              case rel => exact ⟨t + 1, by omega, by go_num, rfl, J9, AF9, AO9⟩
              case measure => simp only [intOf]; omega
            · have hte : t = d := by omega
              subst hte
              go_wp2
              go_roundw
              case rel =>
                have e9 : (r + 1) * t = r * t + t := by rw [Nat.add_mul, Nat.one_mul]
                refine ⟨r + 1, by omega, by go_num, by rw [e9], by rw [e9]; exact JT, fun r' hr' => ?_⟩
                by_cases e : r' = r
                · rw [e]; exact HFb.out
                · exact HFt.out r' (by omega)
              case measure => simp only [intOf]; omega
    · have hre : r = R := by omega
      subst hre
      have HCel : Hid (∀ j, j < r * d → wr.cell? ⟨g, j, none⟩ = some (.int .i64 (joinD d N X j))) := fun j hj => J.out.cells j hj
      have JWh : Hid (IntSl wr wr.heap.size (.slice (some ⟨g, 0, none⟩) (r * d) (r * d)) (r * d) (joinD d N X)) := ⟨_, _, rfl, ⟨Nat.le_refl _, by omega⟩, Or.inr ⟨g, 0, rfl, (J.out.own.lt g rfl).2, fun j hj => by rw [Nat.zero_add]; exact HCel.out j hj⟩⟩
      have hsi : (s : Int) ≤ ((r * d : Nat) : Int) := by omega
      by_cases hcs : r * d = s
      · have hmb : madeB d s r N X = true := decide_eq_true fun j hj => Or.inl (by omega)
        have HM := hid hmb
        have hz0 : r * d - s = 0 := by omega
        rw [hcs] at JWh
        clear hmb
        go_wp2
        refine wp_loop_rounds 1 ?_
        rw [rounds_succ]
        go_wp2_with (at_make; refine wpList_make_full _ rfl (.tmp 74) (.tmp 74) 24 rfl _ 3 ii (.int .i64 0) 1 Try.underlying24 hi hzz0 hzz1 _ _ _ _ s rfl rfl rfl rfl (by rw [hzz2]; omega) (by unfold maxLen; omega) (Nat.le_refl _) ?_; intro w8 ho8 hg8; have hW8 := below_of_grown hg8; have hI8 := JWh.out.up hW8; obtain ⟨w9, hrun, hc9, hf9, hb9⟩ := copy_run (cm := s) (made_block ho8) hI8 (c := s) (by first | exact (Nat.min_eq_right hsR.1).symm | exact (Nat.min_self s).symm) hss.1; have HB9 := hid (hb9 w.heap.size w ((J.out.up hW8).below) (by have := J.out.below.size; omega)); have HC9 := hid hc9; clear ho8 hg8 hc9 hf9 hb9 hI8 hW8)
        go_ret2
        have hje0 : joinE (d : Int) (m : Int) (s : Int) n N L X = 0 := by rw [HJe.out, if_neg (by rw [torn_not HS.out HM.out HFt.out]; decide)]
        refine ⟨HB9.out, _, s, by rw [hje0]; rfl, by rw [hje0, if_pos rfl], ?_⟩
        refine ⟨_, s, rfl, ⟨Nat.le_refl _, by omega⟩, Or.inr ⟨_, 0, rfl, cell_lt (HC9.out 0 (by omega)), fun j hj => ?_⟩⟩
        rw [Nat.zero_add, HC9.out j hj, Int.toNat_natCast]
        unfold padD
        rw [if_pos hj]
      · go_wp2
        go_loop [66] (fun iv => ∃ i : Nat, i ≤ r * d - s ∧ iv = .int .i64 i ∧ Hid (∀ j, s ≤ j → j < s + i → joinD d N X j = 0)) (fun iv => r * d - s - (intOf iv).toNat)
        case atStart => exact ⟨0, Nat.zero_le _, rfl, fun j h1 h2 => by omega⟩
        case round =>
          obtain ⟨i, hi', rfl, HZ⟩ := hrel
          by_cases hil : i < r * d - s
          · have hii : (i : Int) < ((r * d - s : Nat) : Int) := by omega
            have c0 := HCel.out (s + i) (by omega)
            obtain ⟨x, hx⟩ : ∃ x, joinD d N X (s + i) = x := ⟨_, rfl⟩
            rw [hx] at c0
            have HXx := hid hx
            clear hx
            by_cases hx0 : x = 0
            · subst hx0
              go_wp2
              go_round
              case rel =>
                refine ⟨i + 1, by omega, by go_num, fun j h1 h2 => ?_⟩
                by_cases e : j = s + i
                · rw [e]; exact HXx.out
                · exact HZ.out j h1 (by omega)
              case measure => simp only [intOf]; omega
            · have hxb : (x != 0) = true := by simpa using hx0
              have hmb : madeB d s r N X = false := decide_eq_false fun h => by
                rcases h (s + i) (by omega) with h1 | h1
                · omega
                · rw [HXx.out] at h1; exact hx0 h1
              have HM := hid hmb
              clear hmb hx0
              go_wp2
              go_ret2
              exact join_err J.out.below (by rw [HJe.out, if_pos (torn_made HM.out)]) (by decide)
          · have hie : i = r * d - s := by omega
            have hii : ((r * d - s : Nat) : Int) ≤ (i : Int) := by omega
            have hzz : ∀ j, s ≤ j → j < r * d → joinD d N X j = 0 := fun j h1 h2 => HZ.out j h1 (by omega)
            have hmb : madeB d s r N X = true := decide_eq_true fun j hj => by
              by_cases h : j < s
              · exact Or.inl h
              · exact Or.inr (hzz j (by omega) hj)
            have HM := hid hmb
            clear hmb hzz hie
            go_wp2_with (at_make; refine wpList_make_full _ rfl (.tmp 74) (.tmp 74) 24 rfl _ 3 ii (.int .i64 0) 1 Try.underlying24 hi hzz0 hzz1 _ _ _ _ s rfl rfl rfl rfl (by rw [hzz2]; omega) (by unfold maxLen; omega) (Nat.le_refl _) ?_; intro w8 ho8 hg8; have hW8 := below_of_grown hg8; have hI8 := JWh.out.up hW8; obtain ⟨w9, hrun, hc9, hf9, hb9⟩ := copy_run (cm := s) (made_block ho8) hI8 (c := s) (by first | exact (Nat.min_eq_right hsR.1).symm | exact (Nat.min_self s).symm) hss.1; have HB9 := hid (hb9 w.heap.size w ((J.out.up hW8).below) (by have := J.out.below.size; omega)); have HC9 := hid hc9; clear ho8 hg8 hc9 hf9 hb9 hI8 hW8)
            go_ret2
            have hje0 : joinE (d : Int) (m : Int) (s : Int) n N L X = 0 := by rw [HJe.out, if_neg (by rw [torn_not HS.out HM.out HFt.out]; decide)]
            refine ⟨HB9.out, _, s, by rw [hje0]; rfl, by rw [hje0, if_pos rfl], ?_⟩
            refine ⟨_, s, rfl, ⟨Nat.le_refl _, by omega⟩, Or.inr ⟨_, 0, rfl, cell_lt (HC9.out 0 (by omega)), fun j hj => ?_⟩⟩
            rw [Nat.zero_add, HC9.out j hj, Int.toNat_natCast]
            unfold padD
            rw [if_pos hj]

theorem shJoin (nd of sz : Int) (v : Value) (n : Nat) (N : Nat → Int) (V : Nat → Value) (L : Nat → Nat) (X : Nat → Nat → Int) (w : World) (h : ShSl w w.heap.size v n N V L X) :
    Calls Try.prog 13 #[planV nd of sz, v] w fun e w' => JoinPost w nd of sz n N L X e w' := by
  by_cases hc : checksE nd of sz n N L X = 0
  · obtain ⟨d, m, s, R, rfl, rfl, rfl, hS⟩ := checks_ok hc
    have h2 := h
    obtain ⟨a, c, rfl, _, _⟩ := h
    exact join_good d m s R n a c N V L X w hS hc h2
  · have he : joinE nd of sz n N L X = checksE nd of sz n N L X := by rw [joinE_checks, if_neg hc]
    refine (join_no nd of sz v n N V L X w hc h).mono ?_
    rintro e w' ⟨rfl, hb⟩
    exact join_err hb he hc

end Go.Proofs.Ytfcpmpcfbhkacaa
