/- Several texts of one proof, in their order. -/
import Derived.Test.YtfcpmpcfbhkacaaVb34
import Derived.Test.YtfcpmpcfbhkacaaVoteMostPart0

/- The law VoteMost. -/
namespace Go.Proofs.Ytfcpmpcfbhkacaa

open Go.RowKit CurveMath
set_option linter.unusedVariables false

theorem contains_isl {w : World} {B : Nat} {v : Value} {n : Nat} {X : Nat → Int} (h : IntSl w B v n X) (x : Int) :
    Calls Try.prog 34 #[v, .int .i64 x] w fun e w' => e = .returned (.bool (hasB X n x)) ∧ w' = w := by
  obtain ⟨ad, cap, rfl, ⟨h0, h1⟩, h2⟩ := h
  rcases h2 with rfl | ⟨b, off, rfl, _, h3⟩
  · exact contains_none ad cap x w
  · exact contains_any b off n cap X x w h1 h3

theorem hasB_mem (l : List Int) (x : Int) : hasB (fun j => l.getD j 0) l.length x = decide (x ∈ l) := by
  rw [Bool.eq_iff_iff, hasB_iff, decide_eq_true_eq]
  constructor
  · rintro ⟨j, hj, e⟩
    rw [← e]
    simp [List.getD_eq_getElem?_getD, hj]
  · intro h
    obtain ⟨j, hj, e⟩ := List.mem_iff_getElem.1 h
    exact ⟨j, hj, by simp [List.getD_eq_getElem?_getD, hj, e]⟩

theorem mostE_ok {nd of sz : Int} {n : Nat} {N : Nat → Int} {L : Nat → Nat} {X : Nat → Nat → Int} (h : mostE nd of sz n N L X = 0) : ∃ (d m s R : Nat) (c : List Nat), nd = (d : Int) ∧ of = (m : Int) ∧ sz = (s : Int) ∧ Shares d m s R n N L X ∧ electV d s R n N X = some c ∧ mostD nd sz n N X = conD d N X c ∧ mostB nd of sz n N L X = srt (badL d s R n N X (conD d N X c)) := by
  have h0 := h
  unfold mostE at h0
  by_cases hc : checksE nd of sz n N L X = 0
  · rw [if_pos hc] at h0
    obtain ⟨d, m, s, R, rfl, rfl, rfl, hS⟩ := checks_ok hc
    have hC : mostC (d : Int) (s : Int) n N X = electV d s R n N X := by unfold mostC; rw [Int.toNat_natCast, Int.toNat_natCast, hS.rows]
    rw [hC] at h0
    cases he : electV d s R n N X with
    | none => rw [he] at h0; simp at h0
    | some c =>
      have hD : mostD (d : Int) (s : Int) n N X = conD d N X c := by unfold mostD; rw [hC, he, Int.toNat_natCast]; rfl
      refine ⟨d, m, s, R, c, rfl, rfl, rfl, hS, he, hD, ?_⟩
      unfold mostB
      rw [if_pos h, hD, Int.toNat_natCast, Int.toNat_natCast, hS.rows]
  · rw [if_neg hc] at h0
    exact absurd h0 hc

set_option maxRecDepth 10000 in
set_option maxHeartbeats 8000000 in
theorem voteMost_of (nd of sz : Int) (a1 : Option Addr) (n cap1 : Nat) (N : Nat → Int) (V : Nat → Value) (L : Nat → Nat) (X : Nat → Nat → Int) (a2 : Option Addr) (lo cap2 : Nat) (Od : Nat → Int) (w : World) (w1 : ShSl w w.heap.size (.slice a1 n cap1) n N V L X) (w2 : SlArg w a2 lo cap2 Od) :
    Calls Try.prog 10 #[planV nd of sz, .slice a1 n cap1, .slice a2 lo cap2] w fun e w' => e = .returned (.bool true) ∧ Below w.heap.size w w' := by
  have hbx := below_alloc w (.cells #[.int .i64 nd, .int .i64 of, .int .i64 sz] 23)
  have i2 := w2.isl
  have HM := hid (most_any nd of sz _ n N V L X _ (w1.up hbx))
  unfold planV
  go_enter Try.func10, Try.ntmps10
  go_wp2_with fail
  refine HM.out.mono ?_
  rintro e w3 ⟨hb3, r, b, mm, rfl, hmm, hr, hbb⟩
  have B3 : Below w.heap.size w w3 := hbx.trans (hb3.mono hbx.size)
  have p0 : w3.cell? ⟨w.heap.size, 0, none⟩ = some (.int .i64 nd) := by rw [hb3.cell (by simp)]; exact cell_at (heap_alloc_new _ _) rfl
  have p1 : w3.cell? ⟨w.heap.size, 1, none⟩ = some (.int .i64 of) := by rw [hb3.cell (by simp)]; exact cell_at (heap_alloc_new _ _) rfl
  have p2 : w3.cell? ⟨w.heap.size, 2, none⟩ = some (.int .i64 sz) := by rw [hb3.cell (by simp)]; exact cell_at (heap_alloc_new _ _) rfl
  have KP : Hid (∀ w', Below w3.heap.size w3 w' → w'.cell? ⟨w.heap.size, 0, none⟩ = some (.int .i64 nd) ∧ w'.cell? ⟨w.heap.size, 1, none⟩ = some (.int .i64 of) ∧ w'.cell? ⟨w.heap.size, 2, none⟩ = some (.int .i64 sz)) := fun w' hb' =>
    ⟨by rw [hb'.cell (cell_lt p0)]; exact p0, by rw [hb'.cell (cell_lt p1)]; exact p1, by rw [hb'.cell (cell_lt p2)]; exact p2⟩
  clear p0 p1 p2
  have HB3 := hid B3
  by_cases he : mostE nd of sz n N L X = 0
  · rw [if_pos he] at hmm
    rw [he]
    obtain ⟨d, m, s, R, c, rfl, rfl, rfl, hS, hel, hmD, hmB⟩ := mostE_ok he
    obtain rfl : mm = s := by omega
    rw [hmD] at hr
    rw [hmB] at hbb
    obtain ⟨hc1, hc2, hc3⟩ := elect_some hel
    obtain ⟨hnd, hof, hsz2⟩ := planOk_spec hS.plan
    have hle := hS.le
    have hDn : ∀ j, j < mm → 0 ≤ conD d N X c j ∧ conD d N X c j ≤ 30 := fun j _ => by unfold conD joinD; exact crv_num _ _ _ _
    have hjb : joinE (d : Int) (m : Int) (mm : Int) n N L X = 0 ↔ mostB (d : Int) (m : Int) (mm : Int) n N L X = [] := by
      constructor
      · intro hj; exact (most_join (by rw [hj]; decide)).2.1
      · intro hb
        rw [hmB] at hb
        have hb2 : badL d mm R n N X (conD d N X c) = [] := by
          have := srt_len (badL d mm R n N X (conD d N X c))
          rw [hb] at this
          exact List.length_eq_zero_iff.1 this.symm
        exact (all_alike hS hDn (badL_nil.1 hb2)).1
    have hjd : joinE (d : Int) (m : Int) (mm : Int) n N L X = 0 → ∀ i, i < mm → joinD d N X i = conD d N X c i := fun hj i hi => by
      have h9 := (most_join (nd := (d : Int)) (of := (m : Int)) (sz := (mm : Int)) (n := n) (N := N) (L := L) (X := X) (by rw [hj]; decide)).2.2 hj i (by rw [Int.toNat_natCast]; exact hi)
      rw [hmD, Int.toNat_natCast] at h9
      exact h9.symm
    have hlB : (mostB (d : Int) (m : Int) (mm : Int) n N L X).length = (badL d mm R n N X (conD d N X c)).length := by rw [hmB, srt_len]
    have HS := hid hS
    have HJb := hid hjb
    have HJd := hid hjd
    have HMB := hid hmB
    have HC3 := hid hc3
    have HDn := hid hDn
    have HR := hid hr
    have HBb := hid hbb
    have HSl := hid w1
    have HI2 := hid (i2.up B3)
    obtain ⟨ar, cr, hre, _, _⟩ := hr
    subst hre
    have hbl := badL_len d mm R n N X (conD d N X c)
    rw [srt_len] at hbb
    obtain ⟨ab, cb, hbe, _, _⟩ := hbb
    subst hbe
    obtain ⟨D, hDD⟩ : ∃ D, conD d N X c = D := ⟨_, rfl⟩
    rw [hDD] at HC3 HDn HR HBb HMB HJd hbl
    simp only [hDD]
    rw [srt_len] at HBb
    obtain ⟨lb, hlb⟩ : ∃ lb, (badL d mm R n N X D).length = lb := ⟨_, rfl⟩
    have HLb := hid hlb
    rw [hlb] at HBb hbl
    simp only [hlb]
    obtain ⟨ad, cap, hle1, ⟨hcap, hbig⟩, hx⟩ := w1
    injection hle1 with e1 _ e3
    subst e1 e3
    rcases hx with h0 | ⟨bl, ol, rfl, hbl2, hx⟩
    · omega
    have HX := hid hx
    clear hS hmD hmB hel hc1 hc2 hc3 hDn hjb hjd hmm he i2 w2 hbx hb3 HM B3 hDD hlb hlB hx
    go_wp2_with (go_at_call 32; go_must (refine (voted_any _).mono ?_; rintro e w4 ⟨rfl, hb4⟩; have HB4 := hid hb4; obtain ⟨p0, p1, p2⟩ := KP.out w4 hb4; clear hb4))
    have HSp := hid (owes.split (d : Int) (m : Int) (mm : Int) _ mm D w4 (HR.out.up HB4.out))
    have hsE := splitE_fit HS.out.plan HDn.out
    rw [hsE, HS.out.rows, Int.toNat_natCast] at HSp
    clear hsE
    go_wp2_with fail
    refine HSp.out.mono ?_
    rintro e w5 ⟨hb5, rsp, m2, Vs, rfl, hm2, hsl, -, -⟩
    simp only [if_true] at hm2
    have hm3 : m = m2 := by omega
    subst hm3
    have HB5 := hid (HB4.out.trans (hb5.mono HB4.out.size))
    obtain ⟨adr, capr, rfl, ⟨hcapr, _⟩, hxr⟩ := hsl
    rcases hxr with h0 | ⟨br, offr, rfl, hbr, hxr⟩
    · omega
    have HXr := hid hxr
    clear hb5 hxr hm2 HSp p0 p1 p2
    go_wp2
    go_loopw [45] (fun iv wr => ∃ j : Nat, j ≤ n ∧ iv = .int .i64 j ∧ Hid (Below w5.heap.size w5 wr)) (fun iv _ => n - (intOf iv).toNat)
    case atStart => exact ⟨0, Nat.zero_le _, rfl, Below.refl _ _⟩
    case round =>
      obtain ⟨j, hj, rfl, HQ⟩ := hrel
      by_cases hlt : j < n
      · have hji : (j : Int) < (n : Int) := by omega
        obtain ⟨x1, x2, x3⟩ := HX.out j hlt
        have HB3r := hid (HB5.out.trans (HQ.out.mono HB5.out.size))
        have HBr := hid (HB3.out.trans (HB3r.out.mono HB3.out.size))
        have HI3 : Hid (∀ w', Below w.heap.size w w' → IntSl w' w'.heap.size (V j) (L j) (X j)) := fun w' hb' => x3.up hb'
        obtain ⟨av, cv, hve, _, _⟩ := x3
        rw [hve] at HI3
        obtain ⟨ν, hν⟩ : ∃ ν : Nat, N j = ν := ⟨(N j).toNat, by have := HS.out.who j hlt; omega⟩
        have hνb : ν < m := by have := HS.out.who j hlt; omega
        have hνi : (ν : Int) < (m : Int) := by omega
        have g1 : wr.cell? ⟨bl, ol + j * 2, none⟩ = some (.int .i64 (ν : Int)) := by rw [HBr.out.cell hbl2, ← hν]; exact x1
        have g2 : wr.cell? ⟨bl, ol + j * 2 + 1, none⟩ = some (.slice av (L j) cv) := by rw [HBr.out.cell hbl2, x2, hve]
        have HN := hid hν
        obtain ⟨y1, y2, y3⟩ := HXr.out ν hνb
        have HI4 : Hid (∀ w', Below w5.heap.size w5 w' → IntSl w' w'.heap.size (Vs ν) R (fun i => shv d mm D ν i)) := fun w' hb' => y3.up hb'
        obtain ⟨av2, cv2, hve2, _, _⟩ := y3
        rw [hve2] at HI4 y2
        clear x1 x2 hve hν hve2
        have hbA := below_alloc wr (.cells #[.int .i64 (ν : Int), .slice av (L j) cv] 27)
        obtain ⟨W, hW⟩ : ∃ W, wr.alloc (.cells #[.int .i64 (ν : Int), .slice av (L j) cv] 27) = W := ⟨_, rfl⟩
        rw [hW] at hbA
        have s0 : W.cell? ⟨wr.heap.size, 0, none⟩ = some (.int .i64 (ν : Int)) := by rw [← hW]; exact cell_at (heap_alloc_new _ _) rfl
        have s1 : W.cell? ⟨wr.heap.size, 1, none⟩ = some (.slice av (L j) cv) := by rw [← hW]; exact cell_at (heap_alloc_new _ _) rfl
        have HB5W := hid (HQ.out.trans (hbA.mono HQ.out.size))
        have HB3W := hid (HB5.out.trans (HB5W.out.mono HB5.out.size))
        have HBwW := hid (HB3.out.trans (HB3W.out.mono HB3.out.size))
        have hne : Nonempty (Of (Below W.heap.size W)) := ⟨⟨W, Below.refl _ _⟩⟩
        have F3 : ∀ u : Of (Below W.heap.size W), u.val.cell? ⟨wr.heap.size, 0, none⟩ = some (.int .i64 (ν : Int)) := fun u => by rw [u.is.cell (cell_lt s0)]; exact s0
        have F4 : ∀ u : Of (Below W.heap.size W), u.val.cell? ⟨wr.heap.size, 1, none⟩ = some (.slice av (L j) cv) := fun u => by rw [u.is.cell (cell_lt s1)]; exact s1
        have F5 : ∀ u : Of (Below W.heap.size W), u.val.cell? ⟨br, offr + ν * 2, none⟩ = some (.int .i64 (ν : Int)) := fun u => by rw [(HB5W.out.trans (u.is.mono HB5W.out.size)).cell hbr]; exact y1
        have F6 : ∀ u : Of (Below W.heap.size W), u.val.cell? ⟨br, offr + ν * 2 + 1, none⟩ = some (.slice av2 R cv2) := fun u => by rw [(HB5W.out.trans (u.is.mono HB5W.out.size)).cell hbr]; exact y2
        clear hbA y1 y2
        have hcon : hasB (fun j => (srt (badL d mm R n N X D)).getD j 0) lb (ν : Int) = !alB d mm R N X D j := by
          have h8 := hasB_mem (srt (badL d mm R n N X D)) (ν : Int)
          rw [srt_len, HLb.out] at h8
          rw [h8, ← HN.out]
          have h9 := mem_bad (d := d) (s := mm) (R := R) (X := X) (D := D) HS.out.inj hlt
          cases ha : alB d mm R N X D j with
          | true => exact decide_eq_false fun hm => by rw [h9.1 hm] at ha; cases ha
          | false => exact decide_eq_true (h9.2 ha)
        have HCon := hid hcon
        clear hcon
        go_wp2_with fail
        have HDr : Hid (Below W.heap.size W W.drew) := ⟨rfl, rfl, rfl, Nat.le_refl _, fun _ _ => rfl⟩
        refine region_mixed (Below W.heap.size W) [([0, 1, 2, 4, 5, 6, 7, 8, 9], 3), ([], 10)] [11] (by kernel_rfl) (by kernel_rfl) HDr.out ?_
        refine mixO_cons ?_
        repeat (go_big_quiet_step (fail))
        refine wpQuiet_nil ?_
        intro K hK
        go_wp2_with fail
        refine Calls.mono (contains_isl (HBb.out.up (HB3W.out.trans (HDr.out.mono HB3W.out.size))) (ν : Int)) ?_
        rintro e wq ⟨rfl, hwq⟩
        subst wq
        rw [HCon.out]
        go_wp2
        refine ⟨rfl, hK _ _ HDr.out ?_⟩
        clear hK K
        refine mixO_cons (lq := []) ?_ rfl
        refine wpQuiet_nil ?_
        intro K hK
        go_wp2_with fail
        refine Calls.mono (owes.same (ν : Int) (ν : Int) _ _ (L j) R (X j) _ W.drew (HI3.out W.drew (HBwW.out.trans (HDr.out.mono HBwW.out.size))) (HI4.out W.drew (HB5W.out.trans (HDr.out.mono HB5W.out.size)))) ?_
        rintro e w7 ⟨rfl, hb7⟩
        have HB7 := hid (HDr.out.trans (hb7.mono HDr.out.size))
        have hsm := sameB_al HS.out D j ν hlt HN.out
        rw [HN.out] at hsm
        rw [hsm]
        clear hb7 hsm
        go_wp2
        refine ⟨rfl, hK _ _ HB7.out ?_⟩
        clear hK K
        refine mixO_nil ?_
        repeat (go_big_quiet_step (fail))
        refine wpQuiet_nil ?_
        generalize alB d mm R N X D j = ba
        cases ba with
        | false =>
          go_wp2
          go_roundw
          case rel => exact ⟨j + 1, by omega, by go_num, HB5W.out.trans (HB7.out.mono HB5W.out.size)⟩
          case measure => simp only [intOf]; omega
        | true =>
          go_wp2
          go_roundw
          case rel => exact ⟨j + 1, by omega, by go_num, HB5W.out.trans (HB7.out.mono HB5W.out.size)⟩
          case measure => simp only [intOf]; omega
      · have hje : j = n := by omega
        subst hje
        have HB3q := hid (HB5.out.trans (HQ.out.mono HB5.out.size))
        have HBq := hid (HB3.out.trans (HB3q.out.mono HB3.out.size))
        obtain ⟨p0, p1, p2⟩ := KP.out wr HB3q.out
        have HJ := hid (owes.join (d : Int) (m : Int) (mm : Int) _ j N V L X wr (HSl.out.up HBq.out))
        rw [Int.toNat_natCast] at HJ
        have hcase : (joinE (d : Int) (m : Int) (mm : Int) j N L X = 0 ∧ lb = 0) ∨ (joinE (d : Int) (m : Int) (mm : Int) j N L X ≠ 0 ∧ 1 ≤ lb) := by
          by_cases h0 : joinE (d : Int) (m : Int) (mm : Int) j N L X = 0
          · refine Or.inl ⟨h0, ?_⟩
            have h1 := HJb.out.1 h0
            rw [HMB.out] at h1
            have h2 := srt_len (badL d mm R j N X D)
            rw [h1, HLb.out] at h2
            exact h2.symm
          · refine Or.inr ⟨h0, ?_⟩
            refine Nat.pos_of_ne_zero fun h1 => h0 (HJb.out.2 ?_)
            rw [HMB.out]
            refine List.length_eq_zero_iff.1 ?_
            rw [srt_len, HLb.out, h1]
        rcases hcase with ⟨hj0, hl0⟩ | ⟨hj0, hl0⟩
        focus
          have hjd := HJd.out hj0
          rw [hj0] at HJ
          subst hl0
          clear hj0
          go_wp2_with fail
          refine HJ.out.mono ?_
          rintro e w7 ⟨hb7, rj, kj, rfl, hkj, hrj⟩
          simp only [if_true] at hkj
          have hkj2 : mm = kj := by omega
          subst hkj2
          have hrj2 := hrj.congr hjd
          have HB7' := hid (HB3q.out.trans (hb7.mono HB3q.out.size))
          obtain ⟨aj, cj, hje2, _, _⟩ := hrj
          subst hje2
          have HEq := hid (equal_isl hrj2 (HR.out.up HB7'.out))
          rw [eqB_yes rfl (fun _ _ => rfl)] at HEq
          clear hb7 hkj hrj2 hjd HJ
          go_wp2_with fail
          refine HEq.out.mono ?_
          rintro e w8 ⟨rfl, q8, hq8⟩
          have HB8 : Hid (Below w3.heap.size w3 w8) := HB7'.out.trans (by rw [hq8]; exact ⟨rfl, rfl, rfl, Nat.le_refl _, fun _ _ => rfl⟩)
          clear hq8 HEq p0 p1 p2
          go_wp2_with fail
        rotate_left
        focus
          have hlb1 : ¬ (lb : Int) = 0 := by omega
          obtain ⟨cj, hcj⟩ : ∃ cj, joinE (d : Int) (m : Int) (mm : Int) j N L X = cj := ⟨_, rfl⟩
          rw [hcj] at HJ hj0
          have hcb : (cj == 0) = false := by simpa using hj0
          clear hcj hj0 hl0
          go_wp2_with fail
          refine HJ.out.mono ?_
          rintro e w8 ⟨hb8, rj, kj, rfl, -, hrj⟩
          have HB8 := hid (HB3q.out.trans (hb8.mono HB3q.out.size))
          obtain ⟨aj, cj2, hje2, _, _⟩ := hrj
          subst hje2
          clear hb8 HJ p0 p1 p2
          go_wp2_with fail
        all_goals
          have hne : Nonempty (Of (Below w3.heap.size w3)) := ⟨⟨w3, Below.refl _ _⟩⟩
          have F0 : ∀ u : Of (Below w3.heap.size w3), u.val.cell? ⟨w.heap.size, 0, none⟩ = some (.int .i64 (d : Int)) := fun u => (KP.out u.val u.is).1
          have F1 : ∀ u : Of (Below w3.heap.size w3), u.val.cell? ⟨w.heap.size, 1, none⟩ = some (.int .i64 (m : Int)) := fun u => (KP.out u.val u.is).2.1
          have F2 : ∀ u : Of (Below w3.heap.size w3), u.val.cell? ⟨w.heap.size, 2, none⟩ = some (.int .i64 (mm : Int)) := fun u => (KP.out u.val u.is).2.2
          have HD8 : Hid (Below w3.heap.size w3 w8.drew) := HB8.out.trans ⟨rfl, rfl, rfl, Nat.le_refl _, fun _ _ => rfl⟩
          refine region_mixed (Below w3.heap.size w3) [([0, 1, 2, 3, 4], 5), ([], 6)] [7, 8, 9, 10, 11] (by kernel_rfl) (by kernel_rfl) HD8.out ?_
          refine mixO_cons ?_
          repeat (go_big_quiet_step (fail))
          refine wpQuiet_nil ?_
          intro K hK
          have hpk := picked_any (HSl.out.up (HB3.out.trans (HD8.out.mono HB3.out.size))) ⟨by omega, by omega⟩ a2 lo cap2 Od (HI2.out.up HD8.out) (d : Int)
          have hpm : pickM (d : Int) j = d := by unfold pickM; rw [if_neg (by omega), Int.toNat_natCast]; exact Nat.min_eq_left hle.1
          rw [hpm] at hpk
          have HPk := hid hpk
          clear hpk hpm
          go_wp2_with fail
          refine Calls.mono HPk.out ?_
          rintro e w9 ⟨vp, O, Lf, rfl, hown, hpick⟩
          have HOw := hid hown
          have HPi := hid hpick
          have HB9 : Hid (Below w3.heap.size w3 w9) := HD8.out.trans (hown.2.mono HD8.out.size)
          have HBw9 := hid (HB3.out.trans (HB9.out.mono HB3.out.size))
          clear hown hpick HPk
          go_wp2
          refine ⟨rfl, hK _ _ HB9.out ?_⟩
          clear hK K
          refine mixO_cons (lq := []) ?_ rfl
          refine wpQuiet_nil ?_
          intro K hK
          have hSO : Shares d m mm R d (fun j => N (O j)) (fun j => L (O j)) (fun j => X (O j)) := ⟨HS.out.plan, HS.out.rows, ⟨Nat.le_refl _, by omega⟩, fun j hj => HS.out.who _ (HPi.out.o j hj), fun j hj => HS.out.len _ (HPi.out.o j hj), fun j hj => HS.out.num _ (HPi.out.o j hj), fun a b ha hb e => HPi.out.oinj a b ha hb (HS.out.inj _ _ (HPi.out.o a ha) (HPi.out.o b hb) e)⟩
          have hshO : ShSl w9 w9.heap.size vp d (fun j => N (O j)) (fun j => V (O j)) (fun j => L (O j)) (fun j => X (O j)) := HOw.out.shl (by omega) (fun j hj => HSl.out.lists HBw9.out _ (HPi.out.o j hj))
          have HJo := hid (owes.join (d : Int) (m : Int) (mm : Int) vp d _ _ _ _ w9 hshO)
          rw [hSO.joinE, Int.toNat_natCast] at HJo
          have HSO := hid hSO
          clear hSO hshO
          cases hmk : madeB d mm R (fun j => N (O j)) (fun j => X (O j)) with
          | false =>
            rw [hmk, if_neg (by decide)] at HJo
            clear hmk
            go_wp2_with fail
            refine Calls.mono HJo.out ?_
            rintro e w10 ⟨hb10, ro, ko, rfl, -, hro⟩
            obtain ⟨ao, co, hoe2, _, _⟩ := hro
            subst hoe2
            have HB10 := hid (HB9.out.trans (hb10.mono HB9.out.size))
            clear hb10
            go_wp2
            refine ⟨rfl, hK _ _ HB10.out ?_⟩
            clear hK K
            refine mixO_nil ?_
            repeat (go_big_quiet_step (fail))
            refine wpQuiet_nil ?_
            go_wp2
            go_ret
            exact ⟨rfl, HB3.out.trans (HB10.out.mono HB3.out.size)⟩
          | true =>
            rw [hmk, if_pos rfl] at HJo
            have HMk := hid hmk
            clear hmk
            go_wp2_with fail
            refine Calls.mono HJo.out ?_
            rintro e w10 ⟨hb10, ro, ko, rfl, hko, hro⟩
            simp only [if_true] at hko
            have hko2 : mm = ko := by omega
            subst hko2
            have HRo := hid hro
            obtain ⟨ao, co, hoe2, _, _⟩ := hro
            subst hoe2
            have HB10 := hid (HB9.out.trans (hb10.mono HB9.out.size))
            clear hb10 hko HJo
            obtain ⟨Do, hDo⟩ : ∃ Do, joinD d (fun j => N (O j)) (fun j => X (O j)) = Do := ⟨_, rfl⟩
            rw [hDo] at HRo
            have hDon : ∀ j, j < mm → 0 ≤ Do j ∧ Do j ≤ 30 := fun j _ => by rw [← hDo]; unfold joinD; exact crv_num _ _ _ _
            have hfin : aCnt d mm R j N X Do + (badL d mm R j N X D).length ≤ j := by
              obtain ⟨cc, hc1, hc2, hc3⟩ := choice_of HS.out HPi.out.o HPi.out.oinj
              have hsz := size_le HS.out
              have hmk2 : mkB d mm R N X cc = true := decide_eq_true fun i hi' => by
                have h8 : conD d N X cc i = joinD d (fun j => N (O j)) (fun j => X (O j)) i := hc3 i hi'
                rcases of_decide_eq_true HMk.out i hi' with h1 | h1
                · exact Or.inl h1
                · exact Or.inr (by rw [← h1]; exact h8)
              have hmn := HC3.out cc (good_comb hc1 hc2) hmk2
              rw [badL_congr (D := Do) (D' := conD d N X cc) (fun i hi' => by rw [hc3 i (by omega), hDo])] at hmn
              have h9 := aCnt_bad d mm R j N X Do
              omega
            have HFin := hid hfin
            obtain ⟨q0, q1, q2⟩ := KP.out w10 HB10.out
            have HSp2 := hid (owes.split (d : Int) (m : Int) (mm : Int) _ mm Do w10 HRo.out)
            have hsE2 := splitE_fit HS.out.plan hDon
            rw [hsE2, HS.out.rows, Int.toNat_natCast] at HSp2
            clear hsE2 hfin hDo hDon
            go_wp2
            refine ⟨rfl, hK _ _ HB10.out ?_⟩
            clear hK K
            refine mixO_nil ?_
            repeat (go_big_quiet_step (fail))
            refine wpQuiet_nil ?_
            go_wp2_with fail
            refine HSp2.out.mono ?_
            rintro e w11 ⟨hb11, rs2, m2, Vt, rfl, hm2, hsl2, -, -⟩
            simp only [if_true] at hm2
            have hm3 : m = m2 := by omega
            subst hm3
            have HB11 := hid (HB10.out.trans (hb11.mono HB10.out.size))
            obtain ⟨adt, capt, rfl, ⟨hcapt, _⟩, hxt⟩ := hsl2
            rcases hxt with h0 | ⟨bt, offt, rfl, hbt, hxt⟩
            · omega
            have HXt := hid hxt
            clear hb11 hxt hm2 HSp2 q0 q1 q2
            go_wp2
            go_loopw [18, 104] (fun cv iv wr => ∃ i : Nat, i ≤ j ∧ iv = .int .i64 i ∧ cv = .int .i64 (aCnt d mm R i N X Do) ∧ Hid (Below w11.heap.size w11 wr)) (fun _ iv _ => j - (intOf iv).toNat)
            case atStart => exact ⟨0, Nat.zero_le _, rfl, rfl, Below.refl _ _⟩
            case round =>
              obtain ⟨i, hi, rfl, rfl, HQ2⟩ := hrel
              have hab := aCnt_bad d mm R i N X Do
              by_cases hlt : i < j
              · have hji : (i : Int) < (j : Int) := by omega
                obtain ⟨x1, x2, x3⟩ := HX.out i hlt
                have HB3r := hid (HB11.out.trans (HQ2.out.mono HB11.out.size))
                have HBr := hid (HB3.out.trans (HB3r.out.mono HB3.out.size))
                have HI3 : Hid (∀ w', Below w.heap.size w w' → IntSl w' w'.heap.size (V i) (L i) (X i)) := fun w' hb' => x3.up hb'
                obtain ⟨av, cv, hve, _, _⟩ := x3
                rw [hve] at HI3
                obtain ⟨ν, hν⟩ : ∃ ν : Nat, N i = ν := ⟨(N i).toNat, by have := HS.out.who i hlt; omega⟩
                have hνb : ν < m := by have := HS.out.who i hlt; omega
                have hνi : (ν : Int) < (m : Int) := by omega
                have g1 : wr.cell? ⟨bl, ol + i * 2, none⟩ = some (.int .i64 (ν : Int)) := by rw [HBr.out.cell hbl2, ← hν]; exact x1
                have g2 : wr.cell? ⟨bl, ol + i * 2 + 1, none⟩ = some (.slice av (L i) cv) := by rw [HBr.out.cell hbl2, x2, hve]
                have HN := hid hν
                obtain ⟨y1, y2, y3⟩ := HXt.out ν hνb
                have HI4 : Hid (∀ w', Below w11.heap.size w11 w' → IntSl w' w'.heap.size (Vt ν) R (fun r => shv d mm Do ν r)) := fun w' hb' => y3.up hb'
                obtain ⟨av2, cv2, hve2, _, _⟩ := y3
                rw [hve2] at HI4 y2
                clear x1 x2 hve hν hve2
                have hbA := below_alloc wr (.cells #[.int .i64 (ν : Int), .slice av (L i) cv] 27)
                obtain ⟨W, hW⟩ : ∃ W, wr.alloc (.cells #[.int .i64 (ν : Int), .slice av (L i) cv] 27) = W := ⟨_, rfl⟩
                rw [hW] at hbA
                have s0 : W.cell? ⟨wr.heap.size, 0, none⟩ = some (.int .i64 (ν : Int)) := by rw [← hW]; exact cell_at (heap_alloc_new _ _) rfl
                have s1 : W.cell? ⟨wr.heap.size, 1, none⟩ = some (.slice av (L i) cv) := by rw [← hW]; exact cell_at (heap_alloc_new _ _) rfl
                have HB5W := hid (HQ2.out.trans (hbA.mono HQ2.out.size))
                have HB3W := hid (HB11.out.trans (HB5W.out.mono HB11.out.size))
                have HBwW := hid (HB3.out.trans (HB3W.out.mono HB3.out.size))
                have hne2 : Nonempty (Of (Below W.heap.size W)) := ⟨⟨W, Below.refl _ _⟩⟩
                have F3 : ∀ u : Of (Below W.heap.size W), u.val.cell? ⟨wr.heap.size, 0, none⟩ = some (.int .i64 (ν : Int)) := fun u => by rw [u.is.cell (cell_lt s0)]; exact s0
                have F4 : ∀ u : Of (Below W.heap.size W), u.val.cell? ⟨wr.heap.size, 1, none⟩ = some (.slice av (L i) cv) := fun u => by rw [u.is.cell (cell_lt s1)]; exact s1
                have F5 : ∀ u : Of (Below W.heap.size W), u.val.cell? ⟨bt, offt + ν * 2, none⟩ = some (.int .i64 (ν : Int)) := fun u => by rw [(HB5W.out.trans (u.is.mono HB5W.out.size)).cell hbt]; exact y1
                have F6 : ∀ u : Of (Below W.heap.size W), u.val.cell? ⟨bt, offt + ν * 2 + 1, none⟩ = some (.slice av2 R cv2) := fun u => by rw [(HB5W.out.trans (u.is.mono HB5W.out.size)).cell hbt]; exact y2
                clear hbA y1 y2 F0 F1 F2 hne
                have hsc := aCnt_succ d mm R i N X Do
                have HSc := hid hsc
                clear hsc
                go_wp2_with fail
                have HDr : Hid (Below W.heap.size W W.drew) := ⟨rfl, rfl, rfl, Nat.le_refl _, fun _ _ => rfl⟩
                refine region_mixed (Below W.heap.size W) [([0, 1, 2, 3, 4, 5, 6, 7, 8], 9)] [10] (by kernel_rfl) (by kernel_rfl) HDr.out ?_
                refine mixO_cons ?_
                repeat (go_big_quiet_step (fail))
                refine wpQuiet_nil ?_
                intro K hK
                go_wp2_with fail
                refine Calls.mono (owes.same (ν : Int) (ν : Int) _ _ (L i) R (X i) _ W.drew (HI3.out W.drew (HBwW.out.trans (HDr.out.mono HBwW.out.size))) (HI4.out W.drew (HB5W.out.trans (HDr.out.mono HB5W.out.size)))) ?_
                rintro e w12 ⟨rfl, hb12⟩
                have HB12 := hid (HDr.out.trans (hb12.mono HDr.out.size))
                have hsm := sameB_al HS.out Do i ν hlt HN.out
                rw [HN.out] at hsm
                rw [hsm]
                clear hb12 hsm
                go_wp2
                refine ⟨rfl, hK _ _ HB12.out ?_⟩
                clear hK K
                refine mixO_nil ?_
                repeat (go_big_quiet_step (fail))
                refine wpQuiet_nil ?_
                cases hba : alB d mm R N X Do i with
                | false =>
                  have hsc2 : aCnt d mm R (i + 1) N X Do = aCnt d mm R i N X Do := by rw [HSc.out, if_neg (by rw [hba]; decide), Nat.add_zero]
                  have HS2 := hid hsc2
                  clear hsc2
                  go_wp2
                  go_roundw
                  case rel => exact ⟨i + 1, by omega, by go_num, by rw [HS2.out], HB5W.out.trans (HB12.out.mono HB5W.out.size)⟩
                  case measure => simp only [intOf]; omega
                | true =>
                  have hsc2 : aCnt d mm R (i + 1) N X Do = aCnt d mm R i N X Do + 1 := by rw [HSc.out, if_pos hba]
                  have HS2 := hid hsc2
                  clear hsc2
                  go_wp2
                  go_roundw
                  case rel => exact ⟨i + 1, by omega, by go_num, by rw [HS2.out]; go_num, HB5W.out.trans (HB12.out.mono HB5W.out.size)⟩
                  case measure => simp only [intOf]; omega
              · have hie : i = j := by omega
                subst hie
                have h1 := HFin.out
                rw [HLb.out] at h1
                clear hab
                obtain ⟨ca, hca⟩ : ∃ ca, aCnt d mm R i N X Do = ca := ⟨_, rfl⟩
                rw [hca] at h1 ⊢
                clear hca
                first
                  | (have h2 : (ca : Int) ≤ (i : Int) - (lb : Int) := by omega
                     go_wp2
                     go_ret
                     exact ⟨rfl, HB3.out.trans ((HB11.out.trans (HQ2.out.mono HB11.out.size)).mono HB3.out.size)⟩)
                  | (have h2 : (ca : Int) ≤ (i : Int) := by omega
                     go_wp2
                     go_ret
                     exact ⟨rfl, HB3.out.trans ((HB11.out.trans (HQ2.out.mono HB11.out.size)).mono HB3.out.size)⟩)
  · have hne : (mostE nd of sz n N L X != 0) = true := by simpa using he
    generalize mostE nd of sz n N L X = c at *
    obtain ⟨ar, cr, hre, _, _⟩ := hr
    subst hre
    obtain ⟨ab, cb, hbe, _, _⟩ := hbb
    subst hbe
    clear hmm he
    go_wp2_with (go_at_call 32; go_must (refine (voted_any _).mono ?_; rintro e w4 ⟨rfl, hb4⟩; have HB3 := hid (HB3.out.trans (hb4.mono HB3.out.size)); clear hb4))
    go_ret
    exact ⟨rfl, HB3.out⟩

end Go.Proofs.Ytfcpmpcfbhkacaa
