/- Several texts of one proof, in their order. -/
import Derived.Test.YtdhefajaekackaaPlSum8
import Derived.Test.YtdhefajaekackaaPlSum9
import Derived.Test.YtdhefajaekackaaPlSum16

/- A peer's error: each one that it keeps held against the one ahead in the list, then against its version's plan. -/
namespace Go.Proofs.Ytdhefajaekackaa

open Go.RowKit
set_option linter.unusedVariables false

/-- what keeps the one at place k from being kept there -/
def stepK (n : Nat) (b : Bk) (t : Kt) (k : Nat) : Int :=
  if t.V k < 0 ∨ (n : Int) ≤ t.V k then 4 else if 0 < k ∧ t.V k ≤ t.V (k - 1) then 5 else oneK b t k

theorem scanK_step {n : Nat} {b : Bk} {t : Kt} {f k : Nat} {last : Int} (hl : last = if k = 0 then -1 else t.V (k - 1)) :
    scanK n b t (f + 1) k last = if stepK n b t k = 0 then scanK n b t f (k + 1) (t.V k) else stepK n b t k := by
  by_cases c1 : t.V k < 0 ∨ (n : Int) ≤ t.V k
  · have h1 : stepK n b t k = 4 := by unfold stepK; rw [if_pos c1]
    rw [h1, if_neg (by decide)]
    simp only [scanK]
    rw [if_pos c1]
  · by_cases c2 : t.V k ≤ last
    · have c3 : 0 < k ∧ t.V k ≤ t.V (k - 1) := by
        by_cases h0 : k = 0
        · rw [if_pos h0] at hl; omega
        · rw [if_neg h0] at hl; exact ⟨by omega, by omega⟩
      have h1 : stepK n b t k = 5 := by unfold stepK; rw [if_neg c1, if_pos c3]
      rw [h1, if_neg (by decide)]
      simp only [scanK]
      rw [if_neg c1, if_pos c2]
    · have c3 : ¬ (0 < k ∧ t.V k ≤ t.V (k - 1)) := by
        rintro ⟨h0, h1⟩
        rw [if_neg (by omega)] at hl
        omega
      have h1 : stepK n b t k = oneK b t k := by unfold stepK; rw [if_neg c1, if_neg c3]
      rw [h1]
      simp only [scanK]
      rw [if_neg c1, if_neg c2]

set_option maxHeartbeats 4000000 in
theorem peOne (vb : Value) (n : Nat) (PV : Nat → Value) (b : Bk) (vk : Value) (m : Nat) (UV : Nat → Value) (t : Kt) (k : Nat) (hlt : k < m) (w : World) (hv : VeSl w w.heap.size vb n PV b) (hk : KeSl w w.heap.size vk m UV t) :
    Calls Try.prog 86 #[bookV vb, vk, .int .i64 (k : Int)] w fun e w' => e = .returned (.int .i64 (stepK n b t k)) ∧ Below w.heap.size w w' := by
  obtain ⟨ad, cap, rfl, ⟨hc, hr⟩, hX⟩ := hv
  obtain ⟨ak, capk, rfl, ⟨hck, hrk⟩, hXk⟩ := hk
  rcases hXk with h0 | ⟨bl, off, rfl, hbl, hxk⟩
  · omega
  obtain ⟨x0, x1, x2, x3⟩ := hxk k hlt
  have zq0 : ∀ k', k = k' + 1 → w.cell? ⟨bl, off + k' * 3, none⟩ = some (.int .i64 (t.V k')) := fun k' e => (hxk k' (by omega)).1
  obtain ⟨ans, hans⟩ : ∃ a, stepK n b t k = a := ⟨_, rfl⟩
  rw [hans]
  unfold stepK at hans
  have hki : (k : Int) < (m : Int) := by omega
  have hbW := below_alloc w (.cells #[.slice ad n cap] 24)
  have kb := heap_alloc_new w (.cells #[.slice ad n cap] 24)
  obtain ⟨W, hW⟩ : ∃ W, w.alloc (.cells #[.slice ad n cap] 24) = W := ⟨_, rfl⟩
  rw [hW] at hbW kb
  have HIs : Hid (∀ u, Below w.heap.size w u → IntSl u u.heap.size (UV k) (t.L k) (t.X k)) := fun u hb => x3.up hb
  obtain ⟨ap, cp, hpe, _, _⟩ := x3
  rw [hpe] at x2 HIs
  have g0 : W.cell? ⟨bl, off + k * 3, none⟩ = some (.int .i64 (t.V k)) := by rw [hbW.cell hbl]; exact x0
  have g1 : W.cell? ⟨bl, off + k * 3 + 1, none⟩ = some (.int .i64 (t.N k)) := by rw [hbW.cell hbl]; exact x1
  have g2 : W.cell? ⟨bl, off + k * 3 + 2, none⟩ = some (.slice ap (t.L k) cp) := by rw [hbW.cell hbl]; exact x2
  obtain ⟨Z, hZ⟩ : ∃ Z, W.alloc (.cells #[.int .i64 (t.V k), .int .i64 (t.N k), .slice ap (t.L k) cp] 62) = Z := ⟨_, rfl⟩
  have hbZ : Below W.heap.size W Z := by rw [← hZ]; exact below_alloc _ _
  have BZ := hid (hbW.trans (hbZ.mono hbW.size))
  obtain ⟨z0, z1, z2⟩ : Z.cell? ⟨W.heap.size, 0, none⟩ = _ ∧ Z.cell? ⟨W.heap.size, 1, none⟩ = _ ∧ Z.cell? ⟨W.heap.size, 2, none⟩ = _ := three_at (by rw [← hZ]; exact heap_alloc_new W _)
  have zb : Z.cell? ⟨w.heap.size, 0, none⟩ = some (.slice ad n cap) := by rw [hbZ.cell (Array.getElem?_eq_some_iff.1 kb).1]; exact cell_at kb rfl
  have zq : ∀ k', k = k' + 1 → Z.cell? ⟨bl, off + k' * 3, none⟩ = some (.int .i64 (t.V k')) := fun k' e => by rw [BZ.out.cell hbl]; exact zq0 k' e
  have HBk := hid hbl
  obtain ⟨x, hxx⟩ : ∃ x, t.V k = x := ⟨_, rfl⟩
  rw [hxx] at g0 z0 hans hZ
  have HX := hid hX
  have HOk : Hid (oneK b t k = oneE (b.nd x.toNat) (b.of x.toNat) (b.sz x.toNat) (t.N k) (t.L k) (t.X k)) := by show _ = _; unfold oneK; rw [hxx]
  have HXx := hid hxx
  clear x0 x1 x2 hxk hpe hbZ hxx hX kb hbW zq0 hbl
  unfold bookV
  by_cases c1 : x < 0 ∨ (n : Int) ≤ x
  · rw [if_pos c1] at hans
    have HFin := hid hans
    clear hans zq
    by_cases c2 : x < 0
    · go_enter Try.func86, Try.ntmps86
      go_wp2
      go_ret
      exact ⟨by rw [← HFin.out]; rfl, BZ.out⟩
    · have c3 : (n : Int) ≤ x := by omega
      go_enter Try.func86, Try.ntmps86
      go_wp2
      go_ret
      exact ⟨by rw [← HFin.out]; rfl, BZ.out⟩
  · rw [if_neg c1] at hans
    have c2 : ¬ x < 0 := fun h => c1 (Or.inl h)
    have c3 : ¬ (n : Int) ≤ x := fun h => c1 (Or.inr h)
    clear c1
    by_cases c4 : 0 < k ∧ x ≤ t.V (k - 1)
    · rw [if_pos c4] at hans
      have HFin := hid hans
      obtain ⟨k', rfl⟩ : ∃ k', k = k' + 1 := ⟨k - 1, by omega⟩
      have c5 := c4.2
      rw [Nat.add_sub_cancel] at c5
      have zr := zq k' rfl
      obtain ⟨last, hlast⟩ : ∃ l, t.V k' = l := ⟨_, rfl⟩
      rw [hlast] at zr c5
      have hkp : (0 : Int) < ((k' + 1 : Nat) : Int) := by omega
      have hk1 : ((k' + 1 : Nat) : Int) - 1 = (k' : Int) := by omega
      have hk2 : (k' : Int) < (m : Int) := by omega
      clear hans zq c4 hlast
      go_enter Try.func86, Try.ntmps86
      go_wp2_with fail
      go_quiet (fail)
      go_wp2
      go_ret
      exact ⟨by rw [← HFin.out]; rfl, BZ.out.trans ((drewK_below Z _).mono BZ.out.size)⟩
    · rw [if_neg c4, HOk.out] at hans
      obtain ⟨y, rfl⟩ : ∃ y : Nat, x = y := ⟨x.toNat, by omega⟩
      rw [Int.toNat_natCast] at hans
      have hyn : y < n := by omega
      have hyi : (y : Int) < (n : Int) := by omega
      rcases HX.out with h0 | ⟨bv, ov, rfl, hbv, hxv⟩
      · omega
      obtain ⟨_, v1, v2, v3, _⟩ := hxv y hyn
      have q1 : Z.cell? ⟨bv, ov + y * 4 + 1, none⟩ = some (.int .i64 (b.nd y)) := by rw [BZ.out.cell hbv]; exact v1
      have q2 : Z.cell? ⟨bv, ov + y * 4 + 2, none⟩ = some (.int .i64 (b.of y)) := by rw [BZ.out.cell hbv]; exact v2
      have q3 : Z.cell? ⟨bv, ov + y * 4 + 3, none⟩ = some (.int .i64 (b.sz y)) := by rw [BZ.out.cell hbv]; exact v3
      have hne : Nonempty (Of (Below Z.heap.size Z)) := ⟨⟨Z, Below.refl _ _⟩⟩
      have F0 : ∀ u : Of (Below Z.heap.size Z), u.val.cell? ⟨W.heap.size, 0, none⟩ = some (.int .i64 (y : Int)) := fun u => by rw [u.is.cell (cell_lt z0)]; exact z0
      have F1 : ∀ u : Of (Below Z.heap.size Z), u.val.cell? ⟨W.heap.size, 1, none⟩ = some (.int .i64 (t.N k)) := fun u => by rw [u.is.cell (cell_lt z1)]; exact z1
      have F2 : ∀ u : Of (Below Z.heap.size Z), u.val.cell? ⟨W.heap.size, 2, none⟩ = some (.slice ap (t.L k) cp) := fun u => by rw [u.is.cell (cell_lt z2)]; exact z2
      have F3 : ∀ u : Of (Below Z.heap.size Z), u.val.cell? ⟨w.heap.size, 0, none⟩ = some (.slice (some ⟨bv, ov, none⟩) n cap) := fun u => by rw [u.is.cell (cell_lt zb)]; exact zb
      have F4 : ∀ u : Of (Below Z.heap.size Z), u.val.cell? ⟨bv, ov + y * 4 + 1, none⟩ = some (.int .i64 (b.nd y)) := fun u => by rw [u.is.cell (cell_lt q1)]; exact q1
      have F5 : ∀ u : Of (Below Z.heap.size Z), u.val.cell? ⟨bv, ov + y * 4 + 2, none⟩ = some (.int .i64 (b.of y)) := fun u => by rw [u.is.cell (cell_lt q2)]; exact q2
      have F6 : ∀ u : Of (Below Z.heap.size Z), u.val.cell? ⟨bv, ov + y * 4 + 3, none⟩ = some (.int .i64 (b.sz y)) := fun u => by rw [u.is.cell (cell_lt q3)]; exact q3
      have CS : Hid (∀ u, Below Z.heap.size Z u → Calls Try.prog 109 #[planV (b.nd y) (b.of y) (b.sz y), shareV (t.N k) (.slice ap (t.L k) cp)] u fun e u' => e = .returned (.int .i64 (oneE (b.nd y) (b.of y) (b.sz y) (t.N k) (t.L k) (t.X k))) ∧ Below u.heap.size u u') := fun u hbu => shOne (b.nd y) (b.of y) (b.sz y) (t.N k) _ (t.L k) (t.X k) u (HIs.out _ (BZ.out.trans (hbu.mono BZ.out.size)))
      rw [hans] at CS
      unfold planV shareV at CS
      clear hxv hans v1 v2 v3 q1 q2 q3
      by_cases hk0 : k = 0
      · subst hk0
        have hkz : ¬ (0 : Int) < ((0 : Nat) : Int) := by omega
        simp only [Nat.zero_mul, Nat.add_zero] at g0 g1 g2
        clear zq c4
        go_enter Try.func86, Try.ntmps86
        go_wp2_with fail
        go_quiet (fail)
        go_wp2_with fail
        have HD1 : Hid (Below Z.heap.size Z (Z.drewN nq).drew) := ⟨rfl, rfl, rfl, Nat.le_refl _, fun _ _ => rfl⟩
        refine region_mixed (Below Z.heap.size Z) [([0, 1, 2, 3, 4, 5, 6, 7, 8], 9)] [10] (by kernel_rfl) (by kernel_rfl) HD1.out ?_
        refine mixO_cons (by simp only [pickO, List.getElem?_cons_zero, List.getElem?_cons_succ]; exact rfl) (by simp only [pickO, List.getElem?_cons_zero, List.getElem?_cons_succ]; exact rfl) ?_
        repeat (go_big_quiet_step (fail))
        refine wpQuiet_nil ?_
        intro K hK
        go_wp2_with fail
        refine Calls.mono (CS.out _ HD1.out) ?_
        rintro e w5 ⟨rfl, hb5⟩
        have H5 : Hid (Below Z.heap.size Z w5) := HD1.out.trans (hb5.mono HD1.out.size)
        clear hb5
        go_wp2
        refine ⟨rfl, hK _ _ H5.out ?_⟩
        clear hK K
        refine mixO_nil (by simp only [pickO, List.getElem?_cons_zero, List.getElem?_cons_succ]; exact rfl) ?_
        repeat (go_big_quiet_step (fail))
        refine wpQuiet_nil ?_
        have B5 := hid (BZ.out.trans (H5.out.mono BZ.out.size))
        clear F0 F1 F2 F3 F4 F5 F6 hne
        go_wp2
        go_ret
        exact ⟨rfl, B5.out⟩
      · obtain ⟨k', rfl⟩ : ∃ k', k = k' + 1 := ⟨k - 1, by omega⟩
        have c5 : ¬ (y : Int) ≤ t.V k' := fun h => c4 ⟨by omega, by rw [Nat.add_sub_cancel]; exact h⟩
        have zr := zq k' rfl
        obtain ⟨last, hlast⟩ : ∃ l, t.V k' = l := ⟨_, rfl⟩
        rw [hlast] at zr c5
        have hkp : (0 : Int) < ((k' + 1 : Nat) : Int) := by omega
        have hk1 : ((k' + 1 : Nat) : Int) - 1 = (k' : Int) := by omega
        have hk2 : (k' : Int) < (m : Int) := by omega
        clear zq c4 hlast hk0
        go_enter Try.func86, Try.ntmps86
        go_wp2_with fail
        go_quiet (fail)
        go_wp2_with fail
        have HD1 : Hid (Below Z.heap.size Z (Z.drewN nq).drew) := ⟨rfl, rfl, rfl, Nat.le_refl _, fun _ _ => rfl⟩
        refine region_mixed (Below Z.heap.size Z) [([0, 1, 2, 3, 4, 5, 6, 7, 8], 9)] [10] (by kernel_rfl) (by kernel_rfl) HD1.out ?_
        refine mixO_cons (by simp only [pickO, List.getElem?_cons_zero, List.getElem?_cons_succ]; exact rfl) (by simp only [pickO, List.getElem?_cons_zero, List.getElem?_cons_succ]; exact rfl) ?_
        repeat (go_big_quiet_step (fail))
        refine wpQuiet_nil ?_
        intro K hK
        go_wp2_with fail
        refine Calls.mono (CS.out _ HD1.out) ?_
        rintro e w5 ⟨rfl, hb5⟩
        have H5 : Hid (Below Z.heap.size Z w5) := HD1.out.trans (hb5.mono HD1.out.size)
        clear hb5
        go_wp2
        refine ⟨rfl, hK _ _ H5.out ?_⟩
        clear hK K
        refine mixO_nil (by simp only [pickO, List.getElem?_cons_zero, List.getElem?_cons_succ]; exact rfl) ?_
        repeat (go_big_quiet_step (fail))
        refine wpQuiet_nil ?_
        have B5 := hid (BZ.out.trans (H5.out.mono BZ.out.size))
        clear F0 F1 F2 F3 F4 F5 F6 hne
        go_wp2
        go_ret
        exact ⟨rfl, B5.out⟩

set_option maxHeartbeats 2000000 in
theorem peChecked (vb : Value) (n : Nat) (PV : Nat → Value) (b : Bk) (th : Bool) (room : Int) (vk : Value) (m : Nat) (UV : Nat → Value) (t : Kt) (w : World) (hv : VeSl w w.heap.size vb n PV b) (hk : KeSl w w.heap.size vk m UV t) :
    Calls Try.prog 39 #[bookV vb, peerV th room vk] w fun e w' => e = .returned (.int .i64 (peerE n b room m t)) ∧ Below w.heap.size w w' := by
  have HV := hid hv
  have HK := hid hk
  obtain ⟨ad, cap, rfl, _, _⟩ := hv
  obtain ⟨ak, capk, rfl, ⟨hck, hrk⟩, _⟩ := hk
  have hb0 := ((Below.refl w.heap.size w).alloc (Nat.le_refl _) (.cells #[.slice ad n cap] 24)).alloc (by simp) (.cells #[.bool th, .int .i64 room, .slice ak m capk] 58)
  have k1 := heap_two_old w (.cells #[.slice ad n cap] 24) (.cells #[.bool th, .int .i64 room, .slice ak m capk] 58)
  have k2 := heap_two_new w (.cells #[.slice ad n cap] 24) (.cells #[.bool th, .int .i64 room, .slice ak m capk] 58)
  obtain ⟨W0, hW0⟩ : ∃ W, (w.alloc (.cells #[.slice ad n cap] 24)).alloc (.cells #[.bool th, .int .i64 room, .slice ak m capk] 58) = W := ⟨_, rfl⟩
  rw [hW0] at hb0 k1 k2
  obtain ⟨ans, hans⟩ : ∃ a, peerE n b room m t = a := ⟨_, rfl⟩
  rw [hans]
  unfold peerE at hans
  have CK := hid (bkCheck _ n PV b W0 (HV.out.up hb0))
  obtain ⟨c, hcc⟩ : ∃ c, bookE n b = c := ⟨_, rfl⟩
  rw [hcc] at hans CK
  have HA := hid hans
  have B0 := hid hb0
  have K1 := hid k1
  have K2 := hid k2
  have c1 : W0.cell? ⟨w.heap.size, 0, none⟩ = some (.slice ad n cap) := cell_at k1 rfl
  clear hb0 k1 k2 hans hcc
  unfold bookV at CK
  unfold bookV peerV
  go_enter Try.func39, Try.ntmps39
  go_wp2_with fail
  refine Calls.mono CK.out ?_
  rintro e W ⟨rfl, hbW⟩
  have B1 := hid (B0.out.trans (hbW.mono B0.out.size))
  have k1 : W.heap[w.heap.size]? = some (.cells #[.slice ad n cap] 24 (0, 0)) := by rw [hbW.block _ (Array.getElem?_eq_some_iff.1 K1.out).1]; exact K1.out
  have k2 : W.heap[w.heap.size + 1]? = some (.cells #[.bool th, .int .i64 room, .slice ak m capk] 58 (0, 0)) := by rw [hbW.block _ (Array.getElem?_eq_some_iff.1 K2.out).1]; exact K2.out
  have KW1 := hid k1
  have KW2 := hid k2
  obtain ⟨p0, p1, p2⟩ := three_at k2
  clear hbW B0 K1 K2 k1 k2 c1 CK
  by_cases hc0 : c = 0
  · subst hc0
    have hA := HA.out
    rw [if_pos rfl] at hA
    by_cases hr : 0 ≤ room ∧ room ≤ 20
    · rw [if_pos hr] at hA
      have hr1 : ¬ room < 0 := by omega
      have hr2 : ¬ (20 : Int) < room := by omega
      by_cases hm : (m : Int) ≤ room
      · rw [if_pos hm] at hA
        have HA2 := hid hA
        clear hA
        have hmr : ¬ room < (m : Int) := by omega
        go_wp2
        clear p0 p1 p2
        go_loopw [30] (fun iv wr => ∃ (k : Nat) (last : Int), k ≤ m ∧ iv = .int .i64 k ∧ Hid (last = if k = 0 then -1 else t.V (k - 1)) ∧ Hid (Below W.heap.size W wr) ∧ Hid (scanK n b t (m - k) k last = ans)) (fun iv _ => m - (intOf iv).toNat)
        case atStart => exact ⟨0, -1, Nat.zero_le _, rfl, rfl, Below.refl _ _, HA2⟩
        case round =>
          obtain ⟨k, last, hk, rfl, HLast, HB, HS⟩ := hrel
          by_cases hlt : k < m
          · have hki : (k : Int) < (m : Int) := by omega
            have hstep := HS.out
            rw [show m - k = (m - (k + 1)) + 1 by omega, scanK_step HLast.out] at hstep
            have BR := hid (B1.out.trans (HB.out.mono B1.out.size))
            have g0 : wr.cell? ⟨w.heap.size, 0, none⟩ = some (.slice ad n cap) := by rw [HB.out.cell (Array.getElem?_eq_some_iff.1 KW1.out).1]; exact cell_at KW1.out rfl
            have g1 : wr.cell? ⟨w.heap.size + 1, 2, none⟩ = some (.slice ak m capk) := by rw [HB.out.cell (Array.getElem?_eq_some_iff.1 KW2.out).1]; exact (three_at KW2.out).2.2
            have CO := hid (peOne _ n PV b _ m UV t k hlt wr (HV.out.up BR.out) (HK.out.up BR.out))
            unfold bookV at CO
            obtain ⟨er, her⟩ : ∃ er, stepK n b t k = er := ⟨_, rfl⟩
            rw [her] at CO hstep
            have HSt := hid hstep
            clear her hstep
            go_wp2_with fail
            refine Calls.mono CO.out ?_
            rintro e w5 ⟨rfl, hb5⟩
            have B5 := hid (HB.out.trans (hb5.mono HB.out.size))
            clear hb5 g0 g1
            by_cases he0 : er = 0
            · subst he0
              have hs := HSt.out
              rw [if_pos rfl] at hs
              have HNx := hid hs
              clear hs
              go_wp2
              go_roundw
              case rel => exact ⟨k + 1, t.V k, by omega, by go_num, (by rw [if_neg (by omega), Nat.add_sub_cancel] : t.V k = if k + 1 = 0 then -1 else t.V (k + 1 - 1)), B5, HNx⟩
              case measure => simp only [intOf]; omega
            · have hs := HSt.out
              rw [if_neg he0] at hs
              have heb : (er != 0) = true := by simpa using he0
              have HFin := hid hs
              clear hs he0
              go_wp2
              go_ret
              exact ⟨by rw [← HFin.out]; rfl, B1.out.trans (B5.out.mono B1.out.size)⟩
          · have hke : m = k := by omega
            subst hke
            have hst := HS.out
            rw [Nat.sub_self] at hst
            have HFin : Hid ((0 : Int) = ans) := hst
            clear hst
            go_wp2
            go_ret
            exact ⟨by rw [← HFin.out]; rfl, B1.out.trans (HB.out.mono B1.out.size)⟩
      · rw [if_neg hm] at hA
        have HFin := hid hA
        have hmr : room < (m : Int) := by omega
        clear hA hm
        go_wp2
        go_ret
        exact ⟨by rw [← HFin.out]; rfl, B1.out⟩
    · rw [if_neg hr] at hA
      have HFin := hid hA
      clear hA
      by_cases hr1 : room < 0
      · clear hr
        go_wp2
        go_ret
        exact ⟨by rw [← HFin.out]; rfl, B1.out⟩
      · have hr2 : (20 : Int) < room := by omega
        clear hr
        go_wp2
        go_ret
        exact ⟨by rw [← HFin.out]; rfl, B1.out⟩
  · have hA := HA.out
    rw [if_neg hc0] at hA
    have hcb : (c != 0) = true := by simpa using hc0
    have HFin := hid hA
    clear hA hc0
    go_wp2
    go_ret
    exact ⟨by rw [← HFin.out]; rfl, B1.out⟩

end Go.Proofs.Ytdhefajaekackaa
