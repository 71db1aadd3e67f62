/- Several texts of one proof, in their order. -/
import Derived.Test.YtdhefajaekackaaPrSum4

/- What chapter 7's reference answers: a peer's error, where it keeps a version, are two peers alike? -/
namespace Go.Proofs.Ytdhefajaekackaa

open Go.RowKit
set_option linter.unusedVariables false

theorem three_at {w : World} {g : Nat} {T : TypeId} {u0 u1 u2 : Value} (h : w.heap[g]? = some (.cells #[u0, u1, u2] T (0, 0))) :
    w.cell? ⟨g, 0, none⟩ = some u0 ∧ w.cell? ⟨g, 1, none⟩ = some u1 ∧ w.cell? ⟨g, 2, none⟩ = some u2 := ⟨cell_at h rfl, cell_at h rfl, cell_at h rfl⟩

set_option maxHeartbeats 2000000 in
theorem atPeer_any (th : Bool) (room : Int) (v : Value) (m : Nat) (UV : Nat → Value) (t : Kt) (ver : Int) (w : World) (h : KeSl w w.heap.size v m UV t) :
    Calls Try.prog 41 #[peerV th room v, .int .i64 ver] w fun e w' => e = .returned (.int .i64 (fstAt t.V ver m 0)) ∧ Below w.heap.size w w' := by
  obtain ⟨ad, cap, rfl, ⟨hcap, hbig⟩, hx⟩ := h
  have hbx := below_alloc w (.cells #[.bool th, .int .i64 room, .slice ad m cap] 58)
  have HBx := hid hbx
  have HX := hid hx
  obtain ⟨ans, hans⟩ : ∃ a, fstAt t.V ver m 0 = a := ⟨_, rfl⟩
  rw [hans]
  have HA := hid hans
  clear hbx hx hans
  unfold peerV
  go_enter Try.func41, Try.ntmps41
  go_wp2
  go_loopw [10] (fun iv wr => ∃ k : Nat, k ≤ m ∧ iv = .int .i64 k ∧ Hid (Below w.heap.size w wr) ∧ Hid (fstAt t.V ver (m - k) k = ans)) (fun iv _ => m - (intOf iv).toNat)
  case atStart => exact ⟨0, Nat.zero_le _, rfl, HBx, HA⟩
  case round =>
    obtain ⟨k, hk, rfl, HB, HS⟩ := hrel
    by_cases hlt : k < m
    · have hki : (k : Int) < (m : Int) := by omega
      rcases HX.out with h0 | ⟨bl, off, rfl, hbl, hx⟩
      · omega
      obtain ⟨x0, x1, x2, x3⟩ := hx k hlt
      have hstep := HS.out
      rw [show m - k = (m - (k + 1)) + 1 by omega] at hstep
      simp only [fstAt] at hstep
      obtain ⟨ap, cp, hpe, _, _⟩ := x3
      rw [hpe] at x2
      have g0 : wr.cell? ⟨bl, off + k * 3, none⟩ = some (.int .i64 (t.V k)) := by rw [HB.out.cell hbl]; exact x0
      have g1 : wr.cell? ⟨bl, off + k * 3 + 1, none⟩ = some (.int .i64 (t.N k)) := by rw [HB.out.cell hbl]; exact x1
      have g2 : wr.cell? ⟨bl, off + k * 3 + 2, none⟩ = some (.slice ap (t.L k) cp) := by rw [HB.out.cell hbl]; exact x2
      have hbA := below_alloc wr (.cells #[.int .i64 (t.V k), .int .i64 (t.N k), .slice ap (t.L k) cp] 62)
      have HBW := hid (HB.out.trans (hbA.mono HB.out.size))
      obtain ⟨x, hxx⟩ : ∃ x, t.V k = x := ⟨_, rfl⟩
      rw [hxx] at g0 hstep HBW
      clear x0 x1 x2 hx hpe hbA hxx
      by_cases hv : ver = x
      · rw [if_pos hv] at hstep
        have hve : (x == ver) = true := by rw [beq_iff_eq]; exact hv.symm
        have HFin := hid hstep
        clear hstep hv
        go_wp2
        go_ret
        exact ⟨by rw [← HFin.out]; rfl, HBW.out⟩
      · rw [if_neg hv] at hstep
        have hve : (x == ver) = false := by rw [beq_eq_false_iff_ne]; exact fun h => hv h.symm
        have HNx := hid hstep
        clear hstep hv
        go_wp2
        go_roundw
        case rel => exact ⟨k + 1, by omega, by go_num, HBW, HNx⟩
        case measure => simp only [intOf]; omega
    · have hke : m = k := by omega
      subst hke
      have hst := HS.out
      rw [Nat.sub_self] at hst
      have HFin : Hid ((-1 : Int) = ans) := hst
      clear hst
      go_wp2
      go_ret
      exact ⟨by rw [← HFin.out]; rfl, HB.out⟩

set_option maxHeartbeats 4000000 in
theorem checkPeer_any (vb : Value) (n : Nat) (PV : Nat → Value) (b : Bk) (th : Bool) (room : Int) (vk : Value) (m : Nat) (UV : Nat → Value) (t : Kt) (w : World) (hv : VeSl w w.heap.size vb n PV b) (hk : KeSl w w.heap.size vk m UV t) :
    Calls Try.prog 37 #[bookV vb, peerV th room vk] w fun e w' => e = .returned (.int .i64 (peerE n b room m t)) ∧ Below w.heap.size w w' := by
  have HV := hid hv
  have HKe := hid hk
  obtain ⟨ad, cap, rfl, ⟨hcap, hbig⟩, hx⟩ := hv
  obtain ⟨ak, capk, rfl, ⟨hcapk, hbigk⟩, hxk⟩ := hk
  have hb0 := ((Below.refl w.heap.size w).alloc (Nat.le_refl _) (.cells #[.slice ad n cap] 24)).alloc (by simp) (.cells #[.bool th, .int .i64 room, .slice ak m capk] 58)
  have k1 := heap_two_old w (.cells #[.slice ad n cap] 24) (.cells #[.bool th, .int .i64 room, .slice ak m capk] 58)
  have k2 := heap_two_new w (.cells #[.slice ad n cap] 24) (.cells #[.bool th, .int .i64 room, .slice ak m capk] 58)
  obtain ⟨U, hU⟩ : ∃ U, (w.alloc (.cells #[.slice ad n cap] 24)).alloc (.cells #[.bool th, .int .i64 room, .slice ak m capk] 58) = U := ⟨_, rfl⟩
  rw [hU] at hb0 k1 k2
  have B0 := hid hb0
  have K1 := hid k1
  have K2 := hid k2
  have HX := hid hx
  have HXk := hid hxk
  obtain ⟨ans, hans⟩ : ∃ a, peerE n b room m t = a := ⟨_, rfl⟩
  rw [hans]
  unfold peerE at hans
  obtain ⟨c, hc⟩ : ∃ c, bookE n b = c := ⟨_, rfl⟩
  have CK := hid (checkBook_any _ n PV b U (HV.out.up hb0))
  rw [hc] at CK hans
  have HA := hid hans
  have c1 := cell_at (i := 0) k1 rfl
  clear hb0 k1 k2 hx hxk hans
  unfold bookV at CK
  unfold bookV peerV
  go_enter Try.func37, Try.ntmps37
  go_wp2_with fail
  refine Calls.mono CK.out ?_
  rintro e W ⟨rfl, hbW⟩
  have B1 := hid (B0.out.trans (hbW.mono B0.out.size))
  have k1 : W.heap[w.heap.size]? = some (.cells #[.slice ad n cap] 24 (0, 0)) := by rw [hbW.block _ (Array.getElem?_eq_some_iff.1 K1.out).1]; exact K1.out
  have k2 : W.heap[w.heap.size + 1]? = some (.cells #[.bool th, .int .i64 room, .slice ak m capk] 58 (0, 0)) := by rw [hbW.block _ (Array.getElem?_eq_some_iff.1 K2.out).1]; exact K2.out
  have KW1 := hid k1
  have KW2 := hid k2
  obtain ⟨p0, p1, p2⟩ := three_at k2
  clear hbW B0 K1 K2 k1 k2 c1 CK
  by_cases hc0 : c = 0
  · subst hc0
    have hA := HA.out
    rw [if_pos rfl] at hA
    have CI := hid (in_any room 0 20 W)
    by_cases hr : 0 ≤ room ∧ room ≤ 20
    · rw [if_pos hr] at hA
      rw [decide_eq_true hr] at CI
      by_cases hm : (m : Int) ≤ room
      · rw [if_pos hm] at hA
        have HA2 := hid hA
        clear hA
        go_wp2_with fail
        refine Calls.mono CI.out ?_
        rintro e w2 ⟨rfl, hw2⟩
        subst w2
        go_wp2
        clear p0 p1 p2 CI
        go_loopw [6, 28] (fun lv iv wr => ∃ (k : Nat) (last : Int), k ≤ m ∧ iv = .int .i64 k ∧ lv = .int .i64 last ∧ Hid (Below W.heap.size W wr) ∧ Hid (scanK n b t (m - k) k last = ans)) (fun _ iv _ => m - (intOf iv).toNat)
        case atStart => exact ⟨0, -1, Nat.zero_le _, rfl, rfl, Below.refl _ _, HA2⟩
        case round =>
          obtain ⟨k, last, hk, rfl, rfl, HB, HS⟩ := hrel
          by_cases hlt : k < m
          · have hki : (k : Int) < (m : Int) := by omega
            rcases HXk.out with h0 | ⟨bl, off, rfl, hbl, hxk⟩
            · omega
            obtain ⟨x0, x1, x2, x3⟩ := hxk k hlt
            have hstep := HS.out
            rw [show m - k = (m - (k + 1)) + 1 by omega] at hstep
            simp only [scanK] at hstep
            have BR := hid (B1.out.trans (HB.out.mono B1.out.size))
            have HIs : Hid (∀ u, Below w.heap.size w u → IntSl u u.heap.size (UV k) (t.L k) (t.X k)) := fun u hb => x3.up hb
            obtain ⟨ap, cp, hpe, _, _⟩ := x3
            rw [hpe] at x2 HIs
            have g0 : wr.cell? ⟨bl, off + k * 3, none⟩ = some (.int .i64 (t.V k)) := by rw [BR.out.cell hbl]; exact x0
            have g1 : wr.cell? ⟨bl, off + k * 3 + 1, none⟩ = some (.int .i64 (t.N k)) := by rw [BR.out.cell hbl]; exact x1
            have g2 : wr.cell? ⟨bl, off + k * 3 + 2, none⟩ = some (.slice ap (t.L k) cp) := by rw [BR.out.cell hbl]; exact x2
            obtain ⟨Z, hZ⟩ : ∃ Z, wr.alloc (.cells #[.int .i64 (t.V k), .int .i64 (t.N k), .slice ap (t.L k) cp] 62) = Z := ⟨_, rfl⟩
            have hbZ : Below wr.heap.size wr Z := by rw [← hZ]; exact below_alloc _ _
            have hWZ := HB.out.trans (hbZ.mono HB.out.size)
            have HBZ := hid hWZ
            have BZ := hid (B1.out.trans (hWZ.mono B1.out.size))
            obtain ⟨z0, z1, z2⟩ : Z.cell? ⟨wr.heap.size, 0, none⟩ = _ ∧ Z.cell? ⟨wr.heap.size, 1, none⟩ = _ ∧ Z.cell? ⟨wr.heap.size, 2, none⟩ = _ := three_at (by rw [← hZ]; exact heap_alloc_new wr _)
            have zb : Z.cell? ⟨w.heap.size, 0, none⟩ = some (.slice ad n cap) := by rw [hWZ.cell (Array.getElem?_eq_some_iff.1 KW1.out).1]; exact cell_at KW1.out rfl
            obtain ⟨x, hxx⟩ : ∃ x, t.V k = x := ⟨_, rfl⟩
            rw [hxx] at g0 z0 hstep hZ
            have HOk : Hid (oneK b t k = oneE (b.nd x.toNat) (b.of x.toNat) (b.sz x.toNat) (t.N k) (t.L k) (t.X k)) := by show _ = _; unfold oneK; rw [hxx]
            clear x0 x1 x2 hxk hpe hbZ hWZ hxx
            by_cases c1 : x < 0 ∨ (n : Int) ≤ x
            · rw [if_pos c1] at hstep
              have HFin := hid hstep
              clear hstep
              by_cases c2 : x < 0
              · go_wp2
                go_ret
                exact ⟨by rw [← HFin.out]; rfl, BZ.out⟩
              · have c3 : (n : Int) ≤ x := by omega
                go_wp2
                go_ret
                exact ⟨by rw [← HFin.out]; rfl, BZ.out⟩
            · rw [if_neg c1] at hstep
              have c2 : ¬ x < 0 := fun h => c1 (Or.inl h)
              have c3 : ¬ (n : Int) ≤ x := fun h => c1 (Or.inr h)
              by_cases c4 : x ≤ last
              · rw [if_pos c4] at hstep
                have HFin := hid hstep
                clear hstep c1
                go_wp2
                go_ret
                exact ⟨by rw [← HFin.out]; rfl, BZ.out⟩
              · rw [if_neg c4] at hstep
                rw [HOk.out] at hstep
                obtain ⟨y, rfl⟩ : ∃ y : Nat, x = y := ⟨x.toNat, by omega⟩
                rw [Int.toNat_natCast] at hstep
                have hyn : y < n := by omega
                have hyi : (y : Int) < (n : Int) := by omega
                rcases HX.out with h0 | ⟨bv, ov, rfl, hbv, hxv⟩
                · omega
                obtain ⟨_, v1, v2, v3, _⟩ := hxv y hyn
                have q1 : Z.cell? ⟨bv, ov + y * 4 + 1, none⟩ = some (.int .i64 (b.nd y)) := by rw [BZ.out.cell hbv]; exact v1
                have q2 : Z.cell? ⟨bv, ov + y * 4 + 2, none⟩ = some (.int .i64 (b.of y)) := by rw [BZ.out.cell hbv]; exact v2
                have q3 : Z.cell? ⟨bv, ov + y * 4 + 3, none⟩ = some (.int .i64 (b.sz y)) := by rw [BZ.out.cell hbv]; exact v3
                have hne : Nonempty (Of (Below Z.heap.size Z)) := ⟨⟨Z, Below.refl _ _⟩⟩
                have F0 : ∀ u : Of (Below Z.heap.size Z), u.val.cell? ⟨wr.heap.size, 0, none⟩ = some (.int .i64 (y : Int)) := fun u => by rw [u.is.cell (cell_lt z0)]; exact z0
                have F1 : ∀ u : Of (Below Z.heap.size Z), u.val.cell? ⟨wr.heap.size, 1, none⟩ = some (.int .i64 (t.N k)) := fun u => by rw [u.is.cell (cell_lt z1)]; exact z1
                have F2 : ∀ u : Of (Below Z.heap.size Z), u.val.cell? ⟨wr.heap.size, 2, none⟩ = some (.slice ap (t.L k) cp) := fun u => by rw [u.is.cell (cell_lt z2)]; exact z2
                have F3 : ∀ u : Of (Below Z.heap.size Z), u.val.cell? ⟨w.heap.size, 0, none⟩ = some (.slice (some ⟨bv, ov, none⟩) n cap) := fun u => by rw [u.is.cell (cell_lt zb)]; exact zb
                have F4 : ∀ u : Of (Below Z.heap.size Z), u.val.cell? ⟨bv, ov + y * 4 + 1, none⟩ = some (.int .i64 (b.nd y)) := fun u => by rw [u.is.cell (cell_lt q1)]; exact q1
                have F5 : ∀ u : Of (Below Z.heap.size Z), u.val.cell? ⟨bv, ov + y * 4 + 2, none⟩ = some (.int .i64 (b.of y)) := fun u => by rw [u.is.cell (cell_lt q2)]; exact q2
                have F6 : ∀ u : Of (Below Z.heap.size Z), u.val.cell? ⟨bv, ov + y * 4 + 3, none⟩ = some (.int .i64 (b.sz y)) := fun u => by rw [u.is.cell (cell_lt q3)]; exact q3
                have HD1 : Hid (Below Z.heap.size Z Z.drew) := ⟨rfl, rfl, rfl, Nat.le_refl _, fun _ _ => rfl⟩
                have CS := hid (checkShare_any (b.nd y) (b.of y) (b.sz y) (t.N k) _ (t.L k) (t.X k) Z.drew (HIs.out _ (BZ.out.trans (HD1.out.mono BZ.out.size))))
                obtain ⟨er, her⟩ : ∃ er, oneE (b.nd y) (b.of y) (b.sz y) (t.N k) (t.L k) (t.X k) = er := ⟨_, rfl⟩
                rw [her] at CS hstep
                have HSt := hid hstep
                unfold planV shareV at CS
                clear hxv hstep her c1 v1 v2 v3 q1 q2 q3
                go_wp2_with fail
                refine region_mixed (Below Z.heap.size Z) [([0, 1, 2, 3, 4, 5, 6, 7, 8], 9)] [10] (by kernel_rfl) (by kernel_rfl) HD1.out ?_
                refine mixO_cons (by simp only [pickO, List.getElem?_cons_zero, List.getElem?_cons_succ]; exact rfl) (by simp only [pickO, List.getElem?_cons_zero, List.getElem?_cons_succ]; exact rfl) ?_
                repeat (go_big_quiet_step (fail))
                refine wpQuiet_nil ?_
                intro K hK
                go_wp2_with fail
                refine Calls.mono CS.out ?_
                rintro e w5 ⟨rfl, hb5⟩
                have H5 : Hid (Below Z.heap.size Z w5) := HD1.out.trans (hb5.mono HD1.out.size)
                clear hb5
                go_wp2
                refine ⟨rfl, hK _ _ H5.out ?_⟩
                clear hK K
                refine mixO_nil (by simp only [pickO, List.getElem?_cons_zero, List.getElem?_cons_succ]; exact rfl) ?_
                repeat (go_big_quiet_step (fail))
                refine wpQuiet_nil ?_
                have B5 := hid (HBZ.out.trans (H5.out.mono HBZ.out.size))
                clear F0 F1 F2 F3 F4 F5 F6 hne
                by_cases he0 : er = 0
                · subst he0
                  have hs := HSt.out
                  rw [if_pos rfl] at hs
                  have HNx := hid hs
                  clear hs
                  go_wp2
                  go_roundw
                  case rel => exact ⟨k + 1, (y : Int), by omega, by go_num, rfl, B5, HNx⟩
                  case measure => simp only [intOf]; omega
                · have hs := HSt.out
                  rw [if_neg he0] at hs
                  have heb : (er != 0) = true := by simpa using he0
                  have HFin := hid hs
                  clear hs he0
                  go_wp2
                  go_ret
                  exact ⟨by rw [← HFin.out]; rfl, B1.out.trans (B5.out.mono B1.out.size)⟩
          · have hke : m = k := by omega
            subst hke
            have hst := HS.out
            rw [Nat.sub_self] at hst
            have HFin : Hid ((0 : Int) = ans) := hst
            clear hst
            go_wp2
            go_ret
            exact ⟨by rw [← HFin.out]; rfl, B1.out.trans (HB.out.mono B1.out.size)⟩
      · rw [if_neg hm] at hA
        have HFin := hid hA
        have hmr : room < (m : Int) := by omega
        clear hA hm
        go_wp2_with fail
        refine Calls.mono CI.out ?_
        rintro e w2 ⟨rfl, hw2⟩
        subst w2
        go_wp2
        go_ret
        exact ⟨by rw [← HFin.out]; rfl, B1.out⟩
    · rw [if_neg hr] at hA
      rw [decide_eq_false hr] at CI
      have HFin := hid hA
      clear hA
      go_wp2_with fail
      refine Calls.mono CI.out ?_
      rintro e w2 ⟨rfl, hw2⟩
      subst w2
      go_wp2
      go_ret
      exact ⟨by rw [← HFin.out]; rfl, B1.out⟩
  · have hA := HA.out
    rw [if_neg hc0] at hA
    have hcb : (c != 0) = true := by simpa using hc0
    have HFin := hid hA
    clear hA hc0
    go_wp2
    go_ret
    exact ⟨by rw [← HFin.out]; rfl, B1.out⟩

end Go.Proofs.Ytdhefajaekackaa

/- The family that the closed facts of chapter 7 on speak of. -/
namespace Go.Proofs.Ytdhefajaekackaa

open Go.RowKit
set_option linter.unusedVariables false

/-- the family -/
def famB : Bk := ⟨fun j => [0, 1, 1, 2, 1].getD j 0, fun j i => ([[], [0], [0], [1, 2], [2]].getD j []).getD i 0, fun _ => 1, fun _ => 1, fun _ => 1⟩

theorem heap_if (w : World) (o : Obj) (i : Nat) : (w.alloc o).heap[i]? = if i = w.heap.size then some o else w.heap[i]? := by
  simp only [World.alloc, Array.getElem?_push]

/-- the lists of parents, as values -/
def famP (s j : Nat) : Value := [.slice none 0 0, .slice (some ⟨s + 1 + 1, 0, none⟩) 1 1, .slice (some ⟨s + 1 + 1 + 1, 0, none⟩) 1 1, .slice (some ⟨s + 1 + 1 + 1 + 1, 0, none⟩) 2 2, .slice (some ⟨s + 1 + 1 + 1 + 1 + 1, 0, none⟩) 1 1].getD j undef

/-- the family's memory -/
def famW (w : World) : World :=
  ((((((w.alloc (.cells #[.slice (some ⟨w.heap.size + 1 + 1 + 1 + 1 + 1 + 1, 0, none⟩) 5 5] 24)).alloc (.cells #[.int .i64 1, .int .i64 1, .int .i64 1] 27)).alloc (.cells #[.int .i64 0] 3)).alloc (.cells #[.int .i64 0] 3)).alloc (.cells #[.int .i64 1, .int .i64 2] 3)).alloc (.cells #[.int .i64 2] 3)).alloc
    (.cells #[.slice none 0 0, .int .i64 1, .int .i64 1, .int .i64 1, .slice (some ⟨w.heap.size + 1 + 1, 0, none⟩) 1 1, .int .i64 1, .int .i64 1, .int .i64 1, .slice (some ⟨w.heap.size + 1 + 1 + 1, 0, none⟩) 1 1, .int .i64 1, .int .i64 1, .int .i64 1, .slice (some ⟨w.heap.size + 1 + 1 + 1 + 1, 0, none⟩) 2 2, .int .i64 1, .int .i64 1, .int .i64 1, .slice (some ⟨w.heap.size + 1 + 1 + 1 + 1 + 1, 0, none⟩) 1 1, .int .i64 1, .int .i64 1, .int .i64 1] 29)

theorem famW_below (w : World) : Below w.heap.size w (famW w) := by
  unfold famW
  refine ((((((Below.refl w.heap.size w).alloc (Nat.le_refl _) _).alloc ?_ _).alloc ?_ _).alloc ?_ _).alloc ?_ _).alloc ?_ _ |>.alloc ?_ _ <;> simp <;> omega

theorem famW_at (w : World) : (famW w).heap[w.heap.size]? = some (.cells #[.slice (some ⟨w.heap.size + 1 + 1 + 1 + 1 + 1 + 1, 0, none⟩) 5 5] 24 (0, 0)) ∧
    (famW w).heap[w.heap.size + 1 + 1]? = some (.cells #[.int .i64 0] 3 (0, 0)) ∧ (famW w).heap[w.heap.size + 1 + 1 + 1]? = some (.cells #[.int .i64 0] 3 (0, 0)) ∧
    (famW w).heap[w.heap.size + 1 + 1 + 1 + 1]? = some (.cells #[.int .i64 1, .int .i64 2] 3 (0, 0)) ∧ (famW w).heap[w.heap.size + 1 + 1 + 1 + 1 + 1]? = some (.cells #[.int .i64 2] 3 (0, 0)) ∧
    (famW w).heap[w.heap.size + 1 + 1 + 1 + 1 + 1 + 1]? = some (.cells #[.slice none 0 0, .int .i64 1, .int .i64 1, .int .i64 1, .slice (some ⟨w.heap.size + 1 + 1, 0, none⟩) 1 1, .int .i64 1, .int .i64 1, .int .i64 1, .slice (some ⟨w.heap.size + 1 + 1 + 1, 0, none⟩) 1 1, .int .i64 1, .int .i64 1, .int .i64 1, .slice (some ⟨w.heap.size + 1 + 1 + 1 + 1, 0, none⟩) 2 2, .int .i64 1, .int .i64 1, .int .i64 1, .slice (some ⟨w.heap.size + 1 + 1 + 1 + 1 + 1, 0, none⟩) 1 1, .int .i64 1, .int .i64 1, .int .i64 1] 29 (0, 0)) := by
  unfold famW
  refine ⟨?_, ?_, ?_, ?_, ?_, ?_⟩
  · rw [heap_if, if_neg (by simp <;> omega), heap_if, if_neg (by simp <;> omega), heap_if, if_neg (by simp <;> omega), heap_if, if_neg (by simp <;> omega), heap_if, if_neg (by simp <;> omega), heap_if, if_neg (by simp <;> omega), heap_if, if_pos (by simp)]
  · rw [heap_if, if_neg (by simp <;> omega), heap_if, if_neg (by simp <;> omega), heap_if, if_neg (by simp <;> omega), heap_if, if_neg (by simp <;> omega), heap_if, if_pos (by simp)]
  · rw [heap_if, if_neg (by simp <;> omega), heap_if, if_neg (by simp <;> omega), heap_if, if_neg (by simp <;> omega), heap_if, if_pos (by simp)]
  · rw [heap_if, if_neg (by simp <;> omega), heap_if, if_neg (by simp <;> omega), heap_if, if_pos (by simp)]
  · rw [heap_if, if_neg (by simp <;> omega), heap_if, if_pos (by simp)]
  · rw [heap_if, if_pos (by simp)]

theorem isl_lit1 {w : World} {g : Nat} {x : Int} {T : TypeId} (h : w.heap[g]? = some (.cells #[.int .i64 x] T (0, 0))) : IntSl w w.heap.size (.slice (some ⟨g, 0, none⟩) 1 1) 1 (fun i => [x].getD i 0) :=
  intSl_lit (l := [x]) h rfl (Array.getElem?_eq_some_iff.1 h).1 (by simp)

theorem isl_lit2 {w : World} {g : Nat} {x y : Int} {T : TypeId} (h : w.heap[g]? = some (.cells #[.int .i64 x, .int .i64 y] T (0, 0))) : IntSl w w.heap.size (.slice (some ⟨g, 0, none⟩) 2 2) 2 (fun i => [x, y].getD i 0) :=
  intSl_lit (l := [x, y]) h rfl (Array.getElem?_eq_some_iff.1 h).1 (by simp)

theorem famW_ve (w : World) : VeSl (famW w) (famW w).heap.size (.slice (some ⟨w.heap.size + 1 + 1 + 1 + 1 + 1 + 1, 0, none⟩) 5 5) 5 (famP w.heap.size) famB := by
  obtain ⟨h0, h1, h2, h3, h4, h5⟩ := famW_at w
  refine ⟨_, _, rfl, ⟨Nat.le_refl _, by omega⟩, Or.inr ⟨_, 0, rfl, (Array.getElem?_eq_some_iff.1 h5).1, fun j hj => ?_⟩⟩
  match j, hj with
  | 0, _ => exact ⟨cell_at h5 rfl, cell_at h5 rfl, cell_at h5 rfl, cell_at h5 rfl, none, 0, rfl, ⟨Nat.le_refl _, by decide⟩, Or.inl rfl⟩
  | 1, _ => exact ⟨cell_at h5 rfl, cell_at h5 rfl, cell_at h5 rfl, cell_at h5 rfl, isl_lit1 h1⟩
  | 2, _ => exact ⟨cell_at h5 rfl, cell_at h5 rfl, cell_at h5 rfl, cell_at h5 rfl, isl_lit1 h2⟩
  | 3, _ => exact ⟨cell_at h5 rfl, cell_at h5 rfl, cell_at h5 rfl, cell_at h5 rfl, isl_lit2 h3⟩
  | 4, _ => exact ⟨cell_at h5 rfl, cell_at h5 rfl, cell_at h5 rfl, cell_at h5 rfl, isl_lit1 h4⟩

set_option maxHeartbeats 1000000 in
theorem family_any (w : World) : Calls Try.prog 60 #[] w fun e w' => Below w.heap.size w w' ∧ ∃ bl PV, e = .returned (bookV (.slice (some ⟨bl, 0, none⟩) 5 5)) ∧ VeSl w' w'.heap.size (.slice (some ⟨bl, 0, none⟩) 5 5) 5 PV famB := by
  go_enter Try.func60, Try.ntmps60
  go_wp2
  refine bodyPost_ret (results_cell_row rfl _ (famW w) w.heap.size 24 #[.slice (some ⟨w.heap.size + 1 + 1 + 1 + 1 + 1 + 1, 0, none⟩) 5 5] (0, 0) _ rfl (famW_at w).1 Try.underlying24 rfl (by kernel_rfl)) rfl ?_
  exact ⟨famW_below w, _, _, rfl, famW_ve w⟩

end Go.Proofs.Ytdhefajaekackaa
