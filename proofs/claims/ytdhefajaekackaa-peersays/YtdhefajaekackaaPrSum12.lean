/- Several texts of one proof, in their order. -/
import Derived.Test.YtdhefajaekackaaPrSum11

/- The closed fact that chapter 7's laws ask first, of a package that does what it owes. -/
namespace Go.Proofs.Ytdhefajaekackaa

open Go.RowKit
set_option linter.unusedVariables false

/-- what Keep answers, opened -/
theorem keepPost_open {w : World} {n : Nat} {b : Bk} {th : Bool} {room : Int} {m : Nat} {t : Kt} {ver N : Int} {L : Nat} {X : Nat → Int} {e : Ending} {w' : World} (h : KeepPost w n b th room m t ver N L X e w') :
    Below w.heap.size w w' ∧ ∃ (er : Int) (th' : Bool) (room' : Int) (a : Option Addr) (m' c : Nat) (UV' : Nat → Value) (t' : Kt), e = .returned (.tuple #[.agg #[.bool th', .int .i64 room', .slice a m' c], .int .i64 er]) ∧ KeSl w' w'.heap.size (.slice a m' c) m' UV' t' ∧ KeepsTo n b th room m t ver N L X er th' room' m' t' := by
  obtain ⟨h1, er, th', room', r, m', UV', t', he, hk, hto⟩ := h
  obtain ⟨a, c, rfl, h2, h3⟩ := hk
  exact ⟨h1, er, th', room', a, m', c, UV', t', he, ⟨a, c, rfl, h2, h3⟩, hto⟩

theorem dropPost_open {w : World} {n : Nat} {b : Bk} {th : Bool} {room : Int} {m : Nat} {t : Kt} {ver : Int} {e : Ending} {w' : World} (h : DropPost w n b th room m t ver e w') :
    Below w.heap.size w w' ∧ ∃ (er : Int) (th' : Bool) (room' : Int) (a : Option Addr) (m' c : Nat) (UV' : Nat → Value) (t' : Kt), e = .returned (.tuple #[.agg #[.bool th', .int .i64 room', .slice a m' c], .int .i64 er]) ∧ KeSl w' w'.heap.size (.slice a m' c) m' UV' t' ∧ DropsTo n b th room m t ver er th' room' m' t' := by
  obtain ⟨h1, er, th', room', r, m', UV', t', he, hk, hto⟩ := h
  obtain ⟨a, c, rfl, h2, h3⟩ := hk
  exact ⟨h1, er, th', room', a, m', c, UV', t', he, ⟨a, c, rfl, h2, h3⟩, hto⟩

/-- nothing is kept -/
def t0 : Kt := ⟨fun _ => 0, fun _ => 0, fun _ => 0, fun _ _ => 0⟩

/-- block g holds a peer of room for two, with what it keeps -/
def PeAt (w : World) (g m : Nat) (a : Option Addr) (c : Nat) (t : Kt) : Prop :=
  w.heap[g]? = some (.cells #[.bool false, .int .i64 2, .slice a m c] 58 (0, 0)) ∧ ∃ UV, KeSl w w.heap.size (.slice a m c) m UV t

theorem PeAt.up {w w' : World} {g m : Nat} {a : Option Addr} {c : Nat} {t : Kt} (h : PeAt w g m a c t) (hb : Below w.heap.size w w') : PeAt w' g m a c t := by
  obtain ⟨h1, UV, h2⟩ := h
  exact ⟨by rw [hb.block _ (Array.getElem?_eq_some_iff.1 h1).1]; exact h1, UV, h2.up hb⟩

theorem PeAt.cells {w : World} {g m : Nat} {a : Option Addr} {c : Nat} {t : Kt} (h : PeAt w g m a c t) : w.cell? ⟨g, 0, none⟩ = some (.bool false) ∧ w.cell? ⟨g, 1, none⟩ = some (.int .i64 2) ∧ w.cell? ⟨g, 2, none⟩ = some (.slice a m c) := three_at h.1

theorem st2_x (t : Kt) : ∀ j, j < 2 → ∀ i, i < (st2 t).L j → (st2 t).X j i = 7 := by
  intro j hj i hi
  match j, hj with
  | 0, _ => match i, hi with
    | 0, _ => rfl
    | i + 1, hi => exact absurd (show i + 1 < 1 from hi) (by omega)
  | 1, _ => match i, hi with
    | 0, _ => rfl
    | i + 1, hi => exact absurd (show i + 1 < 1 from hi) (by omega)

theorem st3_x (t : Kt) : ∀ j, j < 1 → ∀ i, i < (st3 t).L j → (st3 t).X j i = 7 := by
  intro j hj i hi
  match j, hj with
  | 0, _ => match i, hi with
    | 0, _ => rfl
    | i + 1, hi => exact absurd (show i + 1 < 1 from hi) (by omega)

/-- what is kept stays where a peer of another kind of cells is written -/
theorem kel_put {w : World} {g : Nat} {z : Int} {a : Option Addr} {m0 c0 : Nat} {u0 u1 u2 v : Value} {m : Nat} {UV : Nat → Value} {t : Kt} {T : TypeId} (h : KeSl w w.heap.size v m UV t) (hX : ∀ j, j < m → ∀ i, i < t.L j → t.X j i = 7) (hz : z ≠ 7) (hg : w.heap[g]? = some (.cells #[.bool false, .int .i64 z, .slice a m0 c0] T (0, 0))) :
    KeSl (put3 w g u0 u1 u2) (put3 w g u0 u1 u2).heap.size v m UV t := by
  have hs : (put3 w g u0 u1 u2).heap.size = w.heap.size := by simp [put3, World.setCell]
  have hin : ∀ (o : Nat) (y : Int), w.cell? ⟨g, o, none⟩ = some (.int .i64 y) → o = 1 ∧ y = z := fun o y hc => by
    rw [World.cell?, hg] at hc
    match o, hc with
    | 0, hc => simp at hc
    | 1, hc => simp at hc; exact ⟨rfl, hc.symm⟩
    | 2, hc => simp at hc
    | o + 3, hc => simp at hc
  have hne : ∀ {b o : Nat} {u : Value}, b ≠ g → w.cell? ⟨b, o, none⟩ = some u → (put3 w g u0 u1 u2).cell? ⟨b, o, none⟩ = some u := fun hb hc => by
    rw [World.cell?, put3_other hb]
    rw [World.cell?] at hc
    exact hc
  rw [hs]
  obtain ⟨ad, cap, rfl, h0, h2⟩ := h
  refine ⟨ad, cap, rfl, h0, ?_⟩
  rcases h2 with h2 | ⟨bl, off, rfl, h4, h5⟩
  · exact Or.inl h2
  · refine Or.inr ⟨bl, off, rfl, h4, fun j hj => ?_⟩
    obtain ⟨g1, g2, g3, g4⟩ := h5 j hj
    have hbl : bl ≠ g := by
      rintro rfl
      have e1 := (hin _ _ g1).1
      have e2 := (hin _ _ g2).1
      omega
    refine ⟨hne hbl g1, hne hbl g2, hne hbl g3, ?_⟩
    obtain ⟨ai, ci, e, hi0, hi2⟩ := g4
    refine ⟨ai, ci, e, hi0, ?_⟩
    rcases hi2 with hi2 | ⟨bi, oi, rfl, hi4, hi5⟩
    · exact Or.inl hi2
    · refine Or.inr ⟨bi, oi, rfl, hi4, fun i hi => ?_⟩
      have hbi : bi ≠ g := by
        rintro rfl
        have e2 := (hin _ _ (hi5 i hi)).2
        rw [hX j hj i hi] at e2
        exact hz e2.symm
      exact hne hbi (hi5 i hi)

set_option maxHeartbeats 8000000 in
set_option maxRecDepth 10000 in
theorem stored_any (hO : PeerOwes) (w : World) : Calls Try.prog 38 #[] w fun e w' => e = .returned (.bool true) ∧ Below w.heap.size w w' := by
  have HO := hid hO
  clear hO
  go_enter Try.func38, Try.ntmps38
  go_wp2_with fail
  refine Calls.mono (family_any w) ?_
  rintro e w1 ⟨hb1, bl1, PV1, rfl, hv1⟩
  have B1 := hid hb1
  have V1 := hid hv1
  clear hb1 hv1
  unfold bookV
  go_wp2_with fail
  refine Calls.mono (keptOf_any 3 w1) ?_
  rintro e w2 ⟨hb2, uv, rfl, hu⟩
  have B2 := hid (B1.out.trans (hb2.mono B1.out.size))
  have CK := hid (HO.out.keep _ 5 PV1 famB false 2 _ 0 (fun _ => undef) t0 3 0 uv 1 x7 w2 (V1.out.up hb2) ⟨none, 0, rfl, ⟨Nat.le_refl _, by omega⟩, Or.inl rfl⟩ hu)
  clear hb2 hu B1 V1
  unfold keptV
  unfold bookV peerV keptV at CK
  go_wp2_with fail
  refine Calls.mono CK.out ?_
  rintro e w3 hkp
  obtain ⟨hb3, er, th, room, a3, m3, c3, UV3, t3, rfl, hk, hto⟩ := keepPost_open hkp
  obtain ⟨rfl, rfl, rfl, rfl, rfl⟩ := keep1 hto
  have B3 := hid (B2.out.trans (hb3.mono B2.out.size))
  have K3 := hid hk
  clear hkp hb3 hk hto B2 CK
  go_wp2_with fail
  have hb := below_alloc w3 (.cells #[.bool false, .int .i64 2, .slice a3 1 c3] 58)
  have hp1 : PeAt _ _ 1 a3 c3 (st1 t0) := ⟨heap_alloc_new w3 (.cells #[.bool false, .int .i64 2, .slice a3 1 c3] 58), UV3, K3.out.up hb⟩
  have BW := hid (B3.out.trans (hb.mono B3.out.size))
  obtain ⟨W, hW⟩ : ∃ u, w3.alloc (.cells #[.bool false, .int .i64 2, .slice a3 1 c3] 58) = u := ⟨_, rfl⟩
  have hgw := B3.out.size
  rw [hW] at hp1 BW ⊢
  obtain ⟨gp, hgp⟩ : ∃ g, w3.heap.size = g := ⟨_, rfl⟩
  rw [hgp] at hp1 hgw ⊢
  have HGp := hid hgw
  have HP0 := hid hp1
  clear hb hW hp1 hgp hgw B3 K3
  have hne : Nonempty (Of (fun _ : World => True)) := ⟨⟨W, trivial⟩⟩
  refine region_tree_to (fun _ => True) 8 #[true, true, true, true, true, true, true, true, false] 8 (fun a' w' => (∃ j10 j11 j12 j13 j14 j15 j16 j17 j18 j19 j20 j21 j22 : Value, a' = ⟨#[.bool false, .pointer (some ⟨gp, 0, none⟩), .int .i64 0, undef, undef, undef, undef, undef, undef, undef, j10, j11, j12, j13, j14, j15, j16, j17, j18, j19, j20, j21, j22, .int .i64 0, undef, undef, undef, undef, undef, undef, undef, undef, undef, undef, undef, undef, undef, undef, undef, undef, undef, undef, undef, undef, undef, undef, undef, undef, undef, undef, undef, undef, undef, undef, undef, undef, undef, undef, undef, undef, undef, undef, undef, undef, undef, undef, undef, undef, undef, undef, undef, undef, undef, undef, undef, undef, undef, undef, undef, undef, undef, undef, undef, undef, undef, undef, undef, undef, undef], []⟩) ∧ Below w.heap.size w w' ∧ ∃ a4 c4, PeAt w' gp 2 a4 c4 (st2 t0)) (by kernel_rfl) (by kernel_rfl) (by kernel_rfl) rfl (by simp only [pickO, List.getElem?_cons_zero, List.getElem?_cons_succ]; exact rfl) rfl ?_ ?_
  · obtain ⟨U0, hU0⟩ : ∃ u, W.drew = u := ⟨_, rfl⟩
    have HD : Hid (Below W.heap.size W U0) := by rw [← hU0]; exact drew_below W
    rw [hU0]
    clear hU0
    have HP := hid (HP0.out.up HD.out)
    refine anyL_pick (f := 7) [0, 1] (by kernel_rfl) (by decide) ?_
    intro i hi
    simp only [List.mem_cons, List.not_mem_nil, or_false] at hi
    rcases hi with rfl | rfl
    · refine ⟨_, rfl, ?_⟩
      intro K hK
      go_wp2_with fail
      refine Calls.mono (family_any U0) ?_
      rintro e U1 ⟨hb, bl, PV, rfl, hv⟩
      replace HD := hid (HD.out.trans (hb.mono HD.out.size))
      replace HP := hid (HP.out.up hb)
      have HV := hid hv
      clear hb hv
      unfold bookV
      go_wp2
      refine ⟨rfl, hK _ _ trivial ?_⟩
      clear hK K
      refine anyL_pick (f := 6) [1, 2] (by kernel_rfl) (by decide) ?_
      intro i hi
      simp only [List.mem_cons, List.not_mem_nil, or_false] at hi
      rcases hi with rfl | rfl
      · refine ⟨_, rfl, ?_⟩
        intro K hK
        obtain ⟨p1, p2, p3⟩ := HP.out.cells
        go_wp2
        refine ⟨rfl, hK _ _ trivial ?_⟩
        clear hK K p1 p2 p3
        refine anyL_pick (f := 5) [2] (by kernel_rfl) (by decide) ?_
        intro i hi
        simp only [List.mem_cons, List.not_mem_nil, or_false] at hi
        subst hi
        refine ⟨_, rfl, ?_⟩
        intro K hK
        go_wp2_with fail
        refine Calls.mono (keptOf_any 1 U1) ?_
        rintro e U2 ⟨hb, uv, rfl, hu⟩
        replace HD := hid (HD.out.trans (hb.mono HD.out.size))
        replace HV := hid (HV.out.up hb)
        replace HP := hid (HP.out.up hb)
        have HI := hid hu
        clear hb hu
        unfold keptV
        go_wp2
        refine ⟨rfl, hK _ _ trivial ?_⟩
        clear hK K
        refine anyL_pick (f := 4) [3] (by kernel_rfl) (by decide) ?_
        intro i hi
        simp only [List.mem_cons, List.not_mem_nil, or_false] at hi
        subst hi
        refine ⟨_, rfl, ?_⟩
        intro K hK
        have CK := hid (HO.out.keep _ 5 PV famB false 2 _ 1 _ (st1 t0) 1 0 uv 1 x7 U2 HV.out HP.out.2.choose_spec HI.out)
        unfold bookV peerV keptV at CK
        go_wp2_with fail
        refine Calls.mono CK.out ?_
        rintro e U3 hkp
        obtain ⟨hb, er, th, room, a9, m9, c9, UV9, t9, rfl, hk, hto⟩ := keepPost_open hkp
        obtain ⟨rfl, rfl, rfl, rfl, rfl⟩ := keep2 hto
        replace HD := hid (HD.out.trans (hb.mono HD.out.size))
        replace HV := hid (HV.out.up hb)
        replace HI := hid (HI.out.up hb)
        replace HP := hid (HP.out.up hb)
        have HQ := hid hk
        clear hkp hb hk hto CK
        go_wp2
        refine ⟨rfl, hK _ _ trivial ?_⟩
        clear hK K
        refine anyL_readsO (f := 1) (c := 8) (q := [4, 5, 6]) (by simp only [pickO, List.getElem?_cons_zero, List.getElem?_cons_succ]; exact rfl) (by kernel_rfl) (by kernel_rfl) trivial (by kernel_rfl) (by kernel_rfl) (by kernel_rfl) ?_
        repeat (go_big_quiet_step (fail))
        refine wpQuiet_nil ?_
        refine anyL_pick (f := 0) [7] (by kernel_rfl) (by decide) ?_
        intro i hi
        simp only [List.mem_cons, List.not_mem_nil, or_false] at hi
        subst hi
        refine ⟨_, rfl, ?_⟩
        intro K hK
        obtain ⟨s1, s2, s3⟩ := three_at HP.out.1
        have f1 := frozen_at (i := 0) HP.out.1
        have f2 := frozen_at (i := 1) HP.out.1
        have f3 := frozen_at (i := 2) HP.out.1
        go_wp2
        refine ⟨rfl, hK _ _ trivial ?_⟩
        clear hK K s1 s2 s3 f1 f2 f3
        refine anyL_end (by kernel_rfl) ?_
        exact ⟨⟨_, _, _, _, _, _, _, _, _, _, _, _, _, rfl⟩, put3_below (BW.out.trans (HD.out.mono BW.out.size)) HGp.out, _, _, put3_whole HP.out.1 _ _ _, _, kel_put HQ.out (st2_x t0) (by decide) HP.out.1⟩
      · refine ⟨_, rfl, ?_⟩
        intro K hK
        go_wp2_with fail
        refine Calls.mono (keptOf_any 1 U1) ?_
        rintro e U4 ⟨hb, uv, rfl, hu⟩
        replace HD := hid (HD.out.trans (hb.mono HD.out.size))
        replace HV := hid (HV.out.up hb)
        replace HP := hid (HP.out.up hb)
        have HI := hid hu
        clear hb hu
        unfold keptV
        go_wp2
        refine ⟨rfl, hK _ _ trivial ?_⟩
        clear hK K
        refine anyL_pick (f := 5) [1] (by kernel_rfl) (by decide) ?_
        intro i hi
        simp only [List.mem_cons, List.not_mem_nil, or_false] at hi
        subst hi
        refine ⟨_, rfl, ?_⟩
        intro K hK
        obtain ⟨p1, p2, p3⟩ := HP.out.cells
        go_wp2
        refine ⟨rfl, hK _ _ trivial ?_⟩
        clear hK K p1 p2 p3
        refine anyL_pick (f := 4) [3] (by kernel_rfl) (by decide) ?_
        intro i hi
        simp only [List.mem_cons, List.not_mem_nil, or_false] at hi
        subst hi
        refine ⟨_, rfl, ?_⟩
        intro K hK
        have CK := hid (HO.out.keep _ 5 PV famB false 2 _ 1 _ (st1 t0) 1 0 uv 1 x7 U4 HV.out HP.out.2.choose_spec HI.out)
        unfold bookV peerV keptV at CK
        go_wp2_with fail
        refine Calls.mono CK.out ?_
        rintro e U5 hkp
        obtain ⟨hb, er, th, room, a9, m9, c9, UV9, t9, rfl, hk, hto⟩ := keepPost_open hkp
        obtain ⟨rfl, rfl, rfl, rfl, rfl⟩ := keep2 hto
        replace HD := hid (HD.out.trans (hb.mono HD.out.size))
        replace HV := hid (HV.out.up hb)
        replace HI := hid (HI.out.up hb)
        replace HP := hid (HP.out.up hb)
        have HQ := hid hk
        clear hkp hb hk hto CK
        go_wp2
        refine ⟨rfl, hK _ _ trivial ?_⟩
        clear hK K
        refine anyL_readsO (f := 1) (c := 8) (q := [4, 5, 6]) (by simp only [pickO, List.getElem?_cons_zero, List.getElem?_cons_succ]; exact rfl) (by kernel_rfl) (by kernel_rfl) trivial (by kernel_rfl) (by kernel_rfl) (by kernel_rfl) ?_
        repeat (go_big_quiet_step (fail))
        refine wpQuiet_nil ?_
        refine anyL_pick (f := 0) [7] (by kernel_rfl) (by decide) ?_
        intro i hi
        simp only [List.mem_cons, List.not_mem_nil, or_false] at hi
        subst hi
        refine ⟨_, rfl, ?_⟩
        intro K hK
        obtain ⟨s1, s2, s3⟩ := three_at HP.out.1
        have f1 := frozen_at (i := 0) HP.out.1
        have f2 := frozen_at (i := 1) HP.out.1
        have f3 := frozen_at (i := 2) HP.out.1
        go_wp2
        refine ⟨rfl, hK _ _ trivial ?_⟩
        clear hK K s1 s2 s3 f1 f2 f3
        refine anyL_end (by kernel_rfl) ?_
        exact ⟨⟨_, _, _, _, _, _, _, _, _, _, _, _, _, rfl⟩, put3_below (BW.out.trans (HD.out.mono BW.out.size)) HGp.out, _, _, put3_whole HP.out.1 _ _ _, _, kel_put HQ.out (st2_x t0) (by decide) HP.out.1⟩
    · refine ⟨_, rfl, ?_⟩
      intro K hK
      obtain ⟨p1, p2, p3⟩ := HP.out.cells
      go_wp2
      refine ⟨rfl, hK _ _ trivial ?_⟩
      clear hK K p1 p2 p3
      refine anyL_pick (f := 6) [0] (by kernel_rfl) (by decide) ?_
      intro i hi
      simp only [List.mem_cons, List.not_mem_nil, or_false] at hi
      subst hi
      refine ⟨_, rfl, ?_⟩
      intro K hK
      go_wp2_with fail
      refine Calls.mono (family_any U0) ?_
      rintro e U6 ⟨hb, bl, PV, rfl, hv⟩
      replace HD := hid (HD.out.trans (hb.mono HD.out.size))
      replace HP := hid (HP.out.up hb)
      have HV := hid hv
      clear hb hv
      unfold bookV
      go_wp2
      refine ⟨rfl, hK _ _ trivial ?_⟩
      clear hK K
      refine anyL_pick (f := 5) [2] (by kernel_rfl) (by decide) ?_
      intro i hi
      simp only [List.mem_cons, List.not_mem_nil, or_false] at hi
      subst hi
      refine ⟨_, rfl, ?_⟩
      intro K hK
      go_wp2_with fail
      refine Calls.mono (keptOf_any 1 U6) ?_
      rintro e U7 ⟨hb, uv, rfl, hu⟩
      replace HD := hid (HD.out.trans (hb.mono HD.out.size))
      replace HV := hid (HV.out.up hb)
      replace HP := hid (HP.out.up hb)
      have HI := hid hu
      clear hb hu
      unfold keptV
      go_wp2
      refine ⟨rfl, hK _ _ trivial ?_⟩
      clear hK K
      refine anyL_pick (f := 4) [3] (by kernel_rfl) (by decide) ?_
      intro i hi
      simp only [List.mem_cons, List.not_mem_nil, or_false] at hi
      subst hi
      refine ⟨_, rfl, ?_⟩
      intro K hK
      have CK := hid (HO.out.keep _ 5 PV famB false 2 _ 1 _ (st1 t0) 1 0 uv 1 x7 U7 HV.out HP.out.2.choose_spec HI.out)
      unfold bookV peerV keptV at CK
      go_wp2_with fail
      refine Calls.mono CK.out ?_
      rintro e U8 hkp
      obtain ⟨hb, er, th, room, a9, m9, c9, UV9, t9, rfl, hk, hto⟩ := keepPost_open hkp
      obtain ⟨rfl, rfl, rfl, rfl, rfl⟩ := keep2 hto
      replace HD := hid (HD.out.trans (hb.mono HD.out.size))
      replace HV := hid (HV.out.up hb)
      replace HI := hid (HI.out.up hb)
      replace HP := hid (HP.out.up hb)
      have HQ := hid hk
      clear hkp hb hk hto CK
      go_wp2
      refine ⟨rfl, hK _ _ trivial ?_⟩
      clear hK K
      refine anyL_readsO (f := 1) (c := 8) (q := [4, 5, 6]) (by simp only [pickO, List.getElem?_cons_zero, List.getElem?_cons_succ]; exact rfl) (by kernel_rfl) (by kernel_rfl) trivial (by kernel_rfl) (by kernel_rfl) (by kernel_rfl) ?_
      repeat (go_big_quiet_step (fail))
      refine wpQuiet_nil ?_
      refine anyL_pick (f := 0) [7] (by kernel_rfl) (by decide) ?_
      intro i hi
      simp only [List.mem_cons, List.not_mem_nil, or_false] at hi
      subst hi
      refine ⟨_, rfl, ?_⟩
      intro K hK
      obtain ⟨s1, s2, s3⟩ := three_at HP.out.1
      have f1 := frozen_at (i := 0) HP.out.1
      have f2 := frozen_at (i := 1) HP.out.1
      have f3 := frozen_at (i := 2) HP.out.1
      go_wp2
      refine ⟨rfl, hK _ _ trivial ?_⟩
      clear hK K s1 s2 s3 f1 f2 f3
      refine anyL_end (by kernel_rfl) ?_
      exact ⟨⟨_, _, _, _, _, _, _, _, _, _, _, _, _, rfl⟩, put3_below (BW.out.trans (HD.out.mono BW.out.size)) HGp.out, _, _, put3_whole HP.out.1 _ _ _, _, kel_put HQ.out (st2_x t0) (by decide) HP.out.1⟩
  · rintro a' W2 ⟨⟨j10, j11, j12, j13, j14, j15, j16, j17, j18, j19, j20, j21, j22, rfl⟩, hb, a4, c4, hp⟩
    have BW2 := hid hb
    have HP2 := hid hp
    clear hb hp HP0 BW
    go_wp2_with fail
    have hne : Nonempty (Of (Below W2.heap.size W2)) := ⟨⟨W2, Below.refl _ _⟩⟩
    obtain ⟨p1, p2, p3⟩ := HP2.out.cells
    have F1 : ∀ u : Of (Below W2.heap.size W2), u.val.cell? ⟨gp, 0, none⟩ = some _ := fun u => by rw [u.is.cell (cell_lt p1)]; exact p1
    have F2 : ∀ u : Of (Below W2.heap.size W2), u.val.cell? ⟨gp, 1, none⟩ = some _ := fun u => by rw [u.is.cell (cell_lt p2)]; exact p2
    have F3 : ∀ u : Of (Below W2.heap.size W2), u.val.cell? ⟨gp, 2, none⟩ = some _ := fun u => by rw [u.is.cell (cell_lt p3)]; exact p3
    clear p1 p2 p3
    refine region_tree_to (Below W2.heap.size W2) 9 #[true, true, true, true, true, true, true, true, true, false] 9 (fun a' w' => (∃ j4 j10 j11 j12 j13 j14 j15 j16 j17 j18 j19 j20 j21 j22 j23 j24 j25 j26 j27 j28 j29 : Value, a' = ⟨#[.bool false, .pointer (some ⟨gp, 0, none⟩), .int .i64 0, .int .i64 0, j4, undef, undef, undef, undef, undef, j10, j11, j12, j13, j14, j15, j16, j17, j18, j19, j20, j21, j22, j23, j24, j25, j26, j27, j28, j29, .int .i64 8, undef, undef, undef, undef, undef, undef, undef, undef, undef, undef, undef, undef, undef, undef, undef, undef, undef, undef, undef, undef, undef, undef, undef, undef, undef, undef, undef, undef, undef, undef, undef, undef, undef, undef, undef, undef, undef, undef, undef, undef, undef, undef, undef, undef, undef, undef, undef, undef, undef, undef, undef, undef, undef, undef, undef, undef, undef, undef], []⟩) ∧ Below W2.heap.size W2 w') (by kernel_rfl) (by kernel_rfl) (by kernel_rfl) rfl (by simp only [pickO, List.getElem?_cons_zero, List.getElem?_cons_succ]; exact rfl) rfl ?_ ?_
    · obtain ⟨U0, hU0⟩ : ∃ u, W2.drew = u := ⟨_, rfl⟩
      have HD : Hid (Below W2.heap.size W2 U0) := by rw [← hU0]; exact drew_below W2
      rw [hU0]
      clear hU0
      refine anyL_readsO (f := 8) (c := 9) (q := [1]) (by simp only [pickO, List.getElem?_cons_zero, List.getElem?_cons_succ]; exact rfl) (by kernel_rfl) (by kernel_rfl) HD.out (by kernel_rfl) (by kernel_rfl) (by kernel_rfl) ?_
      repeat (go_big_quiet_step (fail))
      refine wpQuiet_nil ?_
      refine anyL_pick (f := 7) [0, 7] (by kernel_rfl) (by decide) ?_
      intro i hi
      simp only [List.mem_cons, List.not_mem_nil, or_false] at hi
      rcases hi with rfl | rfl
      · refine ⟨_, rfl, ?_⟩
        intro K hK
        go_wp2_with fail
        refine Calls.mono (family_any U0) ?_
        rintro e U1 ⟨hb, bl, PV, rfl, hv⟩
        replace HD := hid (HD.out.trans (hb.mono HD.out.size))
        have HV := hid hv
        clear hb hv
        unfold bookV
        go_wp2
        refine ⟨rfl, hK _ _ HD.out ?_⟩
        clear hK K
        refine anyL_pick (f := 6) [2, 7] (by kernel_rfl) (by decide) ?_
        intro i hi
        simp only [List.mem_cons, List.not_mem_nil, or_false] at hi
        rcases hi with rfl | rfl
        · refine ⟨_, rfl, ?_⟩
          intro K hK
          go_wp2_with fail
          refine Calls.mono (keptOf_any 2 U1) ?_
          rintro e U2 ⟨hb, uv, rfl, hu⟩
          replace HD := hid (HD.out.trans (hb.mono HD.out.size))
          replace HV := hid (HV.out.up hb)
          have HI := hid hu
          clear hb hu
          unfold keptV
          go_wp2
          refine ⟨rfl, hK _ _ HD.out ?_⟩
          clear hK K
          refine anyL_pick (f := 5) [3, 7] (by kernel_rfl) (by decide) ?_
          intro i hi
          simp only [List.mem_cons, List.not_mem_nil, or_false] at hi
          rcases hi with rfl | rfl
          · refine ⟨_, rfl, ?_⟩
            intro K hK
            have CK := hid (HO.out.keep _ 5 PV famB false 2 _ 2 _ (st2 t0) 2 0 uv 1 x7 U2 HV.out ((HP2.out.up HD.out).2.choose_spec) HI.out)
            unfold bookV peerV keptV at CK
            go_wp2_with fail
            refine Calls.mono CK.out ?_
            rintro e U3 hkp
            obtain ⟨hb, er, th, room, a9, m9, c9, UV9, t9, rfl, hk, hto⟩ := keepPost_open hkp
            obtain rfl := keep3 hto
            replace HD := hid (HD.out.trans (hb.mono HD.out.size))
            replace HV := hid (HV.out.up hb)
            replace HI := hid (HI.out.up hb)

            clear hkp hb hk hto CK
            go_wp2
            refine ⟨rfl, hK _ _ HD.out ?_⟩
            clear hK K
            refine anyL_readsO (f := 2) (c := 9) (q := [4, 5, 6]) (by simp only [pickO, List.getElem?_cons_zero, List.getElem?_cons_succ]; exact rfl) (by kernel_rfl) (by kernel_rfl) HD.out (by kernel_rfl) (by kernel_rfl) (by kernel_rfl) ?_
            repeat (go_big_quiet_step (fail))
            refine wpQuiet_nil ?_
            refine anyL_pick (f := 1) [7] (by kernel_rfl) (by decide) ?_
            intro i hi
            simp only [List.mem_cons, List.not_mem_nil, or_false] at hi
            subst hi
            refine ⟨_, rfl, ?_⟩
            intro K hK
            go_wp2
            have hb := below_alloc U3 (.cells #[.bool false, .int .i64 0, .slice none 0 0] 58)
            have hg := heap_alloc_new U3 (.cells #[.bool false, .int .i64 0, .slice none 0 0] 58)
            have hge := HD.out.size
            replace HD := hid (HD.out.trans (hb.mono HD.out.size))
            replace HV := hid (HV.out.up hb)
            replace HI := hid (HI.out.up hb)
            refine ⟨rfl, hK _ _ HD.out ?_⟩
            clear hK K
            obtain ⟨U4, hU4⟩ : ∃ u, World.alloc U3 (.cells #[.bool false, .int .i64 0, .slice none 0 0] 58) = u := ⟨_, rfl⟩
            rw [hU4] at hg HD ⊢
            rw [hU4] at HV
            rw [hU4] at HI
            obtain ⟨g, hgg⟩ : ∃ g, U3.heap.size = g := ⟨_, rfl⟩
            rw [hgg] at hg hge ⊢
            have HG := hid hg
            have HGe := hid hge
            clear hb hg hge hgg hU4
            refine anyL_pick (f := 0) [8] (by kernel_rfl) (by decide) ?_
            intro i hi
            simp only [List.mem_cons, List.not_mem_nil, or_false] at hi
            subst hi
            refine ⟨_, rfl, ?_⟩
            intro K hK
            obtain ⟨s1, s2, s3⟩ := three_at HG.out
            have f1 := frozen_at (i := 0) HG.out
            have f2 := frozen_at (i := 1) HG.out
            have f3 := frozen_at (i := 2) HG.out
            go_wp2
            refine ⟨rfl, hK _ _ (put3_below HD.out HGe.out) ?_⟩
            clear hK K s1 s2 s3 f1 f2 f3
            refine anyL_end (by kernel_rfl) ?_
            exact ⟨⟨_, _, _, _, _, _, _, _, _, _, _, _, _, _, _, _, _, _, _, _, _, rfl⟩, put3_below HD.out HGe.out⟩
          · refine ⟨_, rfl, ?_⟩
            intro K hK
            go_wp2
            have hb := below_alloc U2 (.cells #[.bool false, .int .i64 0, .slice none 0 0] 58)
            have hg := heap_alloc_new U2 (.cells #[.bool false, .int .i64 0, .slice none 0 0] 58)
            have hge := HD.out.size
            replace HD := hid (HD.out.trans (hb.mono HD.out.size))
            replace HV := hid (HV.out.up hb)
            replace HI := hid (HI.out.up hb)
            refine ⟨rfl, hK _ _ HD.out ?_⟩
            clear hK K
            obtain ⟨U5, hU5⟩ : ∃ u, World.alloc U2 (.cells #[.bool false, .int .i64 0, .slice none 0 0] 58) = u := ⟨_, rfl⟩
            rw [hU5] at hg HD ⊢
            rw [hU5] at HV
            rw [hU5] at HI
            obtain ⟨g, hgg⟩ : ∃ g, U2.heap.size = g := ⟨_, rfl⟩
            rw [hgg] at hg hge ⊢
            have HG := hid hg
            have HGe := hid hge
            clear hb hg hge hgg hU5
            refine anyL_pick (f := 4) [3] (by kernel_rfl) (by decide) ?_
            intro i hi
            simp only [List.mem_cons, List.not_mem_nil, or_false] at hi
            subst hi
            refine ⟨_, rfl, ?_⟩
            intro K hK
            have CK := hid (HO.out.keep _ 5 PV famB false 2 _ 2 _ (st2 t0) 2 0 uv 1 x7 U5 HV.out ((HP2.out.up HD.out).2.choose_spec) HI.out)
            unfold bookV peerV keptV at CK
            go_wp2_with fail
            refine Calls.mono CK.out ?_
            rintro e U6 hkp
            obtain ⟨hb, er, th, room, a9, m9, c9, UV9, t9, rfl, hk, hto⟩ := keepPost_open hkp
            obtain rfl := keep3 hto
            replace HD := hid (HD.out.trans (hb.mono HD.out.size))
            replace HV := hid (HV.out.up hb)
            replace HI := hid (HI.out.up hb)
            replace HG := hid (stayB HG.out hb)

            clear hkp hb hk hto CK
            go_wp2
            refine ⟨rfl, hK _ _ HD.out ?_⟩
            clear hK K
            refine anyL_readsO (f := 1) (c := 9) (q := [4, 5, 6]) (by simp only [pickO, List.getElem?_cons_zero, List.getElem?_cons_succ]; exact rfl) (by kernel_rfl) (by kernel_rfl) HD.out (by kernel_rfl) (by kernel_rfl) (by kernel_rfl) ?_
            repeat (go_big_quiet_step (fail))
            refine wpQuiet_nil ?_
            refine anyL_pick (f := 0) [8] (by kernel_rfl) (by decide) ?_
            intro i hi
            simp only [List.mem_cons, List.not_mem_nil, or_false] at hi
            subst hi
            refine ⟨_, rfl, ?_⟩
            intro K hK
            obtain ⟨s1, s2, s3⟩ := three_at HG.out
            have f1 := frozen_at (i := 0) HG.out
            have f2 := frozen_at (i := 1) HG.out
            have f3 := frozen_at (i := 2) HG.out
            go_wp2
            refine ⟨rfl, hK _ _ (put3_below HD.out HGe.out) ?_⟩
            clear hK K s1 s2 s3 f1 f2 f3
            refine anyL_end (by kernel_rfl) ?_
            exact ⟨⟨_, _, _, _, _, _, _, _, _, _, _, _, _, _, _, _, _, _, _, _, _, rfl⟩, put3_below HD.out HGe.out⟩
        · refine ⟨_, rfl, ?_⟩
          intro K hK
          go_wp2
          have hb := below_alloc U1 (.cells #[.bool false, .int .i64 0, .slice none 0 0] 58)
          have hg := heap_alloc_new U1 (.cells #[.bool false, .int .i64 0, .slice none 0 0] 58)
          have hge := HD.out.size
          replace HD := hid (HD.out.trans (hb.mono HD.out.size))
          replace HV := hid (HV.out.up hb)
          refine ⟨rfl, hK _ _ HD.out ?_⟩
          clear hK K
          obtain ⟨U7, hU7⟩ : ∃ u, World.alloc U1 (.cells #[.bool false, .int .i64 0, .slice none 0 0] 58) = u := ⟨_, rfl⟩
          rw [hU7] at hg HD ⊢
          rw [hU7] at HV
          obtain ⟨g, hgg⟩ : ∃ g, U1.heap.size = g := ⟨_, rfl⟩
          rw [hgg] at hg hge ⊢
          have HG := hid hg
          have HGe := hid hge
          clear hb hg hge hgg hU7
          refine anyL_pick (f := 5) [2] (by kernel_rfl) (by decide) ?_
          intro i hi
          simp only [List.mem_cons, List.not_mem_nil, or_false] at hi
          subst hi
          refine ⟨_, rfl, ?_⟩
          intro K hK
          go_wp2_with fail
          refine Calls.mono (keptOf_any 2 U7) ?_
          rintro e U8 ⟨hb, uv, rfl, hu⟩
          replace HD := hid (HD.out.trans (hb.mono HD.out.size))
          replace HV := hid (HV.out.up hb)
          replace HG := hid (stayB HG.out hb)
          have HI := hid hu
          clear hb hu
          unfold keptV
          go_wp2
          refine ⟨rfl, hK _ _ HD.out ?_⟩
          clear hK K
          refine anyL_pick (f := 4) [3] (by kernel_rfl) (by decide) ?_
          intro i hi
          simp only [List.mem_cons, List.not_mem_nil, or_false] at hi
          subst hi
          refine ⟨_, rfl, ?_⟩
          intro K hK
          have CK := hid (HO.out.keep _ 5 PV famB false 2 _ 2 _ (st2 t0) 2 0 uv 1 x7 U8 HV.out ((HP2.out.up HD.out).2.choose_spec) HI.out)
          unfold bookV peerV keptV at CK
          go_wp2_with fail
          refine Calls.mono CK.out ?_
          rintro e U9 hkp
          obtain ⟨hb, er, th, room, a9, m9, c9, UV9, t9, rfl, hk, hto⟩ := keepPost_open hkp
          obtain rfl := keep3 hto
          replace HD := hid (HD.out.trans (hb.mono HD.out.size))
          replace HV := hid (HV.out.up hb)
          replace HI := hid (HI.out.up hb)
          replace HG := hid (stayB HG.out hb)

          clear hkp hb hk hto CK
          go_wp2
          refine ⟨rfl, hK _ _ HD.out ?_⟩
          clear hK K
          refine anyL_readsO (f := 1) (c := 9) (q := [4, 5, 6]) (by simp only [pickO, List.getElem?_cons_zero, List.getElem?_cons_succ]; exact rfl) (by kernel_rfl) (by kernel_rfl) HD.out (by kernel_rfl) (by kernel_rfl) (by kernel_rfl) ?_
          repeat (go_big_quiet_step (fail))
          refine wpQuiet_nil ?_
          refine anyL_pick (f := 0) [8] (by kernel_rfl) (by decide) ?_
          intro i hi
          simp only [List.mem_cons, List.not_mem_nil, or_false] at hi
          subst hi
          refine ⟨_, rfl, ?_⟩
          intro K hK
          obtain ⟨s1, s2, s3⟩ := three_at HG.out
          have f1 := frozen_at (i := 0) HG.out
          have f2 := frozen_at (i := 1) HG.out
          have f3 := frozen_at (i := 2) HG.out
          go_wp2
          refine ⟨rfl, hK _ _ (put3_below HD.out HGe.out) ?_⟩
          clear hK K s1 s2 s3 f1 f2 f3
          refine anyL_end (by kernel_rfl) ?_
          exact ⟨⟨_, _, _, _, _, _, _, _, _, _, _, _, _, _, _, _, _, _, _, _, _, rfl⟩, put3_below HD.out HGe.out⟩
      · refine ⟨_, rfl, ?_⟩
        intro K hK
        go_wp2
        have hb := below_alloc U0 (.cells #[.bool false, .int .i64 0, .slice none 0 0] 58)
        have hg := heap_alloc_new U0 (.cells #[.bool false, .int .i64 0, .slice none 0 0] 58)
        have hge := HD.out.size
        replace HD := hid (HD.out.trans (hb.mono HD.out.size))
        refine ⟨rfl, hK _ _ HD.out ?_⟩
        clear hK K
        obtain ⟨U10, hU10⟩ : ∃ u, World.alloc U0 (.cells #[.bool false, .int .i64 0, .slice none 0 0] 58) = u := ⟨_, rfl⟩
        rw [hU10] at hg HD ⊢
        obtain ⟨g, hgg⟩ : ∃ g, U0.heap.size = g := ⟨_, rfl⟩
        rw [hgg] at hg hge ⊢
        have HG := hid hg
        have HGe := hid hge
        clear hb hg hge hgg hU10
        refine anyL_pick (f := 6) [0] (by kernel_rfl) (by decide) ?_
        intro i hi
        simp only [List.mem_cons, List.not_mem_nil, or_false] at hi
        subst hi
        refine ⟨_, rfl, ?_⟩
        intro K hK
        go_wp2_with fail
        refine Calls.mono (family_any U10) ?_
        rintro e U11 ⟨hb, bl, PV, rfl, hv⟩
        replace HD := hid (HD.out.trans (hb.mono HD.out.size))
        replace HG := hid (stayB HG.out hb)
        have HV := hid hv
        clear hb hv
        unfold bookV
        go_wp2
        refine ⟨rfl, hK _ _ HD.out ?_⟩
        clear hK K
        refine anyL_pick (f := 5) [2] (by kernel_rfl) (by decide) ?_
        intro i hi
        simp only [List.mem_cons, List.not_mem_nil, or_false] at hi
        subst hi
        refine ⟨_, rfl, ?_⟩
        intro K hK
        go_wp2_with fail
        refine Calls.mono (keptOf_any 2 U11) ?_
        rintro e U12 ⟨hb, uv, rfl, hu⟩
        replace HD := hid (HD.out.trans (hb.mono HD.out.size))
        replace HV := hid (HV.out.up hb)
        replace HG := hid (stayB HG.out hb)
        have HI := hid hu
        clear hb hu
        unfold keptV
        go_wp2
        refine ⟨rfl, hK _ _ HD.out ?_⟩
        clear hK K
        refine anyL_pick (f := 4) [3] (by kernel_rfl) (by decide) ?_
        intro i hi
        simp only [List.mem_cons, List.not_mem_nil, or_false] at hi
        subst hi
        refine ⟨_, rfl, ?_⟩
        intro K hK
        have CK := hid (HO.out.keep _ 5 PV famB false 2 _ 2 _ (st2 t0) 2 0 uv 1 x7 U12 HV.out ((HP2.out.up HD.out).2.choose_spec) HI.out)
        unfold bookV peerV keptV at CK
        go_wp2_with fail
        refine Calls.mono CK.out ?_
        rintro e U13 hkp
        obtain ⟨hb, er, th, room, a9, m9, c9, UV9, t9, rfl, hk, hto⟩ := keepPost_open hkp
        obtain rfl := keep3 hto
        replace HD := hid (HD.out.trans (hb.mono HD.out.size))
        replace HV := hid (HV.out.up hb)
        replace HI := hid (HI.out.up hb)
        replace HG := hid (stayB HG.out hb)

        clear hkp hb hk hto CK
        go_wp2
        refine ⟨rfl, hK _ _ HD.out ?_⟩
        clear hK K
        refine anyL_readsO (f := 1) (c := 9) (q := [4, 5, 6]) (by simp only [pickO, List.getElem?_cons_zero, List.getElem?_cons_succ]; exact rfl) (by kernel_rfl) (by kernel_rfl) HD.out (by kernel_rfl) (by kernel_rfl) (by kernel_rfl) ?_
        repeat (go_big_quiet_step (fail))
        refine wpQuiet_nil ?_
        refine anyL_pick (f := 0) [8] (by kernel_rfl) (by decide) ?_
        intro i hi
        simp only [List.mem_cons, List.not_mem_nil, or_false] at hi
        subst hi
        refine ⟨_, rfl, ?_⟩
        intro K hK
        obtain ⟨s1, s2, s3⟩ := three_at HG.out
        have f1 := frozen_at (i := 0) HG.out
        have f2 := frozen_at (i := 1) HG.out
        have f3 := frozen_at (i := 2) HG.out
        go_wp2
        refine ⟨rfl, hK _ _ (put3_below HD.out HGe.out) ?_⟩
        clear hK K s1 s2 s3 f1 f2 f3
        refine anyL_end (by kernel_rfl) ?_
        exact ⟨⟨_, _, _, _, _, _, _, _, _, _, _, _, _, _, _, _, _, _, _, _, _, rfl⟩, put3_below HD.out HGe.out⟩
    · rintro a' W3 ⟨⟨j4, j10, j11, j12, j13, j14, j15, j16, j17, j18, j19, j20, j21, j22, j23, j24, j25, j26, j27, j28, j29, rfl⟩, hb⟩
      have HP3 := hid (HP2.out.up hb)
      have BW3 := hid (BW2.out.trans (hb.mono BW2.out.size))
      clear hb HP2 BW2 F1 F2 F3 hne
      go_wp2_with fail
      have hne : Nonempty (Of (Below W3.heap.size W3)) := ⟨⟨W3, Below.refl _ _⟩⟩
      obtain ⟨p1, p2, p3⟩ := HP3.out.cells
      have F1 : ∀ u : Of (Below W3.heap.size W3), u.val.cell? ⟨gp, 0, none⟩ = some _ := fun u => by rw [u.is.cell (cell_lt p1)]; exact p1
      have F2 : ∀ u : Of (Below W3.heap.size W3), u.val.cell? ⟨gp, 1, none⟩ = some _ := fun u => by rw [u.is.cell (cell_lt p2)]; exact p2
      have F3 : ∀ u : Of (Below W3.heap.size W3), u.val.cell? ⟨gp, 2, none⟩ = some _ := fun u => by rw [u.is.cell (cell_lt p3)]; exact p3
      clear p1 p2 p3
      refine region_tree_to (Below W3.heap.size W3) 8 #[true, true, true, true, true, true, true, true, false] 8 (fun a' w' => ∃ gq, (∃ j4 j10 j11 j12 j13 j14 j15 j16 j17 j18 j19 j20 j21 j22 j23 j24 j25 j26 j27 j28 j29 j30 j31 j32 j33 j34 j35 : Value, a' = ⟨#[.bool false, .pointer (some ⟨gp, 0, none⟩), .int .i64 0, .int .i64 0, j4, .int .i64 8, .pointer (some ⟨gq, 0, none⟩), undef, undef, undef, j10, j11, j12, j13, j14, j15, j16, j17, j18, j19, j20, j21, j22, j23, j24, j25, j26, j27, j28, j29, j30, j31, j32, j33, j34, j35, .int .i64 0, undef, undef, undef, undef, undef, undef, undef, undef, undef, undef, undef, undef, undef, undef, undef, undef, undef, undef, undef, undef, undef, undef, undef, undef, undef, undef, undef, undef, undef, undef, undef, undef, undef, undef, undef, undef, undef, undef, undef, undef, undef, undef, undef, undef, undef, undef, undef, undef, undef, undef, undef, undef], []⟩) ∧ Below W3.heap.size W3 w' ∧ ∃ a c, PeAt w' gq 1 a c (st3 t0)) (by kernel_rfl) (by kernel_rfl) (by kernel_rfl) rfl (by simp only [pickO, List.getElem?_cons_zero, List.getElem?_cons_succ]; exact rfl) rfl ?_ ?_
      · obtain ⟨U0, hU0⟩ : ∃ u, W3.drew = u := ⟨_, rfl⟩
        have HD : Hid (Below W3.heap.size W3 U0) := by rw [← hU0]; exact drew_below W3
        rw [hU0]
        clear hU0
        refine anyL_readsO (f := 7) (c := 8) (q := [1]) (by simp only [pickO, List.getElem?_cons_zero, List.getElem?_cons_succ]; exact rfl) (by kernel_rfl) (by kernel_rfl) HD.out (by kernel_rfl) (by kernel_rfl) (by kernel_rfl) ?_
        repeat (go_big_quiet_step (fail))
        refine wpQuiet_nil ?_
        refine anyL_pick (f := 6) [0, 6] (by kernel_rfl) (by decide) ?_
        intro i hi
        simp only [List.mem_cons, List.not_mem_nil, or_false] at hi
        rcases hi with rfl | rfl
        · refine ⟨_, rfl, ?_⟩
          intro K hK
          go_wp2_with fail
          refine Calls.mono (family_any U0) ?_
          rintro e U1 ⟨hb, bl, PV, rfl, hv⟩
          replace HD := hid (HD.out.trans (hb.mono HD.out.size))
          have HV := hid hv
          clear hb hv
          unfold bookV
          go_wp2
          refine ⟨rfl, hK _ _ HD.out ?_⟩
          clear hK K
          refine anyL_pick (f := 5) [2, 6] (by kernel_rfl) (by decide) ?_
          intro i hi
          simp only [List.mem_cons, List.not_mem_nil, or_false] at hi
          rcases hi with rfl | rfl
          · refine ⟨_, rfl, ?_⟩
            intro K hK
            have CK := hid (HO.out.drop _ 5 PV famB false 2 _ 2 _ (st2 t0) 3 U1 HV.out ((HP3.out.up HD.out).2.choose_spec))
            unfold bookV peerV at CK
            go_wp2_with fail
            refine Calls.mono CK.out ?_
            rintro e U2 hkp
            obtain ⟨hb, er, th, room, a9, m9, c9, UV9, t9, rfl, hk, hto⟩ := dropPost_open hkp
            obtain ⟨rfl, rfl, rfl, rfl, rfl⟩ := drop3 hto
            replace HD := hid (HD.out.trans (hb.mono HD.out.size))
            replace HV := hid (HV.out.up hb)
            have HQ := hid hk
            clear hkp hb hk hto CK
            go_wp2
            refine ⟨rfl, hK _ _ HD.out ?_⟩
            clear hK K
            refine anyL_readsO (f := 2) (c := 8) (q := [3, 4, 5]) (by simp only [pickO, List.getElem?_cons_zero, List.getElem?_cons_succ]; exact rfl) (by kernel_rfl) (by kernel_rfl) HD.out (by kernel_rfl) (by kernel_rfl) (by kernel_rfl) ?_
            repeat (go_big_quiet_step (fail))
            refine wpQuiet_nil ?_
            refine anyL_pick (f := 1) [6] (by kernel_rfl) (by decide) ?_
            intro i hi
            simp only [List.mem_cons, List.not_mem_nil, or_false] at hi
            subst hi
            refine ⟨_, rfl, ?_⟩
            intro K hK
            go_wp2
            have hb := below_alloc U2 (.cells #[.bool false, .int .i64 0, .slice none 0 0] 58)
            have hg := heap_alloc_new U2 (.cells #[.bool false, .int .i64 0, .slice none 0 0] 58)
            have hge := HD.out.size
            replace HD := hid (HD.out.trans (hb.mono HD.out.size))
            replace HV := hid (HV.out.up hb)
            replace HQ := hid (HQ.out.up hb)
            refine ⟨rfl, hK _ _ HD.out ?_⟩
            clear hK K
            obtain ⟨U3, hU3⟩ : ∃ u, World.alloc U2 (.cells #[.bool false, .int .i64 0, .slice none 0 0] 58) = u := ⟨_, rfl⟩
            rw [hU3] at hg HD ⊢
            rw [hU3] at HV
            rw [hU3] at HQ
            obtain ⟨g, hgg⟩ : ∃ g, U2.heap.size = g := ⟨_, rfl⟩
            rw [hgg] at hg hge ⊢
            have HG := hid hg
            have HGe := hid hge
            clear hb hg hge hgg hU3
            refine anyL_pick (f := 0) [7] (by kernel_rfl) (by decide) ?_
            intro i hi
            simp only [List.mem_cons, List.not_mem_nil, or_false] at hi
            subst hi
            refine ⟨_, rfl, ?_⟩
            intro K hK
            obtain ⟨s1, s2, s3⟩ := three_at HG.out
            have f1 := frozen_at (i := 0) HG.out
            have f2 := frozen_at (i := 1) HG.out
            have f3 := frozen_at (i := 2) HG.out
            go_wp2
            refine ⟨rfl, hK _ _ (put3_below HD.out HGe.out) ?_⟩
            clear hK K s1 s2 s3 f1 f2 f3
            refine anyL_end (by kernel_rfl) ?_
            exact ⟨g, ⟨_, _, _, _, _, _, _, _, _, _, _, _, _, _, _, _, _, _, _, _, _, _, _, _, _, _, _, rfl⟩, put3_below HD.out HGe.out, _, _, put3_whole HG.out _ _ _, _, kel_put HQ.out (st3_x t0) (by decide) HG.out⟩
          · refine ⟨_, rfl, ?_⟩
            intro K hK
            go_wp2
            have hb := below_alloc U1 (.cells #[.bool false, .int .i64 0, .slice none 0 0] 58)
            have hg := heap_alloc_new U1 (.cells #[.bool false, .int .i64 0, .slice none 0 0] 58)
            have hge := HD.out.size
            replace HD := hid (HD.out.trans (hb.mono HD.out.size))
            replace HV := hid (HV.out.up hb)
            refine ⟨rfl, hK _ _ HD.out ?_⟩
            clear hK K
            obtain ⟨U4, hU4⟩ : ∃ u, World.alloc U1 (.cells #[.bool false, .int .i64 0, .slice none 0 0] 58) = u := ⟨_, rfl⟩
            rw [hU4] at hg HD ⊢
            rw [hU4] at HV
            obtain ⟨g, hgg⟩ : ∃ g, U1.heap.size = g := ⟨_, rfl⟩
            rw [hgg] at hg hge ⊢
            have HG := hid hg
            have HGe := hid hge
            clear hb hg hge hgg hU4
            refine anyL_pick (f := 4) [2] (by kernel_rfl) (by decide) ?_
            intro i hi
            simp only [List.mem_cons, List.not_mem_nil, or_false] at hi
            subst hi
            refine ⟨_, rfl, ?_⟩
            intro K hK
            have CK := hid (HO.out.drop _ 5 PV famB false 2 _ 2 _ (st2 t0) 3 U4 HV.out ((HP3.out.up HD.out).2.choose_spec))
            unfold bookV peerV at CK
            go_wp2_with fail
            refine Calls.mono CK.out ?_
            rintro e U5 hkp
            obtain ⟨hb, er, th, room, a9, m9, c9, UV9, t9, rfl, hk, hto⟩ := dropPost_open hkp
            obtain ⟨rfl, rfl, rfl, rfl, rfl⟩ := drop3 hto
            replace HD := hid (HD.out.trans (hb.mono HD.out.size))
            replace HV := hid (HV.out.up hb)
            replace HG := hid (stayB HG.out hb)
            have HQ := hid hk
            clear hkp hb hk hto CK
            go_wp2
            refine ⟨rfl, hK _ _ HD.out ?_⟩
            clear hK K
            refine anyL_readsO (f := 1) (c := 8) (q := [3, 4, 5]) (by simp only [pickO, List.getElem?_cons_zero, List.getElem?_cons_succ]; exact rfl) (by kernel_rfl) (by kernel_rfl) HD.out (by kernel_rfl) (by kernel_rfl) (by kernel_rfl) ?_
            repeat (go_big_quiet_step (fail))
            refine wpQuiet_nil ?_
            refine anyL_pick (f := 0) [7] (by kernel_rfl) (by decide) ?_
            intro i hi
            simp only [List.mem_cons, List.not_mem_nil, or_false] at hi
            subst hi
            refine ⟨_, rfl, ?_⟩
            intro K hK
            obtain ⟨s1, s2, s3⟩ := three_at HG.out
            have f1 := frozen_at (i := 0) HG.out
            have f2 := frozen_at (i := 1) HG.out
            have f3 := frozen_at (i := 2) HG.out
            go_wp2
            refine ⟨rfl, hK _ _ (put3_below HD.out HGe.out) ?_⟩
            clear hK K s1 s2 s3 f1 f2 f3
            refine anyL_end (by kernel_rfl) ?_
            exact ⟨g, ⟨_, _, _, _, _, _, _, _, _, _, _, _, _, _, _, _, _, _, _, _, _, _, _, _, _, _, _, rfl⟩, put3_below HD.out HGe.out, _, _, put3_whole HG.out _ _ _, _, kel_put HQ.out (st3_x t0) (by decide) HG.out⟩
        · refine ⟨_, rfl, ?_⟩
          intro K hK
          go_wp2
          have hb := below_alloc U0 (.cells #[.bool false, .int .i64 0, .slice none 0 0] 58)
          have hg := heap_alloc_new U0 (.cells #[.bool false, .int .i64 0, .slice none 0 0] 58)
          have hge := HD.out.size
          replace HD := hid (HD.out.trans (hb.mono HD.out.size))
          refine ⟨rfl, hK _ _ HD.out ?_⟩
          clear hK K
          obtain ⟨U6, hU6⟩ : ∃ u, World.alloc U0 (.cells #[.bool false, .int .i64 0, .slice none 0 0] 58) = u := ⟨_, rfl⟩
          rw [hU6] at hg HD ⊢
          obtain ⟨g, hgg⟩ : ∃ g, U0.heap.size = g := ⟨_, rfl⟩
          rw [hgg] at hg hge ⊢
          have HG := hid hg
          have HGe := hid hge
          clear hb hg hge hgg hU6
          refine anyL_pick (f := 5) [0] (by kernel_rfl) (by decide) ?_
          intro i hi
          simp only [List.mem_cons, List.not_mem_nil, or_false] at hi
          subst hi
          refine ⟨_, rfl, ?_⟩
          intro K hK
          go_wp2_with fail
          refine Calls.mono (family_any U6) ?_
          rintro e U7 ⟨hb, bl, PV, rfl, hv⟩
          replace HD := hid (HD.out.trans (hb.mono HD.out.size))
          replace HG := hid (stayB HG.out hb)
          have HV := hid hv
          clear hb hv
          unfold bookV
          go_wp2
          refine ⟨rfl, hK _ _ HD.out ?_⟩
          clear hK K
          refine anyL_pick (f := 4) [2] (by kernel_rfl) (by decide) ?_
          intro i hi
          simp only [List.mem_cons, List.not_mem_nil, or_false] at hi
          subst hi
          refine ⟨_, rfl, ?_⟩
          intro K hK
          have CK := hid (HO.out.drop _ 5 PV famB false 2 _ 2 _ (st2 t0) 3 U7 HV.out ((HP3.out.up HD.out).2.choose_spec))
          unfold bookV peerV at CK
          go_wp2_with fail
          refine Calls.mono CK.out ?_
          rintro e U8 hkp
          obtain ⟨hb, er, th, room, a9, m9, c9, UV9, t9, rfl, hk, hto⟩ := dropPost_open hkp
          obtain ⟨rfl, rfl, rfl, rfl, rfl⟩ := drop3 hto
          replace HD := hid (HD.out.trans (hb.mono HD.out.size))
          replace HV := hid (HV.out.up hb)
          replace HG := hid (stayB HG.out hb)
          have HQ := hid hk
          clear hkp hb hk hto CK
          go_wp2
          refine ⟨rfl, hK _ _ HD.out ?_⟩
          clear hK K
          refine anyL_readsO (f := 1) (c := 8) (q := [3, 4, 5]) (by simp only [pickO, List.getElem?_cons_zero, List.getElem?_cons_succ]; exact rfl) (by kernel_rfl) (by kernel_rfl) HD.out (by kernel_rfl) (by kernel_rfl) (by kernel_rfl) ?_
          repeat (go_big_quiet_step (fail))
          refine wpQuiet_nil ?_
          refine anyL_pick (f := 0) [7] (by kernel_rfl) (by decide) ?_
          intro i hi
          simp only [List.mem_cons, List.not_mem_nil, or_false] at hi
          subst hi
          refine ⟨_, rfl, ?_⟩
          intro K hK
          obtain ⟨s1, s2, s3⟩ := three_at HG.out
          have f1 := frozen_at (i := 0) HG.out
          have f2 := frozen_at (i := 1) HG.out
          have f3 := frozen_at (i := 2) HG.out
          go_wp2
          refine ⟨rfl, hK _ _ (put3_below HD.out HGe.out) ?_⟩
          clear hK K s1 s2 s3 f1 f2 f3
          refine anyL_end (by kernel_rfl) ?_
          exact ⟨g, ⟨_, _, _, _, _, _, _, _, _, _, _, _, _, _, _, _, _, _, _, _, _, _, _, _, _, _, _, rfl⟩, put3_below HD.out HGe.out, _, _, put3_whole HG.out _ _ _, _, kel_put HQ.out (st3_x t0) (by decide) HG.out⟩
      · rintro a' W4 ⟨gq, ⟨j4, j10, j11, j12, j13, j14, j15, j16, j17, j18, j19, j20, j21, j22, j23, j24, j25, j26, j27, j28, j29, j30, j31, j32, j33, j34, j35, rfl⟩, hb, aq, cq, hq⟩
        have HP4 := hid (HP3.out.up hb)
        have HQ4 := hid hq
        have BW4 := hid (BW3.out.trans (hb.mono BW3.out.size))
        clear hb hq HP3 BW3 F1 F2 F3 hne
        go_wp2_with fail
        have hne : Nonempty (Of (Below W4.heap.size W4)) := ⟨⟨W4, Below.refl _ _⟩⟩
        obtain ⟨p1, p2, p3⟩ := HQ4.out.cells
        have F1 : ∀ u : Of (Below W4.heap.size W4), u.val.cell? ⟨gq, 0, none⟩ = some _ := fun u => by rw [u.is.cell (cell_lt p1)]; exact p1
        have F2 : ∀ u : Of (Below W4.heap.size W4), u.val.cell? ⟨gq, 1, none⟩ = some _ := fun u => by rw [u.is.cell (cell_lt p2)]; exact p2
        have F3 : ∀ u : Of (Below W4.heap.size W4), u.val.cell? ⟨gq, 2, none⟩ = some _ := fun u => by rw [u.is.cell (cell_lt p3)]; exact p3
        clear p1 p2 p3
        refine region_tree_to (Below W4.heap.size W4) 9 #[true, true, true, true, true, true, true, true, true, false] 9 (fun a' w' => (∃ j4 j8 j10 j11 j12 j13 j14 j15 j16 j17 j18 j19 j20 j21 j22 j23 j24 j25 j26 j27 j28 j29 j30 j31 j32 j33 j34 j35 j36 j37 j38 j39 j40 j41 j42 : Value, a' = ⟨#[.bool false, .pointer (some ⟨gp, 0, none⟩), .int .i64 0, .int .i64 0, j4, .int .i64 8, .pointer (some ⟨gq, 0, none⟩), .int .i64 0, j8, undef, j10, j11, j12, j13, j14, j15, j16, j17, j18, j19, j20, j21, j22, j23, j24, j25, j26, j27, j28, j29, j30, j31, j32, j33, j34, j35, j36, j37, j38, j39, j40, j41, j42, .int .i64 5, undef, undef, undef, undef, undef, undef, undef, undef, undef, undef, undef, undef, undef, undef, undef, undef, undef, undef, undef, undef, undef, undef, undef, undef, undef, undef, undef, undef, undef, undef, undef, undef, undef, undef, undef, undef, undef, undef, undef, undef, undef, undef, undef, undef, undef], []⟩) ∧ Below W4.heap.size W4 w') (by kernel_rfl) (by kernel_rfl) (by kernel_rfl) rfl (by simp only [pickO, List.getElem?_cons_zero, List.getElem?_cons_succ]; exact rfl) rfl ?_ ?_
        · obtain ⟨U0, hU0⟩ : ∃ u, W4.drew = u := ⟨_, rfl⟩
          have HD : Hid (Below W4.heap.size W4 U0) := by rw [← hU0]; exact drew_below W4
          rw [hU0]
          clear hU0
          refine anyL_readsO (f := 8) (c := 9) (q := [1]) (by simp only [pickO, List.getElem?_cons_zero, List.getElem?_cons_succ]; exact rfl) (by kernel_rfl) (by kernel_rfl) HD.out (by kernel_rfl) (by kernel_rfl) (by kernel_rfl) ?_
          repeat (go_big_quiet_step (fail))
          refine wpQuiet_nil ?_
          refine anyL_pick (f := 7) [0, 7] (by kernel_rfl) (by decide) ?_
          intro i hi
          simp only [List.mem_cons, List.not_mem_nil, or_false] at hi
          rcases hi with rfl | rfl
          · refine ⟨_, rfl, ?_⟩
            intro K hK
            go_wp2_with fail
            refine Calls.mono (family_any U0) ?_
            rintro e U1 ⟨hb, bl, PV, rfl, hv⟩
            replace HD := hid (HD.out.trans (hb.mono HD.out.size))
            have HV := hid hv
            clear hb hv
            unfold bookV
            go_wp2
            refine ⟨rfl, hK _ _ HD.out ?_⟩
            clear hK K
            refine anyL_pick (f := 6) [2, 7] (by kernel_rfl) (by decide) ?_
            intro i hi
            simp only [List.mem_cons, List.not_mem_nil, or_false] at hi
            rcases hi with rfl | rfl
            · refine ⟨_, rfl, ?_⟩
              intro K hK
              go_wp2_with fail
              refine Calls.mono (keptOf_any 1 U1) ?_
              rintro e U2 ⟨hb, uv, rfl, hu⟩
              replace HD := hid (HD.out.trans (hb.mono HD.out.size))
              replace HV := hid (HV.out.up hb)
              have HI := hid hu
              clear hb hu
              unfold keptV
              go_wp2
              refine ⟨rfl, hK _ _ HD.out ?_⟩
              clear hK K
              refine anyL_pick (f := 5) [3, 7] (by kernel_rfl) (by decide) ?_
              intro i hi
              simp only [List.mem_cons, List.not_mem_nil, or_false] at hi
              rcases hi with rfl | rfl
              · refine ⟨_, rfl, ?_⟩
                intro K hK
                have CK := hid (HO.out.keep _ 5 PV famB false 2 _ 1 _ (st3 t0) 1 0 uv 1 x7 U2 HV.out ((HQ4.out.up HD.out).2.choose_spec) HI.out)
                unfold bookV peerV keptV at CK
                go_wp2_with fail
                refine Calls.mono CK.out ?_
                rintro e U3 hkp
                obtain ⟨hb, er, th, room, a9, m9, c9, UV9, t9, rfl, hk, hto⟩ := keepPost_open hkp
                obtain rfl := keep4 hto
                replace HD := hid (HD.out.trans (hb.mono HD.out.size))
                replace HV := hid (HV.out.up hb)
                replace HI := hid (HI.out.up hb)

                clear hkp hb hk hto CK
                go_wp2
                refine ⟨rfl, hK _ _ HD.out ?_⟩
                clear hK K
                refine anyL_readsO (f := 2) (c := 9) (q := [4, 5, 6]) (by simp only [pickO, List.getElem?_cons_zero, List.getElem?_cons_succ]; exact rfl) (by kernel_rfl) (by kernel_rfl) HD.out (by kernel_rfl) (by kernel_rfl) (by kernel_rfl) ?_
                repeat (go_big_quiet_step (fail))
                refine wpQuiet_nil ?_
                refine anyL_pick (f := 1) [7] (by kernel_rfl) (by decide) ?_
                intro i hi
                simp only [List.mem_cons, List.not_mem_nil, or_false] at hi
                subst hi
                refine ⟨_, rfl, ?_⟩
                intro K hK
                go_wp2
                have hb := below_alloc U3 (.cells #[.bool false, .int .i64 0, .slice none 0 0] 58)
                have hg := heap_alloc_new U3 (.cells #[.bool false, .int .i64 0, .slice none 0 0] 58)
                have hge := HD.out.size
                replace HD := hid (HD.out.trans (hb.mono HD.out.size))
                replace HV := hid (HV.out.up hb)
                replace HI := hid (HI.out.up hb)
                refine ⟨rfl, hK _ _ HD.out ?_⟩
                clear hK K
                obtain ⟨U4, hU4⟩ : ∃ u, World.alloc U3 (.cells #[.bool false, .int .i64 0, .slice none 0 0] 58) = u := ⟨_, rfl⟩
                rw [hU4] at hg HD ⊢
                rw [hU4] at HV
                rw [hU4] at HI
                obtain ⟨g, hgg⟩ : ∃ g, U3.heap.size = g := ⟨_, rfl⟩
                rw [hgg] at hg hge ⊢
                have HG := hid hg
                have HGe := hid hge
                clear hb hg hge hgg hU4
                refine anyL_pick (f := 0) [8] (by kernel_rfl) (by decide) ?_
                intro i hi
                simp only [List.mem_cons, List.not_mem_nil, or_false] at hi
                subst hi
                refine ⟨_, rfl, ?_⟩
                intro K hK
                obtain ⟨s1, s2, s3⟩ := three_at HG.out
                have f1 := frozen_at (i := 0) HG.out
                have f2 := frozen_at (i := 1) HG.out
                have f3 := frozen_at (i := 2) HG.out
                go_wp2
                refine ⟨rfl, hK _ _ (put3_below HD.out HGe.out) ?_⟩
                clear hK K s1 s2 s3 f1 f2 f3
                refine anyL_end (by kernel_rfl) ?_
                exact ⟨⟨_, _, _, _, _, _, _, _, _, _, _, _, _, _, _, _, _, _, _, _, _, _, _, _, _, _, _, _, _, _, _, _, _, _, _, rfl⟩, put3_below HD.out HGe.out⟩
              · refine ⟨_, rfl, ?_⟩
                intro K hK
                go_wp2
                have hb := below_alloc U2 (.cells #[.bool false, .int .i64 0, .slice none 0 0] 58)
                have hg := heap_alloc_new U2 (.cells #[.bool false, .int .i64 0, .slice none 0 0] 58)
                have hge := HD.out.size
                replace HD := hid (HD.out.trans (hb.mono HD.out.size))
                replace HV := hid (HV.out.up hb)
                replace HI := hid (HI.out.up hb)
                refine ⟨rfl, hK _ _ HD.out ?_⟩
                clear hK K
                obtain ⟨U5, hU5⟩ : ∃ u, World.alloc U2 (.cells #[.bool false, .int .i64 0, .slice none 0 0] 58) = u := ⟨_, rfl⟩
                rw [hU5] at hg HD ⊢
                rw [hU5] at HV
                rw [hU5] at HI
                obtain ⟨g, hgg⟩ : ∃ g, U2.heap.size = g := ⟨_, rfl⟩
                rw [hgg] at hg hge ⊢
                have HG := hid hg
                have HGe := hid hge
                clear hb hg hge hgg hU5
                refine anyL_pick (f := 4) [3] (by kernel_rfl) (by decide) ?_
                intro i hi
                simp only [List.mem_cons, List.not_mem_nil, or_false] at hi
                subst hi
                refine ⟨_, rfl, ?_⟩
                intro K hK
                have CK := hid (HO.out.keep _ 5 PV famB false 2 _ 1 _ (st3 t0) 1 0 uv 1 x7 U5 HV.out ((HQ4.out.up HD.out).2.choose_spec) HI.out)
                unfold bookV peerV keptV at CK
                go_wp2_with fail
                refine Calls.mono CK.out ?_
                rintro e U6 hkp
                obtain ⟨hb, er, th, room, a9, m9, c9, UV9, t9, rfl, hk, hto⟩ := keepPost_open hkp
                obtain rfl := keep4 hto
                replace HD := hid (HD.out.trans (hb.mono HD.out.size))
                replace HV := hid (HV.out.up hb)
                replace HI := hid (HI.out.up hb)
                replace HG := hid (stayB HG.out hb)

                clear hkp hb hk hto CK
                go_wp2
                refine ⟨rfl, hK _ _ HD.out ?_⟩
                clear hK K
                refine anyL_readsO (f := 1) (c := 9) (q := [4, 5, 6]) (by simp only [pickO, List.getElem?_cons_zero, List.getElem?_cons_succ]; exact rfl) (by kernel_rfl) (by kernel_rfl) HD.out (by kernel_rfl) (by kernel_rfl) (by kernel_rfl) ?_
                repeat (go_big_quiet_step (fail))
                refine wpQuiet_nil ?_
                refine anyL_pick (f := 0) [8] (by kernel_rfl) (by decide) ?_
                intro i hi
                simp only [List.mem_cons, List.not_mem_nil, or_false] at hi
                subst hi
                refine ⟨_, rfl, ?_⟩
                intro K hK
                obtain ⟨s1, s2, s3⟩ := three_at HG.out
                have f1 := frozen_at (i := 0) HG.out
                have f2 := frozen_at (i := 1) HG.out
                have f3 := frozen_at (i := 2) HG.out
                go_wp2
                refine ⟨rfl, hK _ _ (put3_below HD.out HGe.out) ?_⟩
                clear hK K s1 s2 s3 f1 f2 f3
                refine anyL_end (by kernel_rfl) ?_
                exact ⟨⟨_, _, _, _, _, _, _, _, _, _, _, _, _, _, _, _, _, _, _, _, _, _, _, _, _, _, _, _, _, _, _, _, _, _, _, rfl⟩, put3_below HD.out HGe.out⟩
            · refine ⟨_, rfl, ?_⟩
              intro K hK
              go_wp2
              have hb := below_alloc U1 (.cells #[.bool false, .int .i64 0, .slice none 0 0] 58)
              have hg := heap_alloc_new U1 (.cells #[.bool false, .int .i64 0, .slice none 0 0] 58)
              have hge := HD.out.size
              replace HD := hid (HD.out.trans (hb.mono HD.out.size))
              replace HV := hid (HV.out.up hb)
              refine ⟨rfl, hK _ _ HD.out ?_⟩
              clear hK K
              obtain ⟨U7, hU7⟩ : ∃ u, World.alloc U1 (.cells #[.bool false, .int .i64 0, .slice none 0 0] 58) = u := ⟨_, rfl⟩
              rw [hU7] at hg HD ⊢
              rw [hU7] at HV
              obtain ⟨g, hgg⟩ : ∃ g, U1.heap.size = g := ⟨_, rfl⟩
              rw [hgg] at hg hge ⊢
              have HG := hid hg
              have HGe := hid hge
              clear hb hg hge hgg hU7
              refine anyL_pick (f := 5) [2] (by kernel_rfl) (by decide) ?_
              intro i hi
              simp only [List.mem_cons, List.not_mem_nil, or_false] at hi
              subst hi
              refine ⟨_, rfl, ?_⟩
              intro K hK
              go_wp2_with fail
              refine Calls.mono (keptOf_any 1 U7) ?_
              rintro e U8 ⟨hb, uv, rfl, hu⟩
              replace HD := hid (HD.out.trans (hb.mono HD.out.size))
              replace HV := hid (HV.out.up hb)
              replace HG := hid (stayB HG.out hb)
              have HI := hid hu
              clear hb hu
              unfold keptV
              go_wp2
              refine ⟨rfl, hK _ _ HD.out ?_⟩
              clear hK K
              refine anyL_pick (f := 4) [3] (by kernel_rfl) (by decide) ?_
              intro i hi
              simp only [List.mem_cons, List.not_mem_nil, or_false] at hi
              subst hi
              refine ⟨_, rfl, ?_⟩
              intro K hK
              have CK := hid (HO.out.keep _ 5 PV famB false 2 _ 1 _ (st3 t0) 1 0 uv 1 x7 U8 HV.out ((HQ4.out.up HD.out).2.choose_spec) HI.out)
              unfold bookV peerV keptV at CK
              go_wp2_with fail
              refine Calls.mono CK.out ?_
              rintro e U9 hkp
              obtain ⟨hb, er, th, room, a9, m9, c9, UV9, t9, rfl, hk, hto⟩ := keepPost_open hkp
              obtain rfl := keep4 hto
              replace HD := hid (HD.out.trans (hb.mono HD.out.size))
              replace HV := hid (HV.out.up hb)
              replace HI := hid (HI.out.up hb)
              replace HG := hid (stayB HG.out hb)

              clear hkp hb hk hto CK
              go_wp2
              refine ⟨rfl, hK _ _ HD.out ?_⟩
              clear hK K
              refine anyL_readsO (f := 1) (c := 9) (q := [4, 5, 6]) (by simp only [pickO, List.getElem?_cons_zero, List.getElem?_cons_succ]; exact rfl) (by kernel_rfl) (by kernel_rfl) HD.out (by kernel_rfl) (by kernel_rfl) (by kernel_rfl) ?_
              repeat (go_big_quiet_step (fail))
              refine wpQuiet_nil ?_
              refine anyL_pick (f := 0) [8] (by kernel_rfl) (by decide) ?_
              intro i hi
              simp only [List.mem_cons, List.not_mem_nil, or_false] at hi
              subst hi
              refine ⟨_, rfl, ?_⟩
              intro K hK
              obtain ⟨s1, s2, s3⟩ := three_at HG.out
              have f1 := frozen_at (i := 0) HG.out
              have f2 := frozen_at (i := 1) HG.out
              have f3 := frozen_at (i := 2) HG.out
              go_wp2
              refine ⟨rfl, hK _ _ (put3_below HD.out HGe.out) ?_⟩
              clear hK K s1 s2 s3 f1 f2 f3
              refine anyL_end (by kernel_rfl) ?_
              exact ⟨⟨_, _, _, _, _, _, _, _, _, _, _, _, _, _, _, _, _, _, _, _, _, _, _, _, _, _, _, _, _, _, _, _, _, _, _, rfl⟩, put3_below HD.out HGe.out⟩
          · refine ⟨_, rfl, ?_⟩
            intro K hK
            go_wp2
            have hb := below_alloc U0 (.cells #[.bool false, .int .i64 0, .slice none 0 0] 58)
            have hg := heap_alloc_new U0 (.cells #[.bool false, .int .i64 0, .slice none 0 0] 58)
            have hge := HD.out.size
            replace HD := hid (HD.out.trans (hb.mono HD.out.size))
            refine ⟨rfl, hK _ _ HD.out ?_⟩
            clear hK K
            obtain ⟨U10, hU10⟩ : ∃ u, World.alloc U0 (.cells #[.bool false, .int .i64 0, .slice none 0 0] 58) = u := ⟨_, rfl⟩
            rw [hU10] at hg HD ⊢
            obtain ⟨g, hgg⟩ : ∃ g, U0.heap.size = g := ⟨_, rfl⟩
            rw [hgg] at hg hge ⊢
            have HG := hid hg
            have HGe := hid hge
            clear hb hg hge hgg hU10
            refine anyL_pick (f := 6) [0] (by kernel_rfl) (by decide) ?_
            intro i hi
            simp only [List.mem_cons, List.not_mem_nil, or_false] at hi
            subst hi
            refine ⟨_, rfl, ?_⟩
            intro K hK
            go_wp2_with fail
            refine Calls.mono (family_any U10) ?_
            rintro e U11 ⟨hb, bl, PV, rfl, hv⟩
            replace HD := hid (HD.out.trans (hb.mono HD.out.size))
            replace HG := hid (stayB HG.out hb)
            have HV := hid hv
            clear hb hv
            unfold bookV
            go_wp2
            refine ⟨rfl, hK _ _ HD.out ?_⟩
            clear hK K
            refine anyL_pick (f := 5) [2] (by kernel_rfl) (by decide) ?_
            intro i hi
            simp only [List.mem_cons, List.not_mem_nil, or_false] at hi
            subst hi
            refine ⟨_, rfl, ?_⟩
            intro K hK
            go_wp2_with fail
            refine Calls.mono (keptOf_any 1 U11) ?_
            rintro e U12 ⟨hb, uv, rfl, hu⟩
            replace HD := hid (HD.out.trans (hb.mono HD.out.size))
            replace HV := hid (HV.out.up hb)
            replace HG := hid (stayB HG.out hb)
            have HI := hid hu
            clear hb hu
            unfold keptV
            go_wp2
            refine ⟨rfl, hK _ _ HD.out ?_⟩
            clear hK K
            refine anyL_pick (f := 4) [3] (by kernel_rfl) (by decide) ?_
            intro i hi
            simp only [List.mem_cons, List.not_mem_nil, or_false] at hi
            subst hi
            refine ⟨_, rfl, ?_⟩
            intro K hK
            have CK := hid (HO.out.keep _ 5 PV famB false 2 _ 1 _ (st3 t0) 1 0 uv 1 x7 U12 HV.out ((HQ4.out.up HD.out).2.choose_spec) HI.out)
            unfold bookV peerV keptV at CK
            go_wp2_with fail
            refine Calls.mono CK.out ?_
            rintro e U13 hkp
            obtain ⟨hb, er, th, room, a9, m9, c9, UV9, t9, rfl, hk, hto⟩ := keepPost_open hkp
            obtain rfl := keep4 hto
            replace HD := hid (HD.out.trans (hb.mono HD.out.size))
            replace HV := hid (HV.out.up hb)
            replace HI := hid (HI.out.up hb)
            replace HG := hid (stayB HG.out hb)

            clear hkp hb hk hto CK
            go_wp2
            refine ⟨rfl, hK _ _ HD.out ?_⟩
            clear hK K
            refine anyL_readsO (f := 1) (c := 9) (q := [4, 5, 6]) (by simp only [pickO, List.getElem?_cons_zero, List.getElem?_cons_succ]; exact rfl) (by kernel_rfl) (by kernel_rfl) HD.out (by kernel_rfl) (by kernel_rfl) (by kernel_rfl) ?_
            repeat (go_big_quiet_step (fail))
            refine wpQuiet_nil ?_
            refine anyL_pick (f := 0) [8] (by kernel_rfl) (by decide) ?_
            intro i hi
            simp only [List.mem_cons, List.not_mem_nil, or_false] at hi
            subst hi
            refine ⟨_, rfl, ?_⟩
            intro K hK
            obtain ⟨s1, s2, s3⟩ := three_at HG.out
            have f1 := frozen_at (i := 0) HG.out
            have f2 := frozen_at (i := 1) HG.out
            have f3 := frozen_at (i := 2) HG.out
            go_wp2
            refine ⟨rfl, hK _ _ (put3_below HD.out HGe.out) ?_⟩
            clear hK K s1 s2 s3 f1 f2 f3
            refine anyL_end (by kernel_rfl) ?_
            exact ⟨⟨_, _, _, _, _, _, _, _, _, _, _, _, _, _, _, _, _, _, _, _, _, _, _, _, _, _, _, _, _, _, _, _, _, _, _, rfl⟩, put3_below HD.out HGe.out⟩
        · rintro a' W5 ⟨⟨j4, j8, j10, j11, j12, j13, j14, j15, j16, j17, j18, j19, j20, j21, j22, j23, j24, j25, j26, j27, j28, j29, j30, j31, j32, j33, j34, j35, j36, j37, j38, j39, j40, j41, j42, rfl⟩, hb⟩
          have HP5 := hid (HP4.out.up hb)
          have HQ5 := hid (HQ4.out.up hb)
          have BW5 := hid (BW4.out.trans (hb.mono BW4.out.size))
          clear hb HP4 HQ4 BW4 F1 F2 F3 hne
          go_wp2_with fail
          have hne : Nonempty (Of (Below W5.heap.size W5)) := ⟨⟨W5, Below.refl _ _⟩⟩
          obtain ⟨p1, p2, p3⟩ := HP5.out.cells
          have F1 : ∀ u : Of (Below W5.heap.size W5), u.val.cell? ⟨gp, 0, none⟩ = some _ := fun u => by rw [u.is.cell (cell_lt p1)]; exact p1
          have F2 : ∀ u : Of (Below W5.heap.size W5), u.val.cell? ⟨gp, 1, none⟩ = some _ := fun u => by rw [u.is.cell (cell_lt p2)]; exact p2
          have F3 : ∀ u : Of (Below W5.heap.size W5), u.val.cell? ⟨gp, 2, none⟩ = some _ := fun u => by rw [u.is.cell (cell_lt p3)]; exact p3
          clear p1 p2 p3
          obtain ⟨q1, q2, q3⟩ := HQ5.out.cells
          have F4 : ∀ u : Of (Below W5.heap.size W5), u.val.cell? ⟨gq, 0, none⟩ = some _ := fun u => by rw [u.is.cell (cell_lt q1)]; exact q1
          have F5 : ∀ u : Of (Below W5.heap.size W5), u.val.cell? ⟨gq, 1, none⟩ = some _ := fun u => by rw [u.is.cell (cell_lt q2)]; exact q2
          have F6 : ∀ u : Of (Below W5.heap.size W5), u.val.cell? ⟨gq, 2, none⟩ = some _ := fun u => by rw [u.is.cell (cell_lt q3)]; exact q3
          clear q1 q2 q3
          have HD : Hid (Below W5.heap.size W5 W5.drew) := drew_below W5
          obtain ⟨UVp, hkp⟩ := HP5.out.2
          obtain ⟨UVq, hkq⟩ := HQ5.out.2
          have HKp := hid hkp
          have HKq := hid hkq
          clear hkp hkq
          refine region_mixed (Below W5.heap.size W5) [([0, 1, 2, 3, 4, 5, 6, 7, 8, 9, 10, 11, 12, 13, 14, 15, 16, 17, 18, 19], 20), ([21, 22, 23, 24], 25), ([26, 27, 28, 29, 30, 31, 32, 33, 34, 36], 35), ([], 37), ([38, 39, 40, 41, 42], 43)] [44, 45] (by kernel_rfl) (by kernel_rfl) HD.out ?_
          refine mixO_cons (by simp only [pickO, List.getElem?_cons_zero, List.getElem?_cons_succ]; exact rfl) (by simp only [pickO, List.getElem?_cons_zero, List.getElem?_cons_succ]; exact rfl) ?_
          repeat (go_big_quiet_step (fail))
          refine wpQuiet_nil ?_
          intro K hK
          have CF := hid (HO.out.find false 2 _ 2 UVp (st2 t0) 3 W5.drew (HKp.out.up HD.out))
          rw [(fnd t0).1] at CF
          unfold peerV at CF
          go_wp2_with fail
          refine Calls.mono CF.out ?_
          rintro e u1 ⟨rfl, hb⟩
          replace HD := hid (HD.out.trans (hb.mono HD.out.size))
          clear hb
          go_wp2
          refine ⟨rfl, hK _ _ HD.out ?_⟩
          clear hK K
          refine mixO_cons (by simp only [pickO, List.getElem?_cons_zero, List.getElem?_cons_succ]; exact rfl) (by simp only [pickO, List.getElem?_cons_zero, List.getElem?_cons_succ]; exact rfl) ?_
          repeat (go_big_quiet_step (fail))
          refine wpQuiet_nil ?_
          intro K hK
          replace CF := hid (HO.out.find false 2 _ 1 UVq (st3 t0) 3 u1 (HKq.out.up HD.out))
          rw [(fnd t0).2.1] at CF
          unfold peerV at CF
          go_wp2_with fail
          refine Calls.mono CF.out ?_
          rintro e u2 ⟨rfl, hb⟩
          replace HD := hid (HD.out.trans (hb.mono HD.out.size))
          clear hb
          go_wp2
          refine ⟨rfl, hK _ _ HD.out ?_⟩
          clear hK K
          refine mixO_cons (by simp only [pickO, List.getElem?_cons_zero, List.getElem?_cons_succ]; exact rfl) (by simp only [pickO, List.getElem?_cons_zero, List.getElem?_cons_succ]; exact rfl) ?_
          repeat (go_big_quiet_step (fail))
          refine wpQuiet_nil ?_
          intro K hK

          go_wp2_with fail
          refine Calls.mono (family_any u2) ?_
          rintro e u3 ⟨hb, bl, PV, rfl, hv⟩
          replace HD := hid (HD.out.trans (hb.mono HD.out.size))
          have HV := hid hv
          clear hv
          unfold bookV
          clear hb
          go_wp2
          refine ⟨rfl, hK _ _ HD.out ?_⟩
          clear hK K
          refine mixO_cons (lq := []) rfl (by simp only [pickO, List.getElem?_cons_zero, List.getElem?_cons_succ]; exact rfl) ?_
          repeat (go_big_quiet_step (fail))
          refine wpQuiet_nil ?_
          intro K hK
          replace CF := hid (HO.out.check _ 5 PV famB false 2 _ 2 UVp (st2 t0) u3 HV.out (HKp.out.up HD.out))
          rw [pe2] at CF
          unfold bookV peerV at CF
          go_wp2_with fail
          refine Calls.mono CF.out ?_
          rintro e u4 ⟨rfl, hb⟩
          replace HD := hid (HD.out.trans (hb.mono HD.out.size))
          clear hb
          go_wp2
          refine ⟨rfl, hK _ _ HD.out ?_⟩
          clear hK K
          refine mixO_cons (by simp only [pickO, List.getElem?_cons_zero, List.getElem?_cons_succ]; exact rfl) (by simp only [pickO, List.getElem?_cons_zero, List.getElem?_cons_succ]; exact rfl) ?_
          repeat (go_big_quiet_step (fail))
          refine wpQuiet_nil ?_
          intro K hK
          replace CF := hid (HO.out.same false false 2 2 u4 _ _ 2 2 UVp UVp (st2 t0) (st2 t0) (HKp.out.up HD.out) (HKp.out.up HD.out))
          rw [peerB_refl] at CF
          unfold peerV at CF
          go_wp2_with fail
          refine Calls.mono CF.out ?_
          rintro e u5 ⟨rfl, hb⟩
          replace HD := hid (HD.out.trans (hb.mono HD.out.size))
          clear hb
          go_wp2
          refine ⟨rfl, hK _ _ HD.out ?_⟩
          clear hK K
          refine mixO_nil (by simp only [pickO, List.getElem?_cons_zero, List.getElem?_cons_succ]; exact rfl) ?_
          repeat (go_big_quiet_step (fail))
          refine wpQuiet_nil ?_
          go_wp2
          go_ret
          exact ⟨rfl, BW5.out.trans (HD.out.mono BW5.out.size)⟩

end Go.Proofs.Ytdhefajaekackaa
