/- Several texts of one proof, in their order. -/
import Derived.Test.YtikchpffkhohlaaGreatASum4
import Derived.Shelf.SlLaysF0
import Derived.Test.YtikchpffkhohlaaGreatProg
import Derived.Shelf.SlSortCmp.WholeK
import Derived.Test.YtikchpffkhohlaaGreatASum3

namespace Go.Proofs.YtikchpffkhohlaaGreat

open Go.RowKit
set_option linter.unusedVariables false

theorem three_at {w : World} {g : Nat} {T : TypeId} {u0 u1 u2 : Value} (h : w.heap[g]? = some (.cells #[u0, u1, u2] T (0, 0))) :
    w.cell? ⟨g, 0, none⟩ = some u0 ∧ w.cell? ⟨g, 1, none⟩ = some u1 ∧ w.cell? ⟨g, 2, none⟩ = some u2 := ⟨cell_at h rfl, cell_at h rfl, cell_at h rfl⟩

set_option maxHeartbeats 4000000 in
theorem checkPeer_any (vb : Value) (n : Nat) (PV : Nat → Value) (b : Bk) (th : Bool) (room : Int) (vk : Value) (m : Nat) (UV : Nat → Value) (t : Kt) (w : World) (hv : VeSl w w.heap.size vb n PV b) (hk : KeSl w w.heap.size vk m UV t) :
    Calls Tryz.prog 104 #[bookV vb, peerV th room vk] w fun e w' => e = .returned (.int .i64 (peerE n b room m t)) ∧ Below w.heap.size w w' := by
  have HV := hid hv
  have HKe := hid hk
  obtain ⟨ad, cap, rfl, ⟨hcap, hbig⟩, hx⟩ := hv
  obtain ⟨ak, capk, rfl, ⟨hcapk, hbigk⟩, hxk⟩ := hk
  have hb0 := ((Below.refl w.heap.size w).alloc (Nat.le_refl _) (.cells #[.slice ad n cap] 24)).alloc (by simp) (.cells #[.bool th, .int .i64 room, .slice ak m capk] 47)
  have k1 := heap_two_old w (.cells #[.slice ad n cap] 24) (.cells #[.bool th, .int .i64 room, .slice ak m capk] 47)
  have k2 := heap_two_new w (.cells #[.slice ad n cap] 24) (.cells #[.bool th, .int .i64 room, .slice ak m capk] 47)
  obtain ⟨U, hU⟩ : ∃ U, (w.alloc (.cells #[.slice ad n cap] 24)).alloc (.cells #[.bool th, .int .i64 room, .slice ak m capk] 47) = U := ⟨_, rfl⟩
  rw [hU] at hb0 k1 k2
  have B0 := hid hb0
  have K1 := hid k1
  have K2 := hid k2
  have HX := hid hx
  have HXk := hid hxk
  obtain ⟨ans, hans⟩ : ∃ a, peerE n b room m t = a := ⟨_, rfl⟩
  rw [hans]
  unfold peerE at hans
  obtain ⟨c, hc⟩ : ∃ c, bookE n b = c := ⟨_, rfl⟩
  have CK := hid (checkBook_any _ n PV b U (HV.out.up hb0))
  rw [hc] at CK hans
  have HA := hid hans
  have c1 := cell_at (i := 0) k1 rfl
  clear hb0 k1 k2 hx hxk hans
  unfold bookV at CK
  unfold bookV peerV
  go_enter Tryz.func104, Tryz.ntmps104
  go_wp2_with fail
  refine Calls.mono CK.out ?_
  rintro e W ⟨rfl, hbW⟩
  have B1 := hid (B0.out.trans (hbW.mono B0.out.size))
  have k1 : W.heap[w.heap.size]? = some (.cells #[.slice ad n cap] 24 (0, 0)) := by rw [hbW.block _ (Array.getElem?_eq_some_iff.1 K1.out).1]; exact K1.out
  have k2 : W.heap[w.heap.size + 1]? = some (.cells #[.bool th, .int .i64 room, .slice ak m capk] 47 (0, 0)) := by rw [hbW.block _ (Array.getElem?_eq_some_iff.1 K2.out).1]; exact K2.out
  have KW1 := hid k1
  have KW2 := hid k2
  obtain ⟨p0, p1, p2⟩ := three_at k2
  clear hbW B0 K1 K2 k1 k2 c1 CK
  by_cases hc0 : c = 0
  · subst hc0
    have hA := HA.out
    rw [if_pos rfl] at hA
    have CI := hid (in_any room 0 20 W)
    by_cases hr : 0 ≤ room ∧ room ≤ 20
    · rw [if_pos hr] at hA
      rw [decide_eq_true hr] at CI
      by_cases hm : (m : Int) ≤ room
      · rw [if_pos hm] at hA
        have HA2 := hid hA
        clear hA
        go_wp2_with fail
        refine Calls.mono CI.out ?_
        rintro e w2 ⟨rfl, hw2⟩
        subst w2
        go_wp2
        clear p0 p1 p2 CI
        go_loopw [6, 28] (fun lv iv wr => ∃ (k : Nat) (last : Int), k ≤ m ∧ iv = .int .i64 k ∧ lv = .int .i64 last ∧ Hid (Below W.heap.size W wr) ∧ Hid (scanK n b t (m - k) k last = ans)) (fun _ iv _ => m - (intOf iv).toNat)
        case atStart => exact ⟨0, -1, Nat.zero_le _, rfl, rfl, Below.refl _ _, HA2⟩
        case round =>
          obtain ⟨k, last, hk, rfl, rfl, HB, HS⟩ := hrel
          by_cases hlt : k < m
          · have hki : (k : Int) < (m : Int) := by omega
            rcases HXk.out with h0 | ⟨bl, off, rfl, hbl, hxk⟩
            · omega
            obtain ⟨x0, x1, x2, x3⟩ := hxk k hlt
            have hstep := HS.out
            rw [show m - k = (m - (k + 1)) + 1 by omega] at hstep
            simp only [scanK] at hstep
            have BR := hid (B1.out.trans (HB.out.mono B1.out.size))
            have HIs : Hid (∀ u, Below w.heap.size w u → IntSl u u.heap.size (UV k) (t.L k) (t.X k)) := fun u hb => x3.up hb
            obtain ⟨ap, cp, hpe, _, _⟩ := x3
            rw [hpe] at x2 HIs
            have g0 : wr.cell? ⟨bl, off + k * 3, none⟩ = some (.int .i64 (t.V k)) := by rw [BR.out.cell hbl]; exact x0
            have g1 : wr.cell? ⟨bl, off + k * 3 + 1, none⟩ = some (.int .i64 (t.N k)) := by rw [BR.out.cell hbl]; exact x1
            have g2 : wr.cell? ⟨bl, off + k * 3 + 2, none⟩ = some (.slice ap (t.L k) cp) := by rw [BR.out.cell hbl]; exact x2
            obtain ⟨Z, hZ⟩ : ∃ Z, wr.alloc (.cells #[.int .i64 (t.V k), .int .i64 (t.N k), .slice ap (t.L k) cp] 55) = Z := ⟨_, rfl⟩
            have hbZ : Below wr.heap.size wr Z := by rw [← hZ]; exact below_alloc _ _
            have hWZ := HB.out.trans (hbZ.mono HB.out.size)
            have HBZ := hid hWZ
            have BZ := hid (B1.out.trans (hWZ.mono B1.out.size))
            obtain ⟨z0, z1, z2⟩ : Z.cell? ⟨wr.heap.size, 0, none⟩ = _ ∧ Z.cell? ⟨wr.heap.size, 1, none⟩ = _ ∧ Z.cell? ⟨wr.heap.size, 2, none⟩ = _ := three_at (by rw [← hZ]; exact heap_alloc_new wr _)
            have zb : Z.cell? ⟨w.heap.size, 0, none⟩ = some (.slice ad n cap) := by rw [hWZ.cell (Array.getElem?_eq_some_iff.1 KW1.out).1]; exact cell_at KW1.out rfl
            obtain ⟨x, hxx⟩ : ∃ x, t.V k = x := ⟨_, rfl⟩
            rw [hxx] at g0 z0 hstep hZ
            have HOk : Hid (oneK b t k = oneE (b.nd x.toNat) (b.of x.toNat) (b.sz x.toNat) (t.N k) (t.L k) (t.X k)) := by show _ = _; unfold oneK; rw [hxx]
            clear x0 x1 x2 hxk hpe hbZ hWZ hxx
            by_cases c1 : x < 0 ∨ (n : Int) ≤ x
            · rw [if_pos c1] at hstep
              have HFin := hid hstep
              clear hstep
              by_cases c2 : x < 0
              · go_wp2
                go_ret
                exact ⟨by rw [← HFin.out]; rfl, BZ.out⟩
              · have c3 : (n : Int) ≤ x := by omega
                go_wp2
                go_ret
                exact ⟨by rw [← HFin.out]; rfl, BZ.out⟩
            · rw [if_neg c1] at hstep
              have c2 : ¬ x < 0 := fun h => c1 (Or.inl h)
              have c3 : ¬ (n : Int) ≤ x := fun h => c1 (Or.inr h)
              by_cases c4 : x ≤ last
              · rw [if_pos c4] at hstep
                have HFin := hid hstep
                clear hstep c1
                go_wp2
                go_ret
                exact ⟨by rw [← HFin.out]; rfl, BZ.out⟩
              · rw [if_neg c4] at hstep
                rw [HOk.out] at hstep
                obtain ⟨y, rfl⟩ : ∃ y : Nat, x = y := ⟨x.toNat, by omega⟩
                rw [Int.toNat_natCast] at hstep
                have hyn : y < n := by omega
                have hyi : (y : Int) < (n : Int) := by omega
                rcases HX.out with h0 | ⟨bv, ov, rfl, hbv, hxv⟩
                · omega
                obtain ⟨_, v1, v2, v3, _⟩ := hxv y hyn
                have q1 : Z.cell? ⟨bv, ov + y * 4 + 1, none⟩ = some (.int .i64 (b.nd y)) := by rw [BZ.out.cell hbv]; exact v1
                have q2 : Z.cell? ⟨bv, ov + y * 4 + 2, none⟩ = some (.int .i64 (b.of y)) := by rw [BZ.out.cell hbv]; exact v2
                have q3 : Z.cell? ⟨bv, ov + y * 4 + 3, none⟩ = some (.int .i64 (b.sz y)) := by rw [BZ.out.cell hbv]; exact v3
                have hne : Nonempty (Of (Below Z.heap.size Z)) := ⟨⟨Z, Below.refl _ _⟩⟩
                have F0 : ∀ u : Of (Below Z.heap.size Z), u.val.cell? ⟨wr.heap.size, 0, none⟩ = some (.int .i64 (y : Int)) := fun u => by rw [u.is.cell (cell_lt z0)]; exact z0
                have F1 : ∀ u : Of (Below Z.heap.size Z), u.val.cell? ⟨wr.heap.size, 1, none⟩ = some (.int .i64 (t.N k)) := fun u => by rw [u.is.cell (cell_lt z1)]; exact z1
                have F2 : ∀ u : Of (Below Z.heap.size Z), u.val.cell? ⟨wr.heap.size, 2, none⟩ = some (.slice ap (t.L k) cp) := fun u => by rw [u.is.cell (cell_lt z2)]; exact z2
                have F3 : ∀ u : Of (Below Z.heap.size Z), u.val.cell? ⟨w.heap.size, 0, none⟩ = some (.slice (some ⟨bv, ov, none⟩) n cap) := fun u => by rw [u.is.cell (cell_lt zb)]; exact zb
                have F4 : ∀ u : Of (Below Z.heap.size Z), u.val.cell? ⟨bv, ov + y * 4 + 1, none⟩ = some (.int .i64 (b.nd y)) := fun u => by rw [u.is.cell (cell_lt q1)]; exact q1
                have F5 : ∀ u : Of (Below Z.heap.size Z), u.val.cell? ⟨bv, ov + y * 4 + 2, none⟩ = some (.int .i64 (b.of y)) := fun u => by rw [u.is.cell (cell_lt q2)]; exact q2
                have F6 : ∀ u : Of (Below Z.heap.size Z), u.val.cell? ⟨bv, ov + y * 4 + 3, none⟩ = some (.int .i64 (b.sz y)) := fun u => by rw [u.is.cell (cell_lt q3)]; exact q3
                have HD1 : Hid (Below Z.heap.size Z Z.drew) := ⟨rfl, rfl, rfl, Nat.le_refl _, fun _ _ => rfl⟩
                have CS := hid (checkShare_any (b.nd y) (b.of y) (b.sz y) (t.N k) _ (t.L k) (t.X k) Z.drew (HIs.out _ (BZ.out.trans (HD1.out.mono BZ.out.size))))
                obtain ⟨er, her⟩ : ∃ er, oneE (b.nd y) (b.of y) (b.sz y) (t.N k) (t.L k) (t.X k) = er := ⟨_, rfl⟩
                rw [her] at CS hstep
                have HSt := hid hstep
                unfold planV shareV at CS
                clear hxv hstep her c1 v1 v2 v3 q1 q2 q3
                go_wp2_with fail
                refine region_mixed (Below Z.heap.size Z) [([0, 1, 2, 3, 4, 5, 6, 7, 8], 9)] [10] (by kernel_rfl) (by kernel_rfl) HD1.out ?_
                refine mixO_cons (by simp only [pickO, List.getElem?_cons_zero, List.getElem?_cons_succ]; exact rfl) (by simp only [pickO, List.getElem?_cons_zero, List.getElem?_cons_succ]; exact rfl) ?_
                repeat (go_big_quiet_step (fail))
                refine wpQuiet_nil ?_
                intro K hK
                go_wp2_with fail
                refine Calls.mono CS.out ?_
                rintro e w5 ⟨rfl, hb5⟩
                have H5 : Hid (Below Z.heap.size Z w5) := HD1.out.trans (hb5.mono HD1.out.size)
                clear hb5
                go_wp2
                refine ⟨rfl, hK _ _ H5.out ?_⟩
                clear hK K
                refine mixO_nil (by simp only [pickO, List.getElem?_cons_zero, List.getElem?_cons_succ]; exact rfl) ?_
                repeat (go_big_quiet_step (fail))
                refine wpQuiet_nil ?_
                have B5 := hid (HBZ.out.trans (H5.out.mono HBZ.out.size))
                clear F0 F1 F2 F3 F4 F5 F6 hne
                by_cases he0 : er = 0
                · subst he0
                  have hs := HSt.out
                  rw [if_pos rfl] at hs
                  have HNx := hid hs
                  clear hs
                  go_wp2
                  go_roundw
                  case rel => exact ⟨k + 1, (y : Int), by omega, by go_num, rfl, B5, HNx⟩
                  case measure => simp only [intOf]; omega
                · have hs := HSt.out
                  rw [if_neg he0] at hs
                  have heb : (er != 0) = true := by simpa using he0
                  have HFin := hid hs
                  clear hs he0
                  go_wp2
                  go_ret
                  exact ⟨by rw [← HFin.out]; rfl, B1.out.trans (B5.out.mono B1.out.size)⟩
          · have hke : m = k := by omega
            subst hke
            have hst := HS.out
            rw [Nat.sub_self] at hst
            have HFin : Hid ((0 : Int) = ans) := hst
            clear hst
            go_wp2
            go_ret
            exact ⟨by rw [← HFin.out]; rfl, B1.out.trans (HB.out.mono B1.out.size)⟩
      · rw [if_neg hm] at hA
        have HFin := hid hA
        have hmr : room < (m : Int) := by omega
        clear hA hm
        go_wp2_with fail
        refine Calls.mono CI.out ?_
        rintro e w2 ⟨rfl, hw2⟩
        subst w2
        go_wp2
        go_ret
        exact ⟨by rw [← HFin.out]; rfl, B1.out⟩
    · rw [if_neg hr] at hA
      rw [decide_eq_false hr] at CI
      have HFin := hid hA
      clear hA
      go_wp2_with fail
      refine Calls.mono CI.out ?_
      rintro e w2 ⟨rfl, hw2⟩
      subst w2
      go_wp2
      go_ret
      exact ⟨by rw [← HFin.out]; rfl, B1.out⟩
  · have hA := HA.out
    rw [if_neg hc0] at hA
    have hcb : (c != 0) = true := by simpa using hc0
    have HFin := hid hA
    clear hA hc0
    go_wp2
    go_ret
    exact ⟨by rw [← HFin.out]; rfl, B1.out⟩

end Go.Proofs.YtikchpffkhohlaaGreat

namespace Go.Proofs.YtikchpffkhohlaaGreat

open Go.RowKit
set_option linter.unusedVariables false

end Go.Proofs.YtikchpffkhohlaaGreat

namespace Go.Proofs.YtikchpffkhohlaaGreat

open Go.RowKit
set_option linter.unusedVariables false

theorem set_three {w : World} {g : Nat} {v0 v1 v2 : Value} {T : TypeId} (h : w.heap[g]? = some (.cells #[v0, v1, v2] T (0, 0))) (u : Value) : (w.setCell ⟨g, 2, none⟩ u).heap[g]? = some (.cells #[v0, v1, u] T (0, 0)) := by
  simp [World.setCell, Array.getElem?_modify, h]

def put3 (w : World) (g : Nat) (u0 u1 u2 : Value) : World := ((w.setCell ⟨g, 0, none⟩ u0).setCell ⟨g, 1, none⟩ u1).setCell ⟨g, 2, none⟩ u2

theorem put3_whole {w : World} {g : Nat} {T : TypeId} {v0 v1 v2 : Value} (h : w.heap[g]? = some (.cells #[v0, v1, v2] T (0, 0))) (u0 u1 u2 : Value) : (put3 w g u0 u1 u2).heap[g]? = some (.cells #[u0, u1, u2] T (0, 0)) := by
  simp [put3, World.setCell, Array.getElem?_modify, h]

theorem put3_below {B : Nat} {w w5 : World} {g : Nat} {u0 u1 u2 : Value} (hb : Below B w w5) (hg : B ≤ g) : Below B w (put3 w5 g u0 u1 u2) :=
  ((hb.setCell (p := ⟨g, 0, none⟩) hg _).setCell (p := ⟨g, 1, none⟩) hg _).setCell (p := ⟨g, 2, none⟩) hg _

theorem drewK_below (w : World) (k : Nat) : Below w.heap.size w (w.drewN k) := ⟨rfl, rfl, rfl, Nat.le_refl _, fun _ _ => rfl⟩

theorem drew_below (w : World) : Below w.heap.size w w.drew := ⟨rfl, rfl, rfl, Nat.le_refl _, fun _ _ => rfl⟩

theorem stayB {w w' : World} {g : Nat} {o : Obj} (h : w.heap[g]? = some o) (hb : Below w.heap.size w w') : w'.heap[g]? = some o := by
  rw [hb.block _ (Array.getElem?_eq_some_iff.1 h).1]; exact h

end Go.Proofs.YtikchpffkhohlaaGreat

namespace Go.Proofs.YtikchpffkhohlaaGreat

open Go.RowKit
set_option linter.unusedVariables false

def flatI (UV : Nat → Value) (t : Kt) (l : List Nat) : List Value := l.flatMap fun i => [.int .i64 (t.V i), .int .i64 (t.N i), UV i]

theorem flatI_len (UV : Nat → Value) (t : Kt) (l : List Nat) : (flatI UV t l).length = l.length * 3 := by
  induction l with
  | nil => rfl
  | cons x l ih => simp only [flatI, List.flatMap_cons, List.length_append, List.length_cons, List.length_nil] at *; omega

theorem flatI_snoc (UV : Nat → Value) (t : Kt) (l : List Nat) (i : Nat) : flatI UV t (l ++ [i]) = flatI UV t l ++ [.int .i64 (t.V i), .int .i64 (t.N i), UV i] := by
  simp [flatI]

theorem flatI_get (UV : Nat → Value) (t : Kt) : ∀ (l : List Nat) (j : Nat), j < l.length → (flatI UV t l)[j * 3]? = some (.int .i64 (t.V (l.getD j 0))) ∧ (flatI UV t l)[j * 3 + 1]? = some (.int .i64 (t.N (l.getD j 0))) ∧ (flatI UV t l)[j * 3 + 2]? = some (UV (l.getD j 0)) := by
  intro l
  induction l with
  | nil => intro j hj; simp at hj
  | cons x l ih =>
    intro j hj
    have e : flatI UV t (x :: l) = [.int .i64 (t.V x), .int .i64 (t.N x), UV x] ++ flatI UV t l := by simp [flatI]
    rw [e]
    cases j with
    | zero => exact ⟨rfl, rfl, rfl⟩
    | succ j =>
      obtain ⟨h1, h2, h3⟩ := ih j (by simpa using hj)
      have a1 : (j + 1) * 3 = 3 + j * 3 := by omega
      have key : ∀ c, ([Value.int .i64 (t.V x), .int .i64 (t.N x), UV x] ++ flatI UV t l)[3 + j * 3 + c]? = (flatI UV t l)[j * 3 + c]? := fun c => by
        rw [List.getElem?_append_right (by simp; omega)]
        simp only [List.length_cons, List.length_nil]
        congr 1
        omega
      rw [a1]
      refine ⟨?_, ?_, ?_⟩
      · have := key 0; rw [Nat.add_zero, Nat.add_zero] at this; rw [this, h1]; rfl
      · rw [key 1, h2]; rfl
      · rw [key 2, h3]; rfl

def selT (t : Kt) (l : List Nat) : Kt := ⟨fun j => t.V (l.getD j 0), fun j => t.N (l.getD j 0), fun j => t.L (l.getD j 0), fun j => t.X (l.getD j 0)⟩

def OwnT (w0 wr : World) (v : Value) (UV : Nat → Value) (t : Kt) (l : List Nat) : Prop := wr.ownsRow w0.heap.size 55 3 v l.length (flatI UV t l) ∧ Below w0.heap.size w0 wr

theorem OwnT.nil (w : World) (UV : Nat → Value) (t : Kt) : OwnT w w (.slice none 0 0) UV t [] := ⟨World.ownsRow_nil _ _ _ _, Below.refl _ _⟩

theorem OwnT.up {w0 wr w' : World} {v : Value} {UV : Nat → Value} {t : Kt} {l : List Nat} (h : OwnT w0 wr v UV t l) (hb : Below wr.heap.size wr w') : OwnT w0 w' v UV t l := ⟨owns_below h.1 hb, h.2.trans (hb.mono h.2.size)⟩

theorem OwnT.push {w0 wr w1 : World} {v v' : Value} {UV : Nat → Value} {t : Kt} {l : List Nat} {i : Nat} (h : OwnT w0 wr v UV t l)
    (ho : w1.ownsRow w0.heap.size 55 3 v' (l.length + 1) (flatI UV t l ++ [.int .i64 (t.V i), .int .i64 (t.N i), UV i])) (hg : wr.grownBy w1 v.ownBlock) : OwnT w0 w1 v' UV t (l ++ [i]) := by
  refine ⟨?_, h.2.grown hg h.2.size (fun g hgg => (h.1.lt g hgg).1)⟩
  rw [List.length_append, flatI_snoc]
  exact ho

theorem rowT_kel {wr : World} {base : Nat} {v : Value} {UV : Nat → Value} {t : Kt} {l : List Nat} (h : wr.ownsRow base 55 3 v l.length (flatI UV t l)) (hr : l.length * 40 ≤ 140737488351232) (hi : ∀ i, i ∈ l → IntSl wr wr.heap.size (UV i) (t.L i) (t.X i)) : KeSl wr wr.heap.size v l.length (fun j => UV (l.getD j 0)) (selT t l) := by
  obtain ⟨hl, h2⟩ := h
  rcases h2 with ⟨rfl, h0⟩ | ⟨g, cap, cur, rfl, hg, hh, hc1, hc2, hsz, hcur⟩
  · rw [h0]; exact ⟨none, 0, rfl, ⟨Nat.le_refl _, by omega⟩, Or.inl rfl⟩
  · refine ⟨_, cap, rfl, ⟨hc1, hr⟩, Or.inr ⟨g, 0, rfl, (Array.getElem?_eq_some_iff.1 hh).1, fun j hj => ?_⟩⟩
    have key : ∀ i u, i < l.length * 3 → (flatI UV t l)[i]? = some u → wr.cell? ⟨g, i, none⟩ = some u := fun i u hi h3 => by
      rw [← hcur, List.getElem?_take, if_pos hi] at h3
      exact cell_at hh (by simpa using h3)
    obtain ⟨q1, q2, q3⟩ := flatI_get UV t l j hj
    rw [Nat.zero_add]
    refine ⟨key _ _ (by omega) q1, key _ _ (by omega) q2, key _ _ (by omega) q3, hi _ ?_⟩
    rw [List.getD_eq_getElem?_getD, List.getElem?_eq_getElem hj]
    exact List.getElem_mem hj

theorem Tryz.infoKept : (Tryz.prog.info? 55).map (fun i => (i.zero, i.size, i.bytes)) = some (some (.agg #[.int .i64 0, .int .i64 0, .slice none 0 0]), 3, 40) := by kernel_rfl

theorem cells_three (w : World) (v0 v1 v2 : Value) (T : TypeId) : ∀ j u, ([v0, v1, v2] : List Value)[j]? = some u → (w.alloc (.cells #[v0, v1, v2] T)).cell? (Addr.add ⟨w.heap.size, 0, none⟩ j) = some u := by
  intro j u hj
  rw [Addr.add_lit]
  match j, hj with
  | 0, hj => simp at hj; subst hj; exact cell_at (heap_alloc_new _ _) rfl
  | 1, hj => simp at hj; subst hj; exact cell_at (heap_alloc_new _ _) rfl
  | 2, hj => simp at hj; subst hj; exact cell_at (heap_alloc_new _ _) rfl

def butL (t : Kt) (ver : Int) (m : Nat) : List Nat := (List.range m).filter fun j => t.V j != ver

theorem butL_len (t : Kt) (ver : Int) (m : Nat) : (butL t ver m).length ≤ m := by
  unfold butL
  refine Nat.le_trans (List.length_filter_le _ _) ?_
  simp

theorem butL_lt {t : Kt} {ver : Int} {m i : Nat} (h : i ∈ butL t ver m) : i < m := by
  unfold butL at h
  exact List.mem_range.1 (List.mem_filter.1 h).1

end Go.Proofs.YtikchpffkhohlaaGreat

namespace Go.Proofs.YtikchpffkhohlaaGreat

open Go.RowKit
set_option linter.unusedVariables false

theorem flatI_one {UV : Nat → Value} {t : Kt} {l : List Nat} (h : ∀ i, i ∈ l → (UV i).oneCell' = true) : ∀ u ∈ flatI UV t l, u.oneCell' = true := by
  intro u hu
  unfold flatI at hu
  obtain ⟨i, hi, hu⟩ := List.mem_flatMap.1 hu
  simp only [List.mem_cons, List.not_mem_nil, or_false] at hu
  rcases hu with rfl | rfl | rfl
  · rfl
  · rfl
  · exact h i hi

end Go.Proofs.YtikchpffkhohlaaGreat

namespace Go.Proofs

open Go.Shelf
def Tryz.sortKept_ren : Go.Shelf.Ren := ⟨fun | 6 => 146 | 15 => 74 | 14 => 168 | 28 => 118 | 29 => 119 | 20 => 180 | 21 => 181 | 22 => 182 | 23 => 183 | 24 => 184 | 25 => 185 | 26 => 186 | 27 => 187 | 46 => 193 | 47 => 150 | 48 => 151 | 49 => 194 | 50 => 195 | 57 => 198 | n => n, fun | 22 => 45 | 24 => 55 | 25 => 168 | 3 => 3 | 39 => 101 | 0 => 0 | 53 => 146 | 55 => 148 | 4 => 4 | 46 => 138 | 45 => 137 | 50 => 143 | 5 => 5 | 9 => 9 | 66 => 169 | 70 => 173 | 76 => 184 | 77 => 185 | n => n, fun | n => n⟩
theorem Tryz.sortKept : Go.Proofs.SlLaysF0.n6 Tryz.prog Tryz.sortKept_ren := {
  mixed := by kernel_rfl
  f6 := ⟨Tryz.f146.name, by decide, Tryz.func146.trans (congrArg some (by kernel_rfl))⟩
  f14 := ⟨Tryz.f168.name, by decide, Tryz.func168.trans (congrArg some (by kernel_rfl))⟩
  f15 := Tryz.func74.trans (congrArg some (by kernel_rfl))
  f20 := ⟨Tryz.f180.name, by decide, Tryz.func180.trans (congrArg some (by kernel_rfl))⟩
  f21 := ⟨Tryz.f181.name, by decide, Tryz.func181.trans (congrArg some (by kernel_rfl))⟩
  f22 := ⟨Tryz.f182.name, by decide, Tryz.func182.trans (congrArg some (by kernel_rfl))⟩
  f23 := ⟨Tryz.f183.name, by decide, Tryz.func183.trans (congrArg some (by kernel_rfl))⟩
  f24 := ⟨Tryz.f184.name, by decide, Tryz.func184.trans (congrArg some (by kernel_rfl))⟩
  f25 := ⟨Tryz.f185.name, by decide, Tryz.func185.trans (congrArg some (by kernel_rfl))⟩
  f26 := ⟨Tryz.f186.name, by decide, Tryz.func186.trans (congrArg some (by kernel_rfl))⟩
  f27 := ⟨Tryz.f187.name, by decide, Tryz.func187.trans (congrArg some (by kernel_rfl))⟩
  f28 := Tryz.func118.trans (congrArg some (by kernel_rfl))
  f29 := Tryz.func119.trans (congrArg some (by kernel_rfl))
  f46 := ⟨Tryz.f193.name, by decide, Tryz.func193.trans (congrArg some (by kernel_rfl))⟩
  f47 := Tryz.func150.trans (congrArg some (by kernel_rfl))
  f48 := Tryz.func151.trans (congrArg some (by kernel_rfl))
  f49 := ⟨Tryz.f194.name, by decide, Tryz.func194.trans (congrArg some (by kernel_rfl))⟩
  f50 := ⟨Tryz.f195.name, by decide, Tryz.func195.trans (congrArg some (by kernel_rfl))⟩
  f57 := ⟨Tryz.f198.name, by decide, Tryz.func198.trans (congrArg some (by kernel_rfl))⟩
  t0 := Tryz.underlying0
  a0 := Tryz.isAgg0
  z0 := Tryz.sizeOf0
  v0 := Tryz.zeroValue0
  t3 := Tryz.underlying3
  a3 := Tryz.isAgg3
  z3 := Tryz.sizeOf3
  v3 := Tryz.zeroValue3
  t4 := Tryz.underlying4
  a4 := Tryz.isAgg4
  z4 := Tryz.sizeOf4
  v4 := Tryz.zeroValue4
  t5 := Tryz.underlying5
  a5 := Tryz.isAgg5
  z5 := Tryz.sizeOf5
  v5 := Tryz.zeroValue5
  t9 := Tryz.underlying9
  a9 := Tryz.isAgg9
  z9 := Tryz.sizeOf9
  v9 := Tryz.zeroValue9
  t22 := Tryz.underlying45
  a22 := Tryz.isAgg45
  z22 := Tryz.sizeOf45
  v22 := Tryz.zeroValue45
  t25 := Tryz.underlying168
  a25 := Tryz.isAgg168
  z25 := Tryz.sizeOf168
  v25 := Tryz.zeroValue168
  t39 := Tryz.underlying101
  a39 := Tryz.isAgg101
  z39 := Tryz.sizeOf101
  v39 := Tryz.zeroValue101
  t45 := Tryz.underlying137
  a45 := Tryz.isAgg137
  z45 := Tryz.sizeOf137
  v45 := Tryz.zeroValue137
  t46 := Tryz.underlying138
  a46 := Tryz.isAgg138
  z46 := Tryz.sizeOf138
  v46 := Tryz.zeroValue138
  t50 := Tryz.underlying143
  a50 := Tryz.isAgg143
  z50 := Tryz.sizeOf143
  v50 := Tryz.zeroValue143
  t53 := Tryz.underlying146
  a53 := Tryz.isAgg146
  z53 := Tryz.sizeOf146
  v53 := Tryz.zeroValue146
  t55 := Tryz.underlying148
  a55 := Tryz.isAgg148
  z55 := Tryz.sizeOf148
  v55 := Tryz.zeroValue148
  t66 := Tryz.underlying169
  a66 := Tryz.isAgg169
  z66 := Tryz.sizeOf169
  v66 := Tryz.zeroValue169
  t70 := Tryz.underlying173
  a70 := Tryz.isAgg173
  z70 := Tryz.sizeOf173
  v70 := Tryz.zeroValue173
  t76 := Tryz.underlying184
  a76 := Tryz.isAgg184
  z76 := Tryz.sizeOf184
  v76 := Tryz.zeroValue184
  t77 := Tryz.underlying185
  a77 := Tryz.isAgg185
  z77 := Tryz.sizeOf185
  v77 := Tryz.zeroValue185 }

end Go.Proofs

namespace Go.Proofs.YtikchpffkhohlaaGreat

open Go.RowKit Go.Shelf Go.Lib Go.Sort
set_option linter.unusedVariables false

end Go.Proofs.YtikchpffkhohlaaGreat

namespace Go.Proofs.YtikchpffkhohlaaGreat

set_option linter.unusedVariables false

variable {P : Program} {ops : Array Oper} {md : Region.Mode} {D : World → Prop}

def anyL (P : Program) (md : Region.Mode) (ops : Array Oper) (D : World → Prop) (sE : Array Bool) (R : Act → World → Prop) : Nat → Array Bool → Act → World → Prop
  | 0, seen, a, w => seen = sE ∧ R a w
  | f + 1, seen, a, w => Region.ready md ops seen ≠ [] ∧ ∀ i ∈ Region.ready md ops seen, wpOp P ops (endN R) i (fun a' w' => D w' ∧ anyL P md ops D sE R f (seen.setIfInBounds i true) a' w') a w

theorem any_of_anyL {R : Act → World → Prop} {Q : Exit → Act → World → Prop} {sE : Array Bool} {c : Nat} (hE : Region.ready md ops sE = [c]) (hE2 : Region.ready md ops (sE.setIfInBounds c true) = []) (hR : ∀ a w, R a w → wpOp P ops Q c (fun a' w' => Q .normal a' w') a w) (f : Nat) :
    ∀ (seen : Array Bool) (a : Act) (w : World), anyL P md ops D sE R f seen a w → wpAny P md ops Q (f + 1) seen a w := by
  induction f with
  | zero =>
    intro seen a w h
    obtain ⟨rfl, h⟩ := h
    refine ⟨fun h0 => (by rw [hE] at h0; cases h0), fun i hi => ?_⟩
    rw [hE] at hi
    obtain rfl : i = c := by simpa using hi
    exact wpOp_mono (fun a' w' h' => ⟨hE2, h'⟩) (hR a w h)
  | succ f ih =>
    intro seen a w h
    refine ⟨fun h0 => absurd h0 h.1, fun i hi => ?_⟩
    exact wpOp_ends (fun a' w' h' => ih _ a' w' h'.2) (h.2 i hi)

theorem anyL_first {R : Act → World → Prop} {sE : Array Bool} {c i : Nat} {oi oc : Oper} {v : Value} (hE : Region.ready md ops sE = [c]) (hc : ops[c]? = some oc) (hedge : ∃ e ∈ oc.after, Region.binds md e = true ∧ e.on = i)
    (hi : ops[i]? = some oi) (hsel : ∀ (j : Nat) (o : Oper) cs b, ops[j]? = some o → o.op ≠ .select cs b) (f : Nat) :
    ∀ (seen : Array Bool) (a : Act) (w : World), D w →
      (∀ j oj, ops[j]? = some oj → j ≠ i → seen.getD j true = false → (∀ e ∈ oj.after, Region.binds md e = true → e.on ≠ i) → oi.apart ops oj = true) →
      i ∈ Region.ready md ops seen → StillIn P ops D oi v a →
      anyL P md ops D sE R f (seen.setIfInBounds i true) (a.put oi.dst v) w → anyL P md ops D sE R (f + 1) seen a w := by
  induction f with
  | zero =>
    intro seen a w hD _ hr hy H
    refine ⟨List.ne_nil_of_mem hr, fun j hj => ?_⟩
    by_cases hji : j = i
    · subst hji; exact hy.wpOp hi hD ⟨hD, H⟩
    · have h1 := ready_mono hj hji
      rw [H.1, hE] at h1
      obtain rfl : j = c := by simpa using h1
      obtain ⟨hjun, oj, hoj, hall⟩ := mem_ready.1 hj
      rw [hc] at hoj
      injection hoj with hoj
      subst hoj
      obtain ⟨e, he, hb, hon⟩ := hedge
      have h2 := hall e he hb
      rw [hon, getD_both (mem_ready.1 hr).1] at h2
      cases h2
  | succ f ih =>
    intro seen a w hD hfree hr hy H
    refine ⟨List.ne_nil_of_mem hr, fun j hj => ?_⟩
    by_cases hji : j = i
    · subst hji; exact hy.wpOp hi hD ⟨hD, H⟩
    · have h1 := H.2 j (ready_mono hj hji)
      obtain ⟨hjun, oj, hoj, hall⟩ := mem_ready.1 hj
      have hun := (mem_ready.1 hr).1
      have hnot : ∀ e ∈ oj.after, Region.binds md e = true → e.on ≠ i := by
        intro e he hb heq
        have h2 := hall e he hb
        rw [heq, getD_both hun] at h2
        cases h2
      have h2 := wpOp_put hoj (hfree j oj hoj hji hjun hnot) (fun cs b => hsel i oi cs b hi) (fun cs b => hsel j oj cs b hoj) hy h1
      refine wpOp_mono (fun a' w' h3 => ⟨h3.2.1, ih (seen.setIfInBounds j true) a' w' h3.2.1 ?_ (ready_mono hr (Ne.symm hji)) h3.1 ?_⟩) h2
      · intro k ok hk hki hunk hno
        refine hfree k ok hk hki ?_ hno
        by_cases hjk : j = k
        · subst hjk
          exact hjun
        · rw [getD_set_ne true hjk] at hunk
          exact hunk
      · rw [Array.setIfInBounds_comm _ _ hji]
        exact h3.2.2

def ordL (md : Region.Mode) (ops : Array Oper) (c : Nat) : List (Nat × Bool) → Array Bool → Bool
  | [], seen => (Region.ready md ops seen == [c]) && (Region.ready md ops (seen.setIfInBounds c true)).isEmpty
  | (i, true) :: r, seen => (Region.ready md ops seen).contains i && Region.free md ops seen i && (match ops[c]? with | some o => o.after.any (fun e => Region.binds md e && e.on == i) | none => false) && ordL md ops c r (seen.setIfInBounds i true)
  | (i, false) :: r, seen => (Region.ready md ops seen == [i]) && ordL md ops c r (seen.setIfInBounds i true)

def seenBy : List (Nat × Bool) → Array Bool → Array Bool
  | [], seen => seen
  | (i, _) :: r, seen => seenBy r (seen.setIfInBounds i true)

theorem ordL_end {c : Nat} : ∀ (l : List (Nat × Bool)) (seen : Array Bool), ordL md ops c l seen = true → Region.ready md ops (seenBy l seen) = [c] ∧ Region.ready md ops ((seenBy l seen).setIfInBounds c true) = []
  | [], seen, h => by simpa [ordL, seenBy] using h
  | (i, true) :: r, seen, h => by
    simp only [ordL, Bool.and_eq_true] at h
    exact ordL_end r _ h.2
  | (i, false) :: r, seen, h => by
    simp only [ordL, Bool.and_eq_true] at h
    exact ordL_end r _ h.2

theorem anyL_of_walk {R : Act → World → Prop} {c : Nat} {sE : Array Bool} (hs : Region.noSelect ops = true) (hE : Region.ready md ops sE = [c]) : ∀ (l : List (Nat × Bool)) (seen : Array Bool) (a : Act) (w : World), D w → seenBy l seen = sE →
    ordL md ops c l seen = true → walkF P ops D R l a w → anyL P md ops D sE R l.length seen a w
  | [], _, _, _, _, hq, hB, h => ⟨hq, h⟩
  | (i, true) :: r, seen, a, w, hD, hq, hB, h => by
    simp only [ordL, Bool.and_eq_true] at hB
    obtain ⟨⟨⟨hr, hf⟩, he⟩, hB'⟩ := hB
    obtain ⟨o, v, ho, hy, hK⟩ := h
    cases hc : ops[c]? with
    | none => simp [hc] at he
    | some oc =>
      simp only [hc, Array.any_eq_true] at he
      obtain ⟨x, hx, hb⟩ := he
      simp only [Bool.and_eq_true, beq_iff_eq] at hb
      exact anyL_first hE hc ⟨oc.after[x], Array.getElem_mem hx, hb.1, hb.2⟩ ho (Region.noSelect_spec hs) r.length seen a w hD (Region.free_spec ho hf) (by simpa using hr) hy (anyL_of_walk hs hE r _ _ w hD hq hB' hK)
  | (i, false) :: r, seen, a, w, hD, hq, hB, h => by
    simp only [ordL, Bool.and_eq_true, beq_iff_eq] at hB
    obtain ⟨hr, hB'⟩ := hB
    refine ⟨by rw [hr]; exact List.cons_ne_nil _ _, fun j hj => ?_⟩
    rw [hr] at hj
    obtain rfl : j = i := by simpa using hj
    exact wpOp_mono (fun a' w' h' => ⟨h'.1, anyL_of_walk hs hE r _ a' w' h'.1 hq hB' h'.2⟩) h

theorem region_mixed_last {id : Nat} {Q : Exit → Act → World → Prop} {a : Act} {w : World} {l : List Oper} (D : World → Prop) (s : List (List Nat × Nat)) (last : List Nat) (c : Nat) (hm : P.follows .mixedOrders = true)
    (hB : (Region.noSelect l.toArray && fitB l s last && (l[c]?).isSome && decide ((flatO s last).length + 1 = l.length) && ordL .any l.toArray c (flatO s last) (Array.replicate l.length false)) = true) (hD : D w.drew)
    (h : mixO P l D (fun a' w' => wpList P l.toArray Q (pickO l [c]) a' w') s last a w.drew) : (Code.region id l.toArray true).wp P Q a w := by
  simp only [Bool.and_eq_true, decide_eq_true_eq] at hB
  obtain ⟨⟨⟨⟨hsel, hf⟩, hcs⟩, hlen⟩, hord⟩ := hB
  obtain ⟨oc, hoc⟩ := Option.isSome_iff_exists.1 hcs
  obtain ⟨hE1, hE2⟩ := ordL_end _ _ hord
  refine wp_region_any hm ?_
  have h1 := anyL_of_walk (md := .any) (c := c) hsel hE1 (flatO s last) _ a w.drew hD rfl hord (walk_of_mix last s a w.drew hf h)
  have h2 := any_of_anyL (Q := Q) hE1 hE2 (fun a' w' h' => by
    have h0 : l.toArray[c]? = some oc := by simpa using hoc
    simp only [pickO, hoc, wpList] at h'
    unfold wpOp
    simp only [h0]
    exact h') _ _ _ _ h1
  rw [hlen] at h2
  simpa using h2

theorem mixO_last {l lq : List Oper} {lc : List Oper} {Q : Exit → Act → World → Prop} {last : List Nat} {c : Nat} {a : Act} {w : World} (hq : pickO l last = lq) (hc : pickO l [c] = lc)
    (h : wpQuiet P l.toArray (fun w' => ∃ u : Of D, w' = u.val) (fun a' => wpList P l.toArray Q lc a' w) lq a) : mixO P l D (fun a' w' => wpList P l.toArray Q (pickO l [c]) a' w') [] last a w := by
  subst hq hc
  exact h

end Go.Proofs.YtikchpffkhohlaaGreat

namespace Go.Proofs.YtikchpffkhohlaaGreat

set_option linter.unusedVariables false

variable {P : Program} {D : World → Prop}

theorem anyL_pick {l : List Oper} {md : Region.Mode} {R : Act → World → Prop} {f : Nat} {seen sE : Array Bool} {a : Act} {w : World} (rs : List Nat) (hr : Region.ready md l.toArray seen = rs) (hne : rs ≠ [])
    (h : ∀ i ∈ rs, ∃ o, l[i]? = some o ∧ ∀ K : Act → World → Prop, (∀ a'' w'', D w'' → anyL P md l.toArray D sE R f (seen.setIfInBounds i true) a'' w'' → K a'' w'') → wpList P l.toArray (endN K) [o] a w) :
    anyL P md l.toArray D sE R (f + 1) seen a w := by
  refine ⟨by rw [hr]; exact hne, fun i hi => ?_⟩
  rw [hr] at hi
  obtain ⟨o, ho, hK⟩ := h i hi
  have h0 : l.toArray[i]? = some o := by simpa using ho
  have hw := hK (fun a'' w'' => D w'' ∧ anyL P md l.toArray D sE R f (seen.setIfInBounds i true) a'' w'') (fun a'' w'' g1 g2 => ⟨g1, g2⟩)
  simp only [wpList] at hw
  unfold wpOp
  simp only [h0]
  split
  · rename_i hwt
    simp only [hwt, if_true] at hw
    rcases hw with hw | hw
    · exact Or.inl (upon_ends (fun v w1 hh => hh.2) (fun d w1 hh => hh.2) hw)
    · exact absurd hw.2 letsOut_endN
  · rename_i hwt
    simp only [hwt] at hw
    exact hw.2

def waitsB (md : Region.Mode) (ops : Array Oper) (c : Nat) (q : List Nat) : Bool :=
  match ops[c]? with
  | some o => q.all fun i => o.after.any fun e => Region.binds md e && e.on == i
  | none => false

theorem anyL_reads {l : List Oper} {md : Region.Mode} {R : Act → World → Prop} {f : Nat} {sE : Array Bool} {w : World} {c : Nat} (hs : Region.noSelect l.toArray = true) (hE : Region.ready md l.toArray sE = [c]) (hD : D w) : ∀ (q : List Nat) (seen : Array Bool) (a : Act), waitsB md l.toArray c q = true → ordQ md l.toArray q seen = true →
    (q.all (fun i => match l[i]? with | some o => plainB o | none => false)) = true →
    wpQuiet P l.toArray (fun w' => ∃ u : Of D, w' = u.val) (fun a' => anyL P md l.toArray D sE R f (seenQ q seen) a' w) (pickO l q) a → anyL P md l.toArray D sE R (f + q.length) seen a w
  | [], seen, a, _, _, _, h => h
  | i :: q, seen, a, hw, ho, hq, h => by
    simp only [List.all_cons, Bool.and_eq_true] at hq
    obtain ⟨h1, h2⟩ := hq
    simp only [ordQ, Bool.and_eq_true] at ho
    obtain ⟨⟨hr, hf⟩, ho'⟩ := ho
    unfold waitsB at hw
    cases hoc : l.toArray[c]? with
    | none => simp only [hoc] at hw; cases hw
    | some oc =>
      simp only [hoc, List.all_cons, Bool.and_eq_true] at hw
      obtain ⟨hw1, hw2⟩ := hw
      obtain ⟨x, hx, hb⟩ := Array.any_eq_true.1 hw1
      simp only [Bool.and_eq_true, beq_iff_eq] at hb
      cases hoi : l[i]? with
      | none => simp [hoi] at h1
      | some o =>
        simp only [hoi] at h1
        simp only [pickO, hoi] at h
        have h0 : l.toArray[i]? = some o := by simpa using hoi
        have hst : qOp P l.toArray (fun w' => ∃ u : Of D, w' = u.val) i (wpQuiet P l.toArray (fun w' => ∃ u : Of D, w' = u.val) (fun a' => anyL P md l.toArray D sE R f (seenQ (i :: q) seen) a' w) (pickO l q)) a := by unfold qOp; simp only [h0]; exact h
        obtain ⟨v, hy, hK⟩ := yieldsIn_of_qOp h0 hst
        exact anyL_first hE hoc ⟨oc.after[x], Array.getElem_mem hx, hb.1, hb.2⟩ h0 (Region.noSelect_spec hs) (f + q.length) seen a w hD (Region.free_spec h0 hf) (by simpa using hr) (still_of_yields h1 hy) (anyL_reads hs hE hD q _ _ (by unfold waitsB; simp only [hoc]; exact hw2) ho' h2 hK)

theorem anyL_end {l : List Oper} {md : Region.Mode} {R : Act → World → Prop} {seen sE : Array Bool} {a : Act} {w : World} (hs : seen = sE) (h : R a w) : anyL P md l.toArray D sE R 0 seen a w := ⟨hs, h⟩

theorem region_tree_last {id : Nat} {Q : Exit → Act → World → Prop} {a : Act} {w : World} {l lc : List Oper} (D : World → Prop) (c : Nat) (sE : Array Bool) (f : Nat) (hm : P.follows .mixedOrders = true) (hE : Region.ready .any l.toArray sE = [c]) (hE2 : Region.ready .any l.toArray (sE.setIfInBounds c true) = []) (hf : f + 1 = l.length) (hc : pickO l [c] = lc) (hcs : (l[c]?).isSome = true)
    (h : anyL P .any l.toArray D sE (fun a' w' => wpList P l.toArray Q lc a' w') f (Array.replicate l.length false) a w.drew) : (Code.region id l.toArray true).wp P Q a w := by
  obtain ⟨oc, hoc⟩ := Option.isSome_iff_exists.1 hcs
  refine wp_region_any hm ?_
  have h2 := any_of_anyL (Q := Q) hE hE2 (fun a' w' h' => by
    have h0 : l.toArray[c]? = some oc := by simpa using hoc
    rw [← hc] at h'
    simp only [pickO, hoc, wpList] at h'
    unfold wpOp
    simp only [h0]
    exact h') _ _ _ _ h
  rw [hf] at h2
  simpa using h2

end Go.Proofs.YtikchpffkhohlaaGreat

namespace Go.Proofs.YtikchpffkhohlaaGreat

open Go.RowKit
set_option linter.unusedVariables false

def snocT (m : Nat) (t : Kt) (ver N : Int) (L : Nat) (X : Nat → Int) : Kt := ⟨fun j => if j = m then ver else t.V j, fun j => if j = m then N else t.N j, fun j => if j = m then L else t.L j, fun j => if j = m then X else t.X j⟩

def InOrder (t : Kt) (K : Nat) (l : List Nat) : Prop := l.Perm (List.range K) ∧ l.Pairwise fun a c => t.V a < t.V c

theorem inOrder_uniq {t : Kt} {K : Nat} {l l' : List Nat} (h : InOrder t K l) (h' : InOrder t K l') : l = l' := by
  refine List.Perm.eq_of_pairwise (le := fun a c => t.V a < t.V c) (fun a c _ _ h1 h2 => ?_) h.2 h'.2 (h.1.trans h'.1.symm)
  omega

def KeepsTo (n : Nat) (b : Bk) (th : Bool) (room : Int) (m : Nat) (t : Kt) (ver N : Int) (L : Nat) (X : Nat → Int) (er : Int) (th' : Bool) (room' : Int) (m' : Nat) (t' : Kt) : Prop :=
  (peerE n b room m t ≠ 0 ∧ er = peerE n b room m t ∧ th' = false ∧ room' = 0 ∧ m' = 0) ∨
  (peerE n b room m t = 0 ∧ room ≤ (m : Int) ∧ er = 8 ∧ th' = false ∧ room' = 0 ∧ m' = 0) ∨
  (peerE n b room m t = 0 ∧ (m : Int) < room ∧ 0 ≤ fstAt t.V ver m 0 ∧ er = 5 ∧ th' = false ∧ room' = 0 ∧ m' = 0) ∨
  (peerE n b room m t = 0 ∧ (m : Int) < room ∧ fstAt t.V ver m 0 < 0 ∧ ∃ l, InOrder (snocT m t ver N L X) (m + 1) l ∧ er = peerE n b room (m + 1) (selT (snocT m t ver N L X) l) ∧
    ((er = 0 ∧ th' = th ∧ room' = room ∧ m' = m + 1 ∧ t' = selT (snocT m t ver N L X) l) ∨ (er ≠ 0 ∧ th' = false ∧ room' = 0 ∧ m' = 0)))

theorem fstAt_none {X : Nat → Int} {v : Int} {m : Nat} (h : fstAt X v m 0 < 0) : ∀ j, j < m → X j ≠ v := fun j hj e => by
  have := (fstAt_neg X v m 0).2 ⟨j, Nat.zero_le _, by omega, e⟩
  omega

theorem scanK_rise {n : Nat} {b : Bk} {t : Kt} : ∀ f k last, scanK n b t f k last = 0 → (∀ j, k ≤ j → j < k + f → last < t.V j) ∧ ∀ j, k ≤ j → j + 1 < k + f → t.V j < t.V (j + 1) := by
  intro f
  induction f with
  | zero => intro k last _; exact ⟨fun j h1 h2 => by omega, fun j h1 h2 => by omega⟩
  | succ f ih =>
    intro k last h
    simp only [scanK] at h
    by_cases c1 : t.V k < 0 ∨ (n : Int) ≤ t.V k
    · rw [if_pos c1] at h; omega
    · rw [if_neg c1] at h
      by_cases c2 : t.V k ≤ last
      · rw [if_pos c2] at h; omega
      · rw [if_neg c2] at h
        by_cases c3 : oneK b t k = 0
        · rw [if_pos c3] at h
          obtain ⟨h1, h2⟩ := ih (k + 1) (t.V k) h
          refine ⟨fun j g1 g2 => ?_, fun j g1 g2 => ?_⟩
          · by_cases e : j = k
            · subst e; omega
            · have := h1 j (by omega) (by omega); omega
          · by_cases e : j = k
            · subst e; exact h1 (j + 1) (by omega) (by omega)
            · exact h2 j (by omega) (by omega)
        · rw [if_neg c3] at h; exact absurd h c3

theorem rise_far {X : Nat → Int} {m : Nat} (h : ∀ j, j + 1 < m → X j < X (j + 1)) : ∀ i j, i < j → j < m → X i < X j := by
  intro i j
  induction j with
  | zero => intro h1; omega
  | succ j ih =>
    intro h1 h2
    by_cases e : i = j
    · subst e; exact h i h2
    · have h3 := ih (by omega) (by omega)
      have h4 := h j h2
      omega

theorem peerE_ok {n : Nat} {b : Bk} {room : Int} {m : Nat} {t : Kt} (h : peerE n b room m t = 0) : bookE n b = 0 ∧ (0 ≤ room ∧ room ≤ 20) ∧ (m : Int) ≤ room ∧ scanK n b t m 0 (-1) = 0 := by
  unfold peerE at h
  by_cases h1 : bookE n b = 0
  · rw [if_pos h1] at h
    by_cases h2 : 0 ≤ room ∧ room ≤ 20
    · rw [if_pos h2] at h
      by_cases h3 : (m : Int) ≤ room
      · rw [if_pos h3] at h; exact ⟨h1, h2, h3, h⟩
      · rw [if_neg h3] at h; omega
    · rw [if_neg h2] at h; omega
  · rw [if_neg h1] at h; exact absurd h h1

end Go.Proofs.YtikchpffkhohlaaGreat

namespace Go.Proofs.YtikchpffkhohlaaGreat

open Go.RowKit
set_option linter.unusedVariables false

def agL (p : Nat → Bool) (m : Nat) : List Nat := (List.range m).filter p

theorem agL_succ (p : Nat → Bool) (m : Nat) : agL p (m + 1) = agL p m ++ (if p m = true then [m] else []) := by
  unfold agL
  rw [List.range_succ, List.filter_append]
  cases h : p m <;> simp [h]

theorem agL_len (p : Nat → Bool) (m : Nat) : (agL p m).length ≤ m := by
  unfold agL
  refine Nat.le_trans (List.length_filter_le _ _) ?_
  simp

theorem agL_lt {p : Nat → Bool} {m i : Nat} (h : i ∈ agL p m) : i < m := by
  unfold agL at h
  exact List.mem_range.1 (List.mem_filter.1 h).1

theorem agL_notin (p : Nat → Bool) (m : Nat) : m ∉ agL p m := fun h => by have := agL_lt h; omega

def ahB (t : Kt) (ver : Int) (j : Nat) : Bool := decide (t.V j < ver)
def bhB (t : Kt) (ver : Int) (j : Nat) : Bool := decide (ver < t.V j)

theorem put_order {t : Kt} {m : Nat} {ver N : Int} {L : Nat} {X : Nat → Int} (hr : ∀ i j, i < j → j < m → t.V i < t.V j) (hn : ∀ j, j < m → t.V j ≠ ver) :
    InOrder (snocT m t ver N L X) (m + 1) ((agL (ahB t ver) m ++ [m]) ++ agL (bhB t ver) m) := by
  have hsub : ∀ p : Nat → Bool, (agL p m).Pairwise (fun a c => (snocT m t ver N L X).V a < (snocT m t ver N L X).V c) := fun p => by
    have h1 : (agL p m).Pairwise (fun a c : Nat => a < c) := List.Pairwise.filter p List.pairwise_lt_range
    refine h1.imp_of_mem ?_
    intro a c ha hc hac
    have la := agL_lt ha
    have lc := agL_lt hc
    have e1 : (snocT m t ver N L X).V a = t.V a := by simp only [snocT]; rw [if_neg (by omega)]
    have e2 : (snocT m t ver N L X).V c = t.V c := by simp only [snocT]; rw [if_neg (by omega)]
    rw [e1, e2]
    exact hr a c hac lc
  have hv : ∀ i, i < m → (snocT m t ver N L X).V i = t.V i := fun i hi => by simp only [snocT]; rw [if_neg (by omega)]
  have hm : (snocT m t ver N L X).V m = ver := by simp only [snocT]; rw [if_pos trivial]
  refine ⟨?_, ?_⟩
  · have e : agL (bhB t ver) m = agL (fun j => !(ahB t ver j)) m := by
      unfold agL
      refine List.filter_congr ?_
      intro j hj
      have hj := List.mem_range.1 hj
      have := hn j hj
      unfold ahB bhB
      by_cases h1 : t.V j < ver
      · have h2 : ¬ ver < t.V j := by omega
        simp [h1, h2]
      · have h2 : ver < t.V j := by omega
        simp [h1, h2]
    rw [e, List.range_succ]
    have hp : (agL (ahB t ver) m ++ agL (fun j => !(ahB t ver j)) m).Perm (List.range m) := List.filter_append_perm _ _
    have h3 : ((agL (ahB t ver) m ++ [m]) ++ agL (fun j => !(ahB t ver j)) m).Perm ((agL (ahB t ver) m ++ agL (fun j => !(ahB t ver j)) m) ++ [m]) := by
      rw [List.append_assoc, List.append_assoc]
      exact List.Perm.append_left _ List.perm_append_comm
    exact h3.trans (hp.append_right _)
  · rw [List.pairwise_append, List.pairwise_append]
    refine ⟨⟨hsub _, by simp, ?_⟩, hsub _, ?_⟩
    · intro a ha c hc
      have hc : c = m := by simpa using hc
      subst hc
      rw [hv a (agL_lt ha), hm]
      have := (List.mem_filter.1 ha).2
      exact of_decide_eq_true this
    · intro a ha c hc
      rw [hv c (agL_lt hc)]
      have hc2 : ver < t.V c := of_decide_eq_true (List.mem_filter.1 hc).2
      rcases List.mem_append.1 ha with ha | ha
      · rw [hv a (agL_lt ha)]
        have : t.V a < ver := of_decide_eq_true (List.mem_filter.1 ha).2
        omega
      · have ha : a = m := by simpa using ha
        subst ha
        rw [hm]
        exact hc2

end Go.Proofs.YtikchpffkhohlaaGreat

namespace Go.Proofs.YtikchpffkhohlaaGreat

set_option linter.unusedVariables false

def pickL (p : Nat → Bool) (j : Nat) : List Int := ((List.range j).filter p).map fun (x : Nat) => (x : Int)

theorem pickL_succ (p : Nat → Bool) (j : Nat) : pickL p (j + 1) = pickL p j ++ (if p j = true then [(j : Int)] else []) := by
  unfold pickL
  rw [List.range_succ, List.filter_append, List.map_append]
  cases h : p j <;> simp [h]

theorem pickL_len (p : Nat → Bool) (j : Nat) : (pickL p j).length ≤ j := by
  unfold pickL
  rw [List.length_map]
  refine Nat.le_trans (List.length_filter_le _ _) ?_
  simp

theorem pickL_congr {p q : Nat → Bool} {j : Nat} (h : ∀ x, x < j → p x = q x) : pickL p j = pickL q j := by
  unfold pickL
  rw [List.filter_congr (fun x hx => h x (List.mem_range.1 hx))]

theorem mem_pickL {p : Nat → Bool} {j : Nat} {x : Int} : x ∈ pickL p j ↔ ∃ k : Nat, k < j ∧ p k = true ∧ x = k := by
  unfold pickL
  simp only [List.mem_map, List.mem_filter, List.mem_range]
  constructor
  · rintro ⟨k, ⟨h1, h2⟩, rfl⟩; exact ⟨k, h1, h2, rfl⟩
  · rintro ⟨k, h1, h2, rfl⟩; exact ⟨k, ⟨h1, h2⟩, rfl⟩

end Go.Proofs.YtikchpffkhohlaaGreat
