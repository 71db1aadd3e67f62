/- The walk of the law CurveThrough, of a package that does what it owes. -/
import Derived.Test.YtbgjlhganidhhaaCurveUp
import Derived.Test.YtbgjlhganidhhaaQuietMore
import Derived.Test.YtbgjlhganidhhaaConcat
import Derived.Test.YtbgjlhganidhhaaTwo
import Derived.Deep.RegionWith
import Derived.Deep.Cut
import Derived.Deep.CutRange
namespace Go.Proofs.Ytbgjlhganidhhaa
open Go.RowKit CurveMath
set_option linter.unusedVariables false

/-- the law's closure: the value at a place, of points that lie in two boxes -/
structure Boxes (W : World) (bx bz : Nat) (v1 v2 : Value) (n : Nat) (X Y : Nat → Int) : Prop where
  cx : W.cell? ⟨bx, 0, none⟩ = some v1
  cz : W.cell? ⟨bz, 0, none⟩ = some v2
  sx : IntSl W W.heap.size v1 n X
  sz : IntSl W W.heap.size v2 n Y

theorem Boxes.up {W W' : World} {bx bz : Nat} {v1 v2 : Value} {n : Nat} {X Y : Nat → Int} (h : Boxes W bx bz v1 v2 n X Y) (hb : Below W.heap.size W W') : Boxes W' bx bz v1 v2 n X Y :=
  ⟨by rw [hb.cell (cell_lt h.cx)]; exact h.cx, by rw [hb.cell (cell_lt h.cz)]; exact h.cz, h.sx.up hb, h.sz.up hb⟩

theorem value_any (hA : AtSpec) {W : World} {bx bz : Nat} {v1 v2 : Value} {n : Nat} {X Y : Nat → Int} (h : Boxes W bx bz v1 v2 n X Y) (hc : chk n n X Y = 0) (k : Int) (hk : 0 ≤ k ∧ k ≤ 30) (w' : World) (hb : Below W.heap.size W w') :
    Calls Try.prog 27 #[.int .i64 k, .pointer (some ⟨bx, 0, none⟩), .pointer (some ⟨bz, 0, none⟩)] w' fun e w'' => e = .returned (.int .i64 (crv n X Y k)) ∧ Below W.heap.size W w'' := by
  have h2 := h.up hb
  have c1 := h2.cx
  have c2 := h2.cz
  have K := hid (at_up hA h.sx h.sz hc k hk w' hb)
  obtain ⟨a1, p1, e1, _⟩ := h.sx
  obtain ⟨a2, p2, e2, _⟩ := h.sz
  subst e1
  subst e2
  clear h h2 hb
  go_enter Try.func27, Try.ntmps27
  go_wp2_with fail
  refine Calls.mono K.out ?_
  rintro e w2 ⟨rfl, hb2⟩
  have HB := hid hb2
  clear hb2
  go_wp2
  go_ret
  exact ⟨rfl, HB.out⟩

theorem crv_at {n m : Nat} {X Y : Nat → Int} (h : Good n m X Y) (i : Nat) (hi : i < n) : crv n X Y (X i) = Y i :=
  (crv_of n X Y (X i) (Y i) (h.ys i hi) (newt_at (fun i => toF (X i)) (fun i => toF (Y i)) n h.injF i hi).symm).symm

theorem crv_same {n n' m : Nat} {X Y A B : Nat → Int} (h : Good n n' X Y) (hg : Good m m A B) (hm : n ≤ m) (hAB : ∀ j, j < m → B j = crv n X Y (A j)) (t : Int) : crv m A B t = crv n X Y t :=
  crv_uniq hg (fun u => newt (fun i => toF (X i)) (fun i => dd (fun i => toF (X i)) (fun i => toF (Y i)) i i) n u) ((newt_deg _ _ n h.injF).mono hm) (fun j hj => by rw [hAB j hj, toF_crv]; rfl) t _ (crv_num n X Y t) (toF_crv n X Y t)

theorem cell_alloc1 {w : World} {a : Addr} {v : Value} (h : w.cell? a = some v) (o : Obj) : (w.alloc o).cell? a = some v := by
  rw [((Below.refl w.heap.size w).alloc (Nat.le_refl _) o).cell (cell_lt h)]
  exact h

theorem cell_alloc2 {w : World} {a : Addr} {v : Value} (h : w.cell? a = some v) (o1 o2 : Obj) : ((w.alloc o1).alloc o2).cell? a = some v := cell_alloc1 (cell_alloc1 h o1) o2

/-- a list, and one number more behind it -/
def behind (k : Nat) (X : Nat → Int) (t : Int) : Nat → Int := fun j => if j < k then X j else t

theorem cell_of_two {w : World} {b : Nat} {u v : Value} {t : TypeId} (h : w.heap[b]? = some (.cells #[u, v] t (0, 0))) : w.cell? ⟨b, 0, none⟩ = some u ∧ w.cell? ⟨b, 1, none⟩ = some v := by
  constructor <;> simp [World.cell?, h]

theorem concat_lit (wd : World) (v1 : Value) (n1 : Nat) (X : Nat → Int) (h1 : IntSl wd wd.heap.size v1 n1 X) (hn : 1 ≤ n1 ∧ n1 ≤ 50) (k : Int) :
    Calls Try.prog 29 #[.slice (some ⟨wd.heap.size + 1, 0, none⟩) 2 2] ((wd.alloc (.cells #[.int .i64 k] 3)).alloc (.cells #[v1, .slice (some ⟨wd.heap.size, 0, none⟩) 1 1] 24))
      fun e w' => ∃ gr cap, e = .returned (.slice (some ⟨gr, 0, none⟩) (n1 + 1) cap) ∧ n1 + 1 ≤ cap ∧ Row wd w' gr (n1 + 1) (behind n1 X k) := by
  have hb := below_two wd (.cells #[.int .i64 k] 3) (.cells #[v1, .slice (some ⟨wd.heap.size, 0, none⟩) 1 1] 24)
  have hn2 := heap_two_new wd (.cells #[.int .i64 k] 3) (.cells #[v1, .slice (some ⟨wd.heap.size, 0, none⟩) 1 1] 24)
  have h2 := intSl_lit (l := [k]) (B := ((wd.alloc (.cells #[.int .i64 k] 3)).alloc (.cells #[v1, .slice (some ⟨wd.heap.size, 0, none⟩) 1 1] 24)).heap.size) (heap_two_old wd (.cells #[.int .i64 k] 3) (.cells #[v1, .slice (some ⟨wd.heap.size, 0, none⟩) 1 1] 24)) rfl (by simp; omega) (by simp)
  refine Calls.mono (concat_two (wd.heap.size + 1) 2 _ v1 _ n1 1 X (fun j => [k].getD j 0) (h1.up hb) h2 (by omega) (by omega) (cell_of_two hn2).1 (cell_of_two hn2).2) ?_
  rintro e w' ⟨gr, cap, rfl, hc, hr⟩
  refine ⟨gr, cap, rfl, hc, ⟨hb.trans (hr.below.mono hb.size), Nat.le_trans hb.size hr.ge, fun j hj => ?_, hr.free⟩⟩
  rw [hr.cell j hj]
  unfold behind
  by_cases h : j < n1
  · rw [if_pos h, if_pos h]
  · rw [if_neg h, if_neg h, show j - n1 = 0 by omega]
    rfl

theorem concat_lit_drew (wd : World) (v1 : Value) (n1 : Nat) (X : Nat → Int) (h1 : IntSl wd wd.heap.size v1 n1 X) (hn : 1 ≤ n1 ∧ n1 ≤ 50) (k : Int) :
    Calls Try.prog 29 #[.slice (some ⟨wd.heap.size + 1, 0, none⟩) 2 2] ((wd.alloc (.cells #[.int .i64 k] 3)).alloc (.cells #[v1, .slice (some ⟨wd.heap.size, 0, none⟩) 1 1] 24)).drew
      fun e w' => ∃ gr cap, e = .returned (.slice (some ⟨gr, 0, none⟩) (n1 + 1) cap) ∧ n1 + 1 ≤ cap ∧ Row wd w' gr (n1 + 1) (behind n1 X k) := by
  have h := concat_lit wd.drew v1 n1 X (h1.up ((Below.refl _ _).drew)) hn k
  refine Calls.mono h ?_
  rintro e w' ⟨gr, cap, rfl, hc, hr⟩
  exact ⟨gr, cap, rfl, hc, ⟨⟨hr.below.os, hr.below.tape, hr.below.output, hr.below.size, hr.below.block⟩, hr.ge, hr.cell, hr.free⟩⟩

theorem good_behind {k : Nat} {X Y : Nat → Int} (h : Good k k X Y) (hk : k ≤ 7) (t : Int) (ht : 0 ≤ t ∧ t ≤ 30) (hn : hasB X k t = false) : Good (k + 1) (k + 1) (behind k X t) (behind k Y (crv k X Y t)) := by
  have hnot : ∀ j, j < k → X j ≠ t := fun j hj e => by
    have : hasB X k t = true := (hasB_iff X k t).2 ⟨j, hj, e⟩
    rw [hn] at this
    cases this
  have hx : ∀ j, j < k → behind k X t j = X j := fun j hj => by unfold behind; rw [if_pos hj]
  have hx2 : ∀ j, ¬ j < k → behind k X t j = t := fun j hj => by unfold behind; rw [if_neg hj]
  refine ⟨rfl, by have := h.len; omega, fun j hj => ?_, fun j hj => ?_, fun i j hi hj e => ?_⟩
  · by_cases h1 : j < k
    · rw [hx j h1]; exact h.xs j h1
    · rw [hx2 j h1]; exact ht
  · unfold behind
    by_cases h1 : j < k
    · rw [if_pos h1]; exact h.ys j h1
    · rw [if_neg h1]; exact crv_num _ _ _ _
  · by_cases h1 : i < k
    · by_cases h2 : j < k
      · rw [hx i h1, hx j h2] at e; exact h.inj i j h1 h2 e
      · rw [hx i h1, hx2 j h2] at e; exact absurd e (hnot i h1)
    · by_cases h2 : j < k
      · rw [hx2 i h1, hx j h2] at e; exact absurd e.symm (hnot j h2)
      · omega

theorem crv_behind {k : Nat} {X Y : Nat → Int} (h : Good k k X Y) (hk : k ≤ 7) (t : Int) (ht : 0 ≤ t ∧ t ≤ 30) (hn : hasB X k t = false) (f : Int) : crv (k + 1) (behind k X t) (behind k Y (crv k X Y t)) f = crv k X Y f := by
  refine crv_same h (good_behind h hk t ht hn) (by omega) (fun j hj => ?_) f
  unfold behind
  by_cases h1 : j < k
  · rw [if_pos h1, if_pos h1, crv_at h j h1]
  · rw [if_neg h1, if_neg h1]

/-- the lists that the law gathers -/
structure Gath (n : Nat) (X Y : Nat → Int) (r : Nat) (A B : Nat → Int) : Prop where
  le : r ≤ n
  num : ∀ j, j < r → 0 ≤ A j ∧ A j ≤ 30
  inj : ∀ i j, i < r → j < r → A i = A j → i = j
  val : ∀ j, j < r → B j = crv n X Y (A j)

theorem Gath.nil (n : Nat) (X Y A B : Nat → Int) : Gath n X Y 0 A B := ⟨Nat.zero_le _, fun j hj => by omega, fun i j hi => by omega, fun j hj => by omega⟩

theorem Gath.push {n : Nat} {X Y : Nat → Int} {r : Nat} {A B : Nat → Int} (h : Gath n X Y r A B) (hr : r < n) (k : Int) (hk : 0 ≤ k ∧ k ≤ 30) (hn : hasB A r k = false) :
    Gath n X Y (r + 1) (fun j => if j = r then k else A j) (fun j => if j = r then crv n X Y k else B j) := by
  have hnot : ∀ j, j < r → A j ≠ k := fun j hj e => by
    have : hasB A r k = true := (hasB_iff A r k).2 ⟨j, hj, e⟩
    rw [hn] at this
    cases this
  refine ⟨by omega, fun j hj => ?_, fun i j hi hj e => ?_, fun j hj => ?_⟩
  · by_cases h1 : j = r
    · simp only [if_pos h1]; exact hk
    · simp only [if_neg h1]; exact h.num j (by omega)
  · by_cases h1 : i = r
    · by_cases h2 : j = r
      · omega
      · simp only [if_pos h1, if_neg h2] at e
        exact absurd e.symm (hnot j (by omega))
    · by_cases h2 : j = r
      · simp only [if_neg h1, if_pos h2] at e
        exact absurd e (hnot i (by omega))
      · simp only [if_neg h1, if_neg h2] at e
        exact h.inj i j (by omega) (by omega) e
  · by_cases h1 : j = r
    · simp only [if_pos h1]
    · simp only [if_neg h1]; exact h.val j (by omega)

set_option maxRecDepth 10000 in
set_option maxHeartbeats 40000000 in
theorem curveThrough_of (hC : CheckSpec) (hA : AtSpec) (a0 : Option Addr) (len0 cap0 : Nat) (X : Nat → Int) (a1 : Option Addr) (len1 cap1 : Nat) (Y : Nat → Int) (a2 : Option Addr) (len2 cap2 : Nat) (Z : Nat → Int) (a3 : Int) (w : World) (w0 : SlArg w a0 len0 cap0 X) (w1 : SlArg w a1 len1 cap1 Y) (w2 : SlArg w a2 len2 cap2 Z) :
    Calls Try.prog 8 #[.slice a0 len0 cap0, .slice a1 len1 cap1, .slice a2 len2 cap2, .int .i64 a3] w fun e w' => e = .returned (.bool true) ∧ Below w.heap.size w w' := by
  have hbelow : Below w.heap.size w ((w.alloc (.cells #[.slice a0 len0 cap0] 24)).alloc (.cells #[.slice a1 len1 cap1] 24)) := below_two w _ _
  obtain ⟨W, hW⟩ : ∃ W, (w.alloc (.cells #[.slice a0 len0 cap0] 24)).alloc (.cells #[.slice a1 len1 cap1] 24) = W := ⟨_, rfl⟩
  have cx : W.cell? ⟨w.heap.size, 0, none⟩ = some (.slice a0 len0 cap0) := by rw [← hW]; exact cell_of_one (heap_two_old w _ _)
  have cz : W.cell? ⟨w.heap.size + 1, 0, none⟩ = some (.slice a1 len1 cap1) := by rw [← hW]; exact cell_of_one (heap_two_new w _ _)
  rw [hW] at hbelow
  have i0 := w0.isl.up hbelow
  have i1 := w1.isl.up hbelow
  have i2 := w2.isl.up hbelow
  have K0 := hid (curved_up hA (w0 := W))
  have B0 := hid (Below.refl W.heap.size W)
  have k1 := check_up hC i0 i1
  have BW := hid hbelow
  obtain ⟨c1, hc1⟩ : ∃ c, chk len0 len1 X Y = c := ⟨_, rfl⟩
  rw [hc1] at k1
  by_cases h1 : c1 = 0
  · subst h1
    have gy := chk_ok hc1
    have e1 := gy.same
    subst e1
    obtain ⟨t, het⟩ : ∃ t, a3 % 31 = t := ⟨_, rfl⟩
    have nt : 0 ≤ t ∧ t ≤ 30 := by omega
    have BX : Hid (Boxes W w.heap.size (w.heap.size + 1) (.slice a0 len0 cap0) (.slice a1 len0 cap1) len0 X Y) := ⟨cx, cz, i0, i1⟩
    have KV := hid (value_any hA BX.out hc1)
    have K1 := hid k1
    have GY := hid gy
    have HC1 := hid hc1
    have hl := gy.len
    have hl2 : len2 * 8 ≤ 140737488351232 := by have := w2.le; have := w2.reach; omega
    have I2 := hid i2
    obtain ⟨bX, oX, ea0, hbX, hcX⟩ : ∃ b off, a0 = some ⟨b, off, none⟩ ∧ b < W.heap.size ∧ ∀ j, j < len0 → W.cell? ⟨b, off + j, none⟩ = some (.int .i64 (X j)) := by
      obtain ⟨b, off, h1, h2, h3⟩ := w0.cells.resolve_left (by omega)
      exact ⟨b, off, h1, Nat.lt_of_lt_of_le h2 hbelow.size, fun j hj => by rw [hbelow.cell h2]; exact h3 j hj⟩
    obtain ⟨bY, oY, ea1, hbY, hcY⟩ : ∃ b off, a1 = some ⟨b, off, none⟩ ∧ b < W.heap.size ∧ ∀ j, j < len0 → W.cell? ⟨b, off + j, none⟩ = some (.int .i64 (Y j)) := by
      obtain ⟨b, off, h1, h2, h3⟩ := w1.cells.resolve_left (by omega)
      exact ⟨b, off, h1, Nat.lt_of_lt_of_le h2 hbelow.size, fun j hj => by rw [hbelow.cell h2]; exact h3 j hj⟩
    subst ea0
    subst ea1
    have HX := hid hcX
    have HY := hid hcY
    have CX : Hid (∀ w', Below W.heap.size W w' → w'.cell? ⟨w.heap.size, 0, none⟩ = some (.slice (some ⟨bX, oX, none⟩) len0 cap0)) := fun w' hb => by rw [hb.cell (cell_lt cx)]; exact cx
    have CZ : Hid (∀ w', Below W.heap.size W w' → w'.cell? ⟨w.heap.size + 1, 0, none⟩ = some (.slice (some ⟨bY, oY, none⟩) len0 cap1)) := fun w' hb => by rw [hb.cell (cell_lt cz)]; exact cz
    clear k1 w0 w1 w2 i0 i1 i2 hc1 cx cz hbelow gy hcX hcY
    go_enter Try.func8, Try.ntmps8
    go_wp2_with fail
    clear hW
    refine Calls.mono (K0.out _ B0.out) ?_
    rintro e w3 ⟨rfl, hb1⟩
    have c1 := CX.out _ hb1
    have c2 := CZ.out _ hb1
    have B3 := hid hb1
    clear hb1
    go_wp2_with fail
    refine Calls.mono (K1.out _ B3.out) ?_
    rintro e w4 ⟨rfl, hb1⟩
    clear c1 c2
    have c1 := CX.out _ hb1
    have c2 := CZ.out _ hb1
    have B4 := hid hb1
    clear hb1
    go_wp2_with (go_at_call 19; go_must (refine (at_any _ _ (by omega) _).mono ?_; rintro e wq ⟨rfl, hwq⟩; subst wq; simp only [het]))
    clear het c1 c2
    go_loopw [34] (fun i wr => ∃ k : Nat, k ≤ len0 ∧ i = .int .i64 k ∧ Hid (Below W.heap.size W wr)) (fun i _ => len0 - (intOf i).toNat)
    case atStart => exact ⟨0, Nat.zero_le _, rfl, B4⟩
    case round =>
      obtain ⟨k, hk, rfl, HB⟩ := hrel
      by_cases hlt : k < len0
      · have hi2 : (k : Int) < (len0 : Int) := by omega
        have nx := GY.out.xs k hlt
        have kv := KV.out (X k) nx
        rw [crv_at GY.out k hlt] at kv
        have HX2 : Hid (∀ w', Below W.heap.size W w' → w'.cell? ⟨bX, oX + k, none⟩ = some (.int .i64 (X k))) := fun w' hb => by rw [hb.cell hbX]; exact HX.out k hlt
        have HY2 : Hid (∀ w', Below W.heap.size W w' → w'.cell? ⟨bY, oY + k, none⟩ = some (.int .i64 (Y k))) := fun w' hb => by rw [hb.cell hbY]; exact HY.out k hlt
        obtain ⟨x, hx⟩ : ∃ x, X k = x := ⟨_, rfl⟩
        obtain ⟨y, hy⟩ : ∃ y, Y k = y := ⟨_, rfl⟩
        rw [hx] at kv HX2 nx
        rw [hy] at kv HY2
        have KX := hid kv
        have c1 := CX.out _ HB.out
        have c2 := CZ.out _ HB.out
        have c3 := HX2.out _ HB.out
        have c4 := HY2.out _ HB.out
        clear kv hx hy
        go_wp2_with fail
        go_region_with ((first
          | (go_at_call 27; refine Calls.mono (KX.out _ (by first | exact HB.out | exact HB.out.drew)) ?_; rintro e w5 ⟨rfl, hb5⟩; have d1 := CX.out _ hb5; have d2 := CZ.out _ hb5; have d3 := HX2.out _ hb5; have d4 := HY2.out _ hb5; have HB5 := hid hb5; clear hb5)))
        all_goals (go_wp2; go_roundw; (case rel => exact ⟨k + 1, by omega, by go_num, HB5⟩); (case measure => simp only [intOf]; omega))
      · have he : k = len0 := by omega
        subst he
        go_wp2_with fail
        obtain ⟨ii, hi, hz0, hz1, hz2⟩ := info_parts Try.infoInt
        go_loopw [11, 12, 51] (fun va vb i wr => ∃ (j r : Nat) (A B : Nat → Int), j ≤ len2 ∧ i = .int .i64 j ∧ Hid (Two W wr va vb r A B) ∧ Hid (Gath k X Y r A B)) (fun _ _ i _ => len2 - (intOf i).toNat)
        case atStart => exact ⟨0, 0, fun _ => 0, fun _ => 0, Nat.zero_le _, rfl, ⟨⟨World.ownsRow_nil _ _ _ _, HB.out⟩, ⟨World.ownsRow_nil _ _ _ _, HB.out⟩, Or.inl rfl⟩, Gath.nil _ _ _ _ _⟩
        case round =>
          obtain ⟨j, r, A, B, hj, rfl, TW, GA⟩ := hrel
          by_cases hlt2 : j < len2
          · have hj2 : (j : Int) < (len2 : Int) := by omega
            have HBr : Hid (Below W.heap.size W wr) := TW.out.a.2
            obtain ⟨bZ, oZ, ea2, c3⟩ : ∃ b off, a2 = some ⟨b, off, none⟩ ∧ wr.cell? ⟨b, off + j, none⟩ = some (.int .i64 (Z j)) := by
              obtain ⟨_, _, e, _, h⟩ := I2.out
              cases e
              obtain ⟨b, off, h1, h2, h3⟩ := h.resolve_left (by omega)
              exact ⟨b, off, h1, by rw [HBr.out.cell h2]; exact h3 j hlt2⟩
            subst ea2
            obtain ⟨z, hz⟩ : ∃ z, Z j = z := ⟨_, rfl⟩
            rw [hz] at c3
            obtain ⟨u, hu⟩ : ∃ u, z % 31 = u := ⟨_, rfl⟩
            have nu : 0 ≤ u ∧ u ≤ 30 := by omega
            have c1 := CX.out _ HBr.out
            have hrk := GA.out.le
            obtain ⟨ada, ca, hva⟩ := TW.out.a.shape
            subst hva
            cases hh : hasB A r u with
            | true =>
              go_wp2_with (first
                | (go_at_call 19; go_must (refine (at_any _ _ (by omega) _).mono ?_; rintro e wq ⟨rfl, hwq⟩; subst wq; simp only [hu]))
                | (go_at_call 28; go_must (refine Calls.mono (contains_own TW.out.a (by omega) _) ?_; rintro e wq ⟨rfl, hwq⟩; subst wq)))
              go_roundw
              case rel => exact ⟨j + 1, r, A, B, by omega, by go_num, TW, GA⟩
              case measure => simp only [intOf]; omega
            | false =>
              by_cases hrl : r < k
              · have hrl2 : (r : Int) < (k : Int) := by omega
                go_wp2_with (first
                  | (go_at_call 19; go_must (refine (at_any _ _ (by omega) _).mono ?_; rintro e wq ⟨rfl, hwq⟩; subst wq; simp only [hu]))
                  | (go_at_call 28; go_must (refine Calls.mono (contains_own TW.out.a (by omega) _) ?_; rintro e wq ⟨rfl, hwq⟩; subst wq))
                  | (at_builtin; refine wpList_append_own_at _ rfl (.tmp 68) (.tmp 70) 24 rfl W.heap.size 3 ii (.int .i64 0) 1 8 Try.underlying24 hi hz0 hz1 hz2 rfl (by decide) _ _ _ rfl (TW.out.a.1.alloc _) ⟨_, 0, none⟩ 1 1 [.int .i64 u] rfl rfl (newCell _ _ _) (oneCell _) (by unfold maxLen; omega) (by omega) (by have := HBr.out.size; simp; omega) ?_; intro v1 w5 ho hg _ hat; have AF := hid (TW.out.after _ ho hg hat); clear ho hg hat)
                  | (go_at_call 27; go_must (refine Calls.mono (value_any hA (BX.out.up AF.out.1.2) HC1.out u nu w5 (Below.refl _ _)) ?_; rintro e w6 ⟨rfl, hb6⟩; have B6 := hid hb6; clear hb6))
                  | (at_builtin; refine wpList_append_own_at _ rfl (.tmp 72) (.tmp 76) 24 rfl W.heap.size 3 ii (.int .i64 0) 1 8 Try.underlying24 hi hz0 hz1 hz2 rfl (by decide) _ _ _ rfl ((AF.out.2.1.below B6.out).1.alloc _) ⟨_, 0, none⟩ 1 1 [.int .i64 (crv k X Y u)] rfl rfl (newCell _ _ _) (oneCell _) (by unfold maxLen; omega) (by omega) (by have h1 := AF.out.1.2.size; have h2 := B6.out.size; simp; omega) ?_; intro v2 w7 ho hg _ hat; have TB := hid (Two.both (AF.out.1.below B6.out) (AF.out.2.1.below B6.out) AF.out.2.2 _ ho hg hat); clear ho hg hat))
                go_roundw
                case rel => exact ⟨j + 1, r + 1, _, _, by omega, by go_num, TB, GA.out.push hrl u nu hh⟩
                case measure => simp only [intOf]; omega
              · have hrl2 : ¬ (r : Int) < (k : Int) := by omega
                go_wp2_with (first
                  | (go_at_call 19; go_must (refine (at_any _ _ (by omega) _).mono ?_; rintro e wq ⟨rfl, hwq⟩; subst wq; simp only [hu]))
                  | (go_at_call 28; go_must (refine Calls.mono (contains_own TW.out.a (by omega) _) ?_; rintro e wq ⟨rfl, hwq⟩; subst wq)))
                go_roundw
                case rel => exact ⟨j + 1, r, A, B, by omega, by go_num, TW, GA⟩
                case measure => simp only [intOf]; omega
          · have he2 : j = len2 := by omega
            subst he2
            have HBr : Hid (Below W.heap.size W wr) := TW.out.a.2
            have c1 := CX.out _ HBr.out
            have c2 := CZ.out _ HBr.out
            have hrk := GA.out.le
            obtain ⟨ada, ca, hva⟩ := TW.out.a.shape
            subst hva
            obtain ⟨adb, cb, hvb⟩ := TW.out.b.shape
            subst hvb
            go_upto_if 83 with fail
            go_cut [] from 20 (fun wz => Hid (Below W.heap.size W wz))
            case first =>
              by_cases hre : r = k
              · subst hre
                have gAB : Good r r A B := ⟨rfl, hl, GA.out.num, fun j hj => by rw [GA.out.val j hj]; exact crv_num _ _ _ _, GA.out.inj⟩
                have ka := at_up hA (TW.out.a.isl (by omega) (by omega)) (TW.out.b.isl (by omega) (by omega)) (chk_mk gAB) t nt wr (Below.refl _ _)
                rw [crv_same GY.out gAB (Nat.le_refl _) GA.out.val t] at ka
                have KA := hid ka
                have KT := hid (KV.out t nt)
                obtain ⟨cv, hcv⟩ : ∃ v, crv r X Y t = v := ⟨_, rfl⟩
                rw [hcv] at KA KT
                clear ka gAB hcv
                go_wp2_with (first
                  | (go_at_call 22; go_must (refine Calls.mono KA.out ?_; rintro e w5 ⟨rfl, hb5⟩; have HB5 := hid (HBr.out.trans (hb5.mono HBr.out.size)); clear hb5))
                  | (go_at_call 27; go_must (refine Calls.mono (KT.out _ HB5.out) ?_; rintro e w6 ⟨rfl, hb6⟩; have HB6 := hid hb6; clear hb6)))
                go_meet
                case rel => exact HB6
              · have hrf : ((r : Int) == (k : Int)) = false := by simp; omega
                go_wp2_with fail
                go_meet
                case rel => exact HBr
            case rest =>
              have HBc := hcut
              clear hcut TW GA HBr c1 c2
              have c1 := CX.out _ HBc.out
              have c2 := CZ.out _ HBc.out
              by_cases h8 : k = 8
              · have hd8 : ((k : Int) == 8) = true := by simp; omega
                clear h8
                go_wp2_with fail
                go_ret
                exact ⟨rfl, BW.out.trans (HBc.out.mono BW.out.size)⟩
              · have hd8 : ((k : Int) == 8) = false := by simp; omega
                have hk7 : k ≤ 7 := by omega
                clear h8
                have KC := hid (contains_any bX oX k cap0 X t wc (by omega) (fun j hj => by rw [HBc.out.cell hbX]; exact HX.out j hj))
                cases hh : hasB X k t with
                | true =>
                  rw [hh] at KC
                  go_wp2_with (go_at_call 28; go_must (refine Calls.mono KC.out ?_; rintro e wq ⟨rfl, hwq⟩; subst wq))
                  go_ret
                  exact ⟨rfl, BW.out.trans (HBc.out.mono BW.out.size)⟩
                | false =>
                  rw [hh] at KC
                  obtain ⟨fr, hfr⟩ : ∃ f, (t + 7) % 31 = f := ⟨_, rfl⟩
                  have nf : 0 ≤ fr ∧ fr ≤ 30 := by omega
                  go_wp2_with (first
                    | (go_at_call 28; go_must (refine Calls.mono KC.out ?_; rintro e wq ⟨rfl, hwq⟩; subst wq))
                    | (go_at_call 19; go_must (refine (at_any _ _ (by omega) _).mono ?_; rintro e wq ⟨rfl, hwq⟩; subst wq; simp only [hfr])))
                  have S0 := hid (BX.out.up HBc.out).sx
                  have S1 := hid (BX.out.up HBc.out).sz
                  have KF := hid (KV.out fr nf)
                  have gB := chk_mk (good_behind GY.out hk7 t nt hh)
                  have eB := crv_behind GY.out hk7 t nt hh fr
                  obtain ⟨cv, hcv⟩ : ∃ v, crv k X Y t = v := ⟨_, rfl⟩
                  obtain ⟨cf, hcf⟩ : ∃ v, crv k X Y fr = v := ⟨_, rfl⟩
                  rw [hcv] at gB eB
                  rw [hcf] at eB KF
                  have KT := hid (fun (w5 : World) (hb : Below W.heap.size W w5) => value_any hA (BX.out.up hb) HC1.out t nt w5 (Below.refl _ _))
                  rw [hcv] at KT
                  have GB := hid gB
                  have EB := hid eB
                  clear gB eB hcv hcf hfr KC hh
                  have e1 := cell_alloc1 c1
                  have e2 := cell_alloc1 c2
                  have e3 := cell_alloc2 c2
                  go_cut [18, 19] from 20 (fun v e wz => v = .int .i64 cf ∧ e = .int .i64 0 ∧ Hid (Below W.heap.size W wz))
                  case first =>
                   go_region_with ((first
                    | (go_at_call 29; have l6 := L6.out; clear l6; go_must (refine Calls.mono (concat_lit w6 _ k Y (BX.out.up B6.out).sz (by omega) cv) ?_; rintro e w7 ⟨g2, p2, rfl, hp2, hr2⟩; have R2 := hid hr2; have R1b := hid ((R1.out.trans L6.out).trans hr2.below); have B7 := hid (B6.out.trans (hr2.below.mono B6.out.size)); clear hr2))
                    | (go_at_call 29; go_must (refine Calls.mono (concat_lit_drew wc _ k X S0.out (by omega) t) ?_; rintro e w5 ⟨g1, p1, rfl, hp1, hr1⟩; have R1 := hid hr1; have B5 := hid (HBc.out.trans (hr1.below.mono HBc.out.size)); have d2 := CZ.out _ B5.out; clear hr1))
                    | (go_at_call 27; go_must (refine Calls.mono (KT.out w5 B5.out) ?_; rintro e w6 ⟨rfl, hb6⟩; have L6 := hid hb6; have B6 := hid (B5.out.trans (hb6.mono B5.out.size)); have f2 := CZ.out _ B6.out; have f3 := cell_alloc1 f2; clear hb6))
                    | (go_at_call 22; go_must (refine Calls.mono (at_up hA (R1b.out.isl hp1 (by omega)) (R2.out.isl hp2 (by omega)) GB.out fr nf w7 (Below.refl _ _)) ?_; rw [EB.out]; rintro e w8 ⟨rfl, hb8⟩; have B8 := hid (B7.out.trans (hb8.mono B7.out.size)); clear hb8))))
                   all_goals (go_wp2_with fail; go_meet; case rel => exact ⟨rfl, rfl, B8⟩)
                  case rest =>
                   obtain ⟨rfl, rfl, B8⟩ := hcut
                   go_wp2_with (go_at_call 27; go_must (refine Calls.mono (KF.out _ B8.out) ?_; rintro e w9 ⟨rfl, hb9⟩; have B9 := hid hb9; clear hb9))
                   go_ret
                   exact ⟨rfl, BW.out.trans (B9.out.mono BW.out.size)⟩
  · have hc1' : (c1 != 0) = true := by simpa using h1
    have K1 := hid k1
    have CX : Hid (∀ w', Below W.heap.size W w' → w'.cell? ⟨w.heap.size, 0, none⟩ = some (.slice a0 len0 cap0)) := fun w' hb => by rw [hb.cell (cell_lt cx)]; exact cx
    have CZ : Hid (∀ w', Below W.heap.size W w' → w'.cell? ⟨w.heap.size + 1, 0, none⟩ = some (.slice a1 len1 cap1)) := fun w' hb => by rw [hb.cell (cell_lt cz)]; exact cz
    clear k1 w0 w1 w2 i0 i1 i2 hc1 h1 cx cz hbelow
    go_enter Try.func8, Try.ntmps8
    go_wp2_with fail
    clear hW
    refine Calls.mono (K0.out _ B0.out) ?_
    rintro e w3 ⟨rfl, hb1⟩
    have c1 := CX.out _ hb1
    have c2 := CZ.out _ hb1
    have B3 := hid hb1
    clear hb1
    go_wp2_with fail
    refine Calls.mono (K1.out _ B3.out) ?_
    rintro e w4 ⟨rfl, hb1⟩
    have B4 := hid hb1
    clear hb1
    go_wp2_with fail
    refine Calls.mono (K0.out _ B4.out) ?_
    rintro e w6 ⟨rfl, hb1⟩
    have B6 := hid hb1
    clear hb1
    go_wp2
    go_ret
    exact ⟨rfl, BW.out.trans (B6.out.mono BW.out.size)⟩

end Go.Proofs.Ytbgjlhganidhhaa
