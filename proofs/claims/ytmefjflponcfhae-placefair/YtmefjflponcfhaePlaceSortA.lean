/- How package place holds two peers against each other: by how much room is left. -/
import Derived.Test.YtmefjflponcfhaePlaceSpec
import Derived.Test.YtmefjflponcfhaePut3
import Derived.Sort.Grow
namespace Go.Proofs.Ytmefjflponcfhae
open Go.RowKit Go.Lib Go.Sort
set_option linter.unusedVariables false

/-- which of two numbers is greater -/
def cmpZ (a c : Int) : Int := if a < c then -1 else if c < a then 1 else 0

/-- a world that has drawn, and holds more -/
def GrO (w u : World) : Prop := ∃ q os, u = grow (w.drewN q) os

theorem GrO.refl (w : World) : GrO w w := ⟨0, #[], by rw [grow_empty]; rfl⟩
theorem GrO.alloc {w u : World} (h : GrO w u) (o : Obj) : GrO w (u.alloc o) := by
  obtain ⟨q, os, rfl⟩ := h
  exact ⟨q, os ++ #[o], by rw [alloc_eq_grow, grow_grow]⟩
theorem GrO.drew {w u : World} (h : GrO w u) : GrO w u.drew := by
  obtain ⟨q, os, rfl⟩ := h
  exact ⟨q + 1, os, rfl⟩
theorem GrO.below {w u : World} (h : GrO w u) : Below w.heap.size w u := by
  obtain ⟨q, os, rfl⟩ := h
  refine ⟨rfl, rfl, rfl, by simp [grow], fun k hk => ?_⟩
  show (w.heap ++ os)[k]? = w.heap[k]?
  rw [Array.getElem?_append_left hk]

theorem isNaN_int (x : Int) (w : World) : Calls Try.prog 30 #[.int .i64 x] w fun e w' => e = .returned (.bool false) ∧ w' = w := by
  have hx : (x != x) = false := by simp
  go_enter Try.func30, Try.ntmps30
  go_wp2
  go_ret
  exact ⟨by first | rfl | rw [hx], rfl⟩

theorem compare_int (x y : Int) (w : World) : Calls Try.prog 18 #[.int .i64 x, .int .i64 y] w fun e w' => e = .returned (.int .i64 (cmpZ x y)) ∧ w' = w := by
  unfold cmpZ
  by_cases h1 : x < y
  · rw [if_pos h1]
    go_enter Try.func18, Try.ntmps18
    go_wp2_with (go_at_call 30; go_must (refine (isNaN_int _ _).mono ?_; rintro e w1 ⟨rfl, hw1⟩; subst w1))
    go_ret
    exact ⟨rfl, rfl⟩
  · rw [if_neg h1]
    by_cases h2 : y < x
    · rw [if_pos h2]
      go_enter Try.func18, Try.ntmps18
      go_wp2_with (go_at_call 30; go_must (refine (isNaN_int _ _).mono ?_; rintro e w1 ⟨rfl, hw1⟩; subst w1))
      go_ret
      exact ⟨rfl, rfl⟩
    · rw [if_neg h2]
      go_enter Try.func18, Try.ntmps18
      go_wp2_with (go_at_call 30; go_must (refine (isNaN_int _ _).mono ?_; rintro e w1 ⟨rfl, hw1⟩; subst w1))
      go_ret
      exact ⟨rfl, rfl⟩

theorem plLeft (th : Bool) (room : Int) (a : Option Addr) (m c : Nat) (w : World) (h1 : 0 ≤ room ∧ room ≤ 20) (h2 : (m : Int) ≤ room) :
    Calls Try.prog 15 #[peerV th room (.slice a m c)] w fun e w' => e = .returned (.int .i64 (room - m)) ∧ w' = w.alloc (.cells #[.bool th, .int .i64 room, .slice a m c] 37) := by
  unfold peerV
  go_enter Try.func15, Try.ntmps15
  go_wp2
  go_ret
  exact ⟨rfl, rfl⟩

set_option maxHeartbeats 2000000 in
theorem plComp (bx : Nat) (a : Option Addr) (c : Nat) (np : Nat) (KV : Nat → Value) (UV : Nat → Nat → Value) (P : Ps) (i j : Nat) (hi : i < np) (hj : j < np) (hr : ∀ k, k < np → (0 ≤ P.rm k ∧ P.rm k ≤ 20) ∧ (P.m k : Int) ≤ P.rm k) (w : World)
    (hl : PsSl w w.heap.size (.slice a np c) np KV UV P) (hx : w.cell? ⟨bx, 0, none⟩ = some (.slice a np c)) :
    Calls Try.prog 17 #[.int .i64 (i : Int), .int .i64 (j : Int), .pointer (some ⟨bx, 0, none⟩)] w fun e w' => e = .returned (.int .i64 (cmpZ (leftK P j) (leftK P i))) ∧ GrO w w' := by
  obtain ⟨bl, off, rfl, hbl, g0, g1, g2, g3⟩ := hl.at hi
  obtain ⟨bl', off', he, _, f0, f1, f2, f3⟩ := hl.at hj
  injection he with he
  injection he with he1 he2 _
  subst he1 he2
  obtain ⟨ai, ci, hki, _, _⟩ := g3
  obtain ⟨aj, cj, hkj, _, _⟩ := f3
  obtain ⟨_, _, _, ⟨hcl, hbig⟩, _⟩ := hl
  have hri := hr i hi
  have hrj := hr j hj
  rw [hki] at g2
  rw [hkj] at f2
  have hne : Nonempty (Of (GrO w)) := ⟨⟨w, GrO.refl w⟩⟩
  have F0 : ∀ u : Of (GrO w), u.val.cell? ⟨bx, 0, none⟩ = some (.slice (some ⟨bl, off, none⟩) np c) := fun u => by rw [u.is.below.cell (cell_lt hx)]; exact hx
  have F1 : ∀ u : Of (GrO w), u.val.cell? ⟨bl, off + i * 3, none⟩ = some (.bool (P.th i)) := fun u => by rw [u.is.below.cell hbl]; exact g0
  have F2 : ∀ u : Of (GrO w), u.val.cell? ⟨bl, off + i * 3 + 1, none⟩ = some (.int .i64 (P.rm i)) := fun u => by rw [u.is.below.cell hbl]; exact g1
  have F3 : ∀ u : Of (GrO w), u.val.cell? ⟨bl, off + i * 3 + 2, none⟩ = some (.slice ai (P.m i) ci) := fun u => by rw [u.is.below.cell hbl]; exact g2
  have F4 : ∀ u : Of (GrO w), u.val.cell? ⟨bl, off + j * 3, none⟩ = some (.bool (P.th j)) := fun u => by rw [u.is.below.cell hbl]; exact f0
  have F5 : ∀ u : Of (GrO w), u.val.cell? ⟨bl, off + j * 3 + 1, none⟩ = some (.int .i64 (P.rm j)) := fun u => by rw [u.is.below.cell hbl]; exact f1
  have F6 : ∀ u : Of (GrO w), u.val.cell? ⟨bl, off + j * 3 + 2, none⟩ = some (.slice aj (P.m j) cj) := fun u => by rw [u.is.below.cell hbl]; exact f2
  have hii : (i : Int) < (np : Int) := by omega
  have hjj : (j : Int) < (np : Int) := by omega
  have C1 : Hid (∀ u, _) := fun u => plLeft (P.th j) (P.rm j) aj (P.m j) cj u hrj.1 hrj.2
  have C2 : Hid (∀ u, _) := fun u => plLeft (P.th i) (P.rm i) ai (P.m i) ci u hri.1 hri.2
  have C3 : Hid (∀ u, _) := fun u => compare_int (P.rm j - P.m j) (P.rm i - P.m i) u
  unfold peerV at C1 C2
  clear g0 g1 g2 f0 f1 f2 hki hkj hx hr
  unfold leftK
  obtain ⟨ans, hans⟩ : ∃ x, cmpZ (P.rm j - P.m j) (P.rm i - P.m i) = x := ⟨_, rfl⟩
  rw [hans]
  rw [hans] at C3
  clear hans
  go_enter Try.func17, Try.ntmps17
  go_wp2_with fail
  have HD1 : Hid (GrO w w.drew) := (GrO.refl w).drew
  refine region_mixed (GrO w) [([0, 1, 2, 3, 5, 6, 7, 8], 4), ([], 9), ([], 10)] [11] (by kernel_rfl) (by kernel_rfl) HD1.out ?_
  refine mixO_cons (by simp only [pickO, List.getElem?_cons_zero, List.getElem?_cons_succ]; exact rfl) (by simp only [pickO, List.getElem?_cons_zero, List.getElem?_cons_succ]; exact rfl) ?_
  repeat (go_big_quiet_step (fail))
  refine wpQuiet_nil ?_
  intro K hK
  go_wp2_with fail
  refine Calls.mono (C1.out _) ?_
  rintro e w5 ⟨rfl, hw5⟩
  have H5 : Hid (GrO w w5) := by show GrO w w5; rw [hw5]; exact HD1.out.alloc _
  clear hw5
  go_wp2
  refine ⟨rfl, hK _ _ H5.out ?_⟩
  clear hK K
  refine mixO_cons (lq := []) rfl (by simp only [pickO, List.getElem?_cons_zero, List.getElem?_cons_succ]; exact rfl) ?_
  refine wpQuiet_nil ?_
  intro K hK
  go_wp2_with fail
  refine Calls.mono (C2.out _) ?_
  rintro e w6 ⟨rfl, hw6⟩
  have H6 : Hid (GrO w w6) := by show GrO w w6; rw [hw6]; exact H5.out.alloc _
  clear hw6
  go_wp2
  refine ⟨rfl, hK _ _ H6.out ?_⟩
  clear hK K
  refine mixO_cons (lq := []) rfl (by simp only [pickO, List.getElem?_cons_zero, List.getElem?_cons_succ]; exact rfl) ?_
  refine wpQuiet_nil ?_
  intro K hK
  go_wp2_with fail
  refine Calls.mono (C3.out _) ?_
  rintro e w7 ⟨rfl, hw7⟩
  subst w7
  go_wp2
  refine ⟨rfl, hK _ _ H6.out ?_⟩
  clear hK K
  refine mixO_nil (by simp only [pickO, List.getElem?_cons_zero, List.getElem?_cons_succ]; exact rfl) ?_
  repeat (go_big_quiet_step (fail))
  refine wpQuiet_nil ?_
  clear F0 F1 F2 F3 F4 F5 F6 hne
  go_wp2
  go_ret
  exact ⟨rfl, H6.out⟩

end Go.Proofs.Ytmefjflponcfhae
