/- Several texts of one proof, in their order. -/
import Derived.Test.YtdhefajaekackaaPlSum9
import Derived.Sort.Grow
import Derived.Sort.LotA
import Derived.Test.YtdhefajaekackaaPlSum8
import Derived.Test.YtdhefajaekackaaPlSum7

/- How package place holds two peers against each other: by how much room is left. -/
namespace Go.Proofs.Ytdhefajaekackaa

open Go.RowKit Go.Lib Go.Sort
set_option linter.unusedVariables false

/-- which of two numbers is greater -/
def cmpZ (a c : Int) : Int := if a < c then -1 else if c < a then 1 else 0

/-- a world that has drawn, and holds more -/
def GrO (w u : World) : Prop := ∃ q os, u = grow (w.drewN q) os

theorem GrO.refl (w : World) : GrO w w := ⟨0, #[], by rw [grow_empty]; rfl⟩
theorem GrO.alloc {w u : World} (h : GrO w u) (o : Obj) : GrO w (u.alloc o) := by
  obtain ⟨q, os, rfl⟩ := h
  exact ⟨q, os ++ #[o], by rw [alloc_eq_grow, grow_grow]⟩
theorem GrO.drew {w u : World} (h : GrO w u) : GrO w u.drew := by
  obtain ⟨q, os, rfl⟩ := h
  exact ⟨q + 1, os, rfl⟩
theorem GrO.below {w u : World} (h : GrO w u) : Below w.heap.size w u := by
  obtain ⟨q, os, rfl⟩ := h
  refine ⟨rfl, rfl, rfl, by simp [grow], fun k hk => ?_⟩
  show (w.heap ++ os)[k]? = w.heap[k]?
  rw [Array.getElem?_append_left hk]

theorem isNaN_int (x : Int) (w : World) : Calls Try.prog 102 #[.int .i64 x] w fun e w' => e = .returned (.bool false) ∧ w' = w := by
  have hx : (x != x) = false := by simp
  go_enter Try.func102, Try.ntmps102
  go_wp2
  go_ret
  exact ⟨by first | rfl | rw [hx], rfl⟩

theorem compare_int (x y : Int) (w : World) : Calls Try.prog 98 #[.int .i64 x, .int .i64 y] w fun e w' => e = .returned (.int .i64 (cmpZ x y)) ∧ w' = w := by
  unfold cmpZ
  by_cases h1 : x < y
  · rw [if_pos h1]
    go_enter Try.func98, Try.ntmps98
    go_wp2_with (go_at_call 102; go_must (refine (isNaN_int _ _).mono ?_; rintro e w1 ⟨rfl, hw1⟩; subst w1))
    go_ret
    exact ⟨rfl, rfl⟩
  · rw [if_neg h1]
    by_cases h2 : y < x
    · rw [if_pos h2]
      go_enter Try.func98, Try.ntmps98
      go_wp2_with (go_at_call 102; go_must (refine (isNaN_int _ _).mono ?_; rintro e w1 ⟨rfl, hw1⟩; subst w1))
      go_ret
      exact ⟨rfl, rfl⟩
    · rw [if_neg h2]
      go_enter Try.func98, Try.ntmps98
      go_wp2_with (go_at_call 102; go_must (refine (isNaN_int _ _).mono ?_; rintro e w1 ⟨rfl, hw1⟩; subst w1))
      go_ret
      exact ⟨rfl, rfl⟩

theorem plLeft (th : Bool) (room : Int) (a : Option Addr) (m c : Nat) (w : World) (h1 : 0 ≤ room ∧ room ≤ 20) (h2 : (m : Int) ≤ room) :
    Calls Try.prog 95 #[peerV th room (.slice a m c)] w fun e w' => e = .returned (.int .i64 (room - m)) ∧ w' = w.alloc (.cells #[.bool th, .int .i64 room, .slice a m c] 58) := by
  unfold peerV
  go_enter Try.func95, Try.ntmps95
  go_wp2
  go_ret
  exact ⟨rfl, rfl⟩

set_option maxHeartbeats 2000000 in
theorem plComp (bx : Nat) (a : Option Addr) (c : Nat) (np : Nat) (KV : Nat → Value) (UV : Nat → Nat → Value) (P : Ps) (i j : Nat) (hi : i < np) (hj : j < np) (hr : ∀ k, k < np → (0 ≤ P.rm k ∧ P.rm k ≤ 20) ∧ (P.m k : Int) ≤ P.rm k) (w : World)
    (hl : PsSl w w.heap.size (.slice a np c) np KV UV P) (hx : w.cell? ⟨bx, 0, none⟩ = some (.slice a np c)) :
    Calls Try.prog 97 #[.int .i64 (i : Int), .int .i64 (j : Int), .pointer (some ⟨bx, 0, none⟩)] w fun e w' => e = .returned (.int .i64 (cmpZ (leftK P j) (leftK P i))) ∧ GrO w w' := by
  obtain ⟨bl, off, rfl, hbl, g0, g1, g2, g3⟩ := hl.at hi
  obtain ⟨bl', off', he, _, f0, f1, f2, f3⟩ := hl.at hj
  injection he with he
  injection he with he1 he2 _
  subst he1 he2
  obtain ⟨ai, ci, hki, _, _⟩ := g3
  obtain ⟨aj, cj, hkj, _, _⟩ := f3
  obtain ⟨_, _, _, ⟨hcl, hbig⟩, _⟩ := hl
  have hri := hr i hi
  have hrj := hr j hj
  rw [hki] at g2
  rw [hkj] at f2
  have hne : Nonempty (Of (GrO w)) := ⟨⟨w, GrO.refl w⟩⟩
  have F0 : ∀ u : Of (GrO w), u.val.cell? ⟨bx, 0, none⟩ = some (.slice (some ⟨bl, off, none⟩) np c) := fun u => by rw [u.is.below.cell (cell_lt hx)]; exact hx
  have F1 : ∀ u : Of (GrO w), u.val.cell? ⟨bl, off + i * 3, none⟩ = some (.bool (P.th i)) := fun u => by rw [u.is.below.cell hbl]; exact g0
  have F2 : ∀ u : Of (GrO w), u.val.cell? ⟨bl, off + i * 3 + 1, none⟩ = some (.int .i64 (P.rm i)) := fun u => by rw [u.is.below.cell hbl]; exact g1
  have F3 : ∀ u : Of (GrO w), u.val.cell? ⟨bl, off + i * 3 + 2, none⟩ = some (.slice ai (P.m i) ci) := fun u => by rw [u.is.below.cell hbl]; exact g2
  have F4 : ∀ u : Of (GrO w), u.val.cell? ⟨bl, off + j * 3, none⟩ = some (.bool (P.th j)) := fun u => by rw [u.is.below.cell hbl]; exact f0
  have F5 : ∀ u : Of (GrO w), u.val.cell? ⟨bl, off + j * 3 + 1, none⟩ = some (.int .i64 (P.rm j)) := fun u => by rw [u.is.below.cell hbl]; exact f1
  have F6 : ∀ u : Of (GrO w), u.val.cell? ⟨bl, off + j * 3 + 2, none⟩ = some (.slice aj (P.m j) cj) := fun u => by rw [u.is.below.cell hbl]; exact f2
  have hii : (i : Int) < (np : Int) := by omega
  have hjj : (j : Int) < (np : Int) := by omega
  have C1 : Hid (∀ u, _) := fun u => plLeft (P.th j) (P.rm j) aj (P.m j) cj u hrj.1 hrj.2
  have C2 : Hid (∀ u, _) := fun u => plLeft (P.th i) (P.rm i) ai (P.m i) ci u hri.1 hri.2
  have C3 : Hid (∀ u, _) := fun u => compare_int (P.rm j - P.m j) (P.rm i - P.m i) u
  unfold peerV at C1 C2
  clear g0 g1 g2 f0 f1 f2 hki hkj hx hr
  unfold leftK
  obtain ⟨ans, hans⟩ : ∃ x, cmpZ (P.rm j - P.m j) (P.rm i - P.m i) = x := ⟨_, rfl⟩
  rw [hans]
  rw [hans] at C3
  clear hans
  go_enter Try.func97, Try.ntmps97
  go_wp2_with fail
  have HD1 : Hid (GrO w w.drew) := (GrO.refl w).drew
  refine region_mixed (GrO w) [([0, 1, 2, 3, 5, 6, 7, 8], 4), ([], 9), ([], 10)] [11] (by kernel_rfl) (by kernel_rfl) HD1.out ?_
  refine mixO_cons (by simp only [pickO, List.getElem?_cons_zero, List.getElem?_cons_succ]; exact rfl) (by simp only [pickO, List.getElem?_cons_zero, List.getElem?_cons_succ]; exact rfl) ?_
  repeat (go_big_quiet_step (fail))
  refine wpQuiet_nil ?_
  intro K hK
  go_wp2_with fail
  refine Calls.mono (C1.out _) ?_
  rintro e w5 ⟨rfl, hw5⟩
  have H5 : Hid (GrO w w5) := by show GrO w w5; rw [hw5]; exact HD1.out.alloc _
  clear hw5
  go_wp2
  refine ⟨rfl, hK _ _ H5.out ?_⟩
  clear hK K
  refine mixO_cons (lq := []) rfl (by simp only [pickO, List.getElem?_cons_zero, List.getElem?_cons_succ]; exact rfl) ?_
  refine wpQuiet_nil ?_
  intro K hK
  go_wp2_with fail
  refine Calls.mono (C2.out _) ?_
  rintro e w6 ⟨rfl, hw6⟩
  have H6 : Hid (GrO w w6) := by show GrO w w6; rw [hw6]; exact H5.out.alloc _
  clear hw6
  go_wp2
  refine ⟨rfl, hK _ _ H6.out ?_⟩
  clear hK K
  refine mixO_cons (lq := []) rfl (by simp only [pickO, List.getElem?_cons_zero, List.getElem?_cons_succ]; exact rfl) ?_
  refine wpQuiet_nil ?_
  intro K hK
  go_wp2_with fail
  refine Calls.mono (C3.out _) ?_
  rintro e w7 ⟨rfl, hw7⟩
  subst w7
  go_wp2
  refine ⟨rfl, hK _ _ H6.out ?_⟩
  clear hK K
  refine mixO_nil (by simp only [pickO, List.getElem?_cons_zero, List.getElem?_cons_succ]; exact rfl) ?_
  repeat (go_big_quiet_step (fail))
  refine wpQuiet_nil ?_
  clear F0 F1 F2 F3 F4 F5 F6 hne
  go_wp2
  go_ret
  exact ⟨rfl, H6.out⟩

end Go.Proofs.Ytdhefajaekackaa

/- The insertion sort keeps the order of like ones: of a list that rises it makes the one that is sorted by what is asked, and of like ones by number. Plain: it speaks of no program. -/
namespace Go.Proofs.Ytdhefajaekackaa

open Go.Sort
set_option linter.unusedVariables false

section

variable {α : Type} [Inhabited α] (key : α → Nat) (lt ltX : α → α → Bool)

theorem insInner_agree (hag : ∀ x y, key y < key x → lt x y = ltX x y) : ∀ (j : Nat) (d : Array α), j < d.size → (∀ k, k < j → key d[k]! < key d[j]!) → insInner lt 0 j d = insInner ltX 0 j d := by
  intro j
  induction j with
  | zero => intro d _ _; rfl
  | succ j ih =>
    intro d hj hk
    have e := hag d[j + 1]! d[j]! (hk j (by omega))
    unfold insInner
    rw [e]
    by_cases c : (decide (j + 1 > 0) && ltX d[j + 1]! d[j]!) = true
    · rw [if_pos c, if_pos c]
      refine ih _ (by rw [size_swp]; omega) fun k hkj => ?_
      rw [swp_right d (j + 1) j (by omega), swp_other d (j + 1) j k (by omega) (by omega)]
      exact hk k (by omega)
    · rw [if_neg c, if_neg c]

/-- what an inner loop leaves: no greater keys than c up to i, all else as it was -/
theorem insInner_keeps (c i : Nat) : ∀ (j : Nat) (d : Array α), j ≤ i → i < d.size → (∀ k, k ≤ i → key d[k]! ≤ c) →
    (insInner ltX 0 j d).size = d.size ∧ (∀ k, k ≤ i → key (insInner ltX 0 j d)[k]! ≤ c) ∧ ∀ m, i < m → (insInner ltX 0 j d)[m]! = d[m]! := by
  intro j
  induction j with
  | zero => intro d _ _ h; exact ⟨rfl, h, fun _ _ => rfl⟩
  | succ j ih =>
    intro d hj hi h
    unfold insInner
    by_cases c1 : (decide (j + 1 > 0) && ltX d[j + 1]! d[j]!) = true
    · rw [if_pos c1]
      have h2 : ∀ k, k ≤ i → key (swp d (j + 1) j)[k]! ≤ c := fun k hk => by
        by_cases e1 : k = j + 1
        · subst e1; rw [swp_left d (j + 1) j (by omega) (by omega)]; exact h j (by omega)
        · by_cases e2 : k = j
          · subst e2; rw [swp_right d (k + 1) k (by omega)]; exact h (k + 1) (by omega)
          · rw [swp_other d (j + 1) j k e1 e2]; exact h k hk
      obtain ⟨g1, g2, g3⟩ := ih (swp d (j + 1) j) (by omega) (by rw [size_swp]; exact hi) h2
      refine ⟨by rw [g1, size_swp], g2, fun m hm => ?_⟩
      rw [g3 m hm, swp_other d (j + 1) j m (by omega) (by omega)]
    · rw [if_neg c1]
      exact ⟨rfl, h, fun _ _ => rfl⟩

theorem insOuter_go' (a b i : Nat) (d : Array α) (h : i < b) : insOuter lt a b i d = insOuter lt a b (i + 1) (insInner lt a i d) := by rw [insOuter, if_pos h]
theorem insOuter_stop' (a b i : Nat) (d : Array α) (h : ¬ i < b) : insOuter lt a b i d = d := by rw [insOuter, if_neg h]

theorem insOuter_agree (hag : ∀ x y, key y < key x → lt x y = ltX x y) (d0 : Array α) (hr : ∀ i j, i < j → j < d0.size → key d0[i]! < key d0[j]!) :
    ∀ (f i : Nat) (d : Array α), d0.size - i ≤ f → 1 ≤ i → d.size = d0.size → (∀ k, k < i → i < d0.size → key d[k]! < key d0[i]!) → (∀ m, i ≤ m → d[m]! = d0[m]!) → insOuter lt 0 d0.size i d = insOuter ltX 0 d0.size i d := by
  intro f
  induction f with
  | zero =>
    intro i d hf h1 hs hk hm
    rw [insOuter_stop' lt _ _ _ _ (by omega), insOuter_stop' ltX _ _ _ _ (by omega)]
  | succ f ih =>
    intro i d hf h1 hs hk hm
    by_cases hi : i < d0.size
    · rw [insOuter_go' lt _ _ _ _ hi, insOuter_go' ltX _ _ _ _ hi]
      have hki : ∀ k, k < i → key d[k]! < key d[i]! := fun k h => by rw [hm i (Nat.le_refl _)]; exact hk k h hi
      rw [insInner_agree key lt ltX hag i d (by omega) hki]
      have hc : ∀ k, k ≤ i → key d[k]! ≤ key d0[i]! := fun k h => by
        by_cases e : k = i
        · subst e; rw [hm k (Nat.le_refl _)]; exact Nat.le_refl _
        · exact Nat.le_of_lt (hk k (by omega) hi)
      obtain ⟨g1, g2, g3⟩ := insInner_keeps key ltX (key d0[i]!) i i d (Nat.le_refl _) (by omega) hc
      refine ih (i + 1) _ (by omega) (by omega) (by rw [g1, hs]) (fun k h h2 => ?_) (fun m h => ?_)
      · have := g2 k (by omega)
        have := hr i (i + 1) (by omega) h2
        omega
      · rw [g3 m (by omega), hm m (by omega)]
    · rw [insOuter_stop' lt _ _ _ _ hi, insOuter_stop' ltX _ _ _ _ hi]

/-- of a list that rises: sorted by what is asked, of like ones by number -/
theorem insertionSort_stable (hag : ∀ x y, key y < key x → lt x y = ltX x y) (hS : SWO ltX) (d : Array α) (hr : ∀ i j, i < j → j < d.size → key d[i]! < key d[j]!) :
    PermIn 0 d.size d (insertionSort lt d 0 d.size) ∧ SortedIn ltX 0 d.size (insertionSort lt d 0 d.size) := by
  have e : insertionSort lt d 0 d.size = insertionSort ltX d 0 d.size := by
    unfold insertionSort
    refine insOuter_agree key lt ltX hag d hr d.size 1 d (by omega) (Nat.le_refl _) rfl (fun k hk h => hr k 1 (by omega) h) (fun _ _ => rfl)
  rw [e]
  exact insertionSort_holds hS d 0 d.size (Nat.zero_le _) (Nat.le_refl _)

end

end Go.Proofs.Ytdhefajaekackaa

/- What one more version changes, in plain words. Plain: it speaks of no program. -/
namespace Go.Proofs.Ytdhefajaekackaa

set_option linter.unusedVariables false

section

variable {n lp : Nat} {b : Bk} {X : Nat → Int} {nd of sz : Int}

end

theorem getD_mem {l : List Int} {x : Int} : hasB (fun j => l.getD j 0) l.length x = true ↔ x ∈ l := by
  rw [hasB_iff, List.mem_iff_getElem?]
  constructor
  · rintro ⟨j, hj, e⟩
    exact ⟨j, by rw [← e]; simp [List.getD_eq_getElem?_getD, hj]⟩
  · rintro ⟨j, e⟩
    have hj := (List.getElem?_eq_some_iff.1 e).1
    refine ⟨j, hj, ?_⟩
    show l.getD j 0 = x
    simp [List.getD_eq_getElem?_getD, e]

theorem pickL_rise (p : Nat → Bool) (j : Nat) : List.Pairwise (· < ·) (pickL p j) := by
  unfold pickL
  rw [List.pairwise_map]
  refine List.Pairwise.imp (fun h => ?_) (List.Pairwise.filter p List.pairwise_lt_range)
  omega

/-- one more of a set -/
theorem count_add (p : Nat → Bool) (x : Nat) (m : Nat) (hx : x < m) : ((List.range m).filter fun y => p y || decide (y = x)).length = if p x = true then ((List.range m).filter p).length else ((List.range m).filter p).length + 1 := by
  have key : ∀ m, ((List.range m).filter fun y => p y || decide (y = x)).length = ((List.range m).filter p).length + (if x < m ∧ p x = false then 1 else 0) := by
    intro m
    induction m with
    | zero => simp
    | succ m ih =>
      rw [List.range_succ, List.filter_append, List.filter_append, List.length_append, List.length_append, ih]
      by_cases e : m = x
      · subst e
        cases hp : p m with
        | true => simp [hp]
        | false => simp [hp]
      · cases hp : p m with
        | true =>
          cases hq : p x with
          | true => simp [hp]
          | false =>
            by_cases hl : x < m
            · simp [hp, hl, show x < m + 1 by omega]
            · simp [hp, hl, show ¬ x < m + 1 by omega]
        | false =>
          cases hq : p x with
          | true => simp [hp, e]
          | false =>
            by_cases hl : x < m
            · simp [hp, e, hl, show x < m + 1 by omega]
            · simp [hp, e, hl, show ¬ x < m + 1 by omega]
  rw [key m]
  cases hp : p x with
  | true => simp
  | false => simp [hx]

end Go.Proofs.Ytdhefajaekackaa
