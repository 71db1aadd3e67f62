/- slices.Concat of two lists of ints that are not empty: a new list of both, one behind the other. -/
import Derived.Test.YtbgjlhganidhhaaOwn
import Derived.Test.YtbgjlhganidhhaaShelf
namespace Go.Proofs.Ytbgjlhganidhhaa
open Go.RowKit
set_option linter.unusedVariables false

theorem grow_nil (n : Nat) (hn : 1 ≤ n ∧ n ≤ 1000) (w : World) :
    Calls Try.prog 42 #[.slice none 0 0, .int .i64 n] w fun e w' => ∃ cap, e = .returned (.slice (some ⟨w.heap.size, 0, none⟩) 0 cap) ∧ w'.ownsRow w.heap.size 3 1 (.slice (some ⟨w.heap.size, 0, none⟩) 0 cap) 0 [] ∧ Below w.heap.size w w' := by
  obtain ⟨ii, hi, hz0, hz1, hz2⟩ := info_parts Try.infoInt
  have h := Any8.slices_Grow_grow Try.growInt ii (.int .i64 0) hi hz0 (by rw [hz1]; decide) none 0 0 n [] w (Nat.le_refl _) (by omega) (by rw [hz2]; omega) (by omega) (by simp) (fun _ => rfl) (fun a ha => by cases ha)
  refine Calls.mono h ?_
  rintro e w' ⟨rfl, rfl⟩
  refine ⟨_, rfl, ?_, ?_⟩
  · refine World.ownsRow_made w.drew _ _ (Nat.le_refl _) (grownCap_le_maxLen w _ _ _ (by unfold maxLen; omega)) ?_
    have hge := grownCap_ge w (0 + n) 0 3
    have hzc : (Value.int .i64 0).cells.size = 1 := rfl
    simp only [Array.size_append, List.size_toArray, size_zeroCells, hzc, List.length_nil]
    have e1 : Try.growInt_ren.t 25 = 3 := rfl
    rw [e1]
    omega
  · exact (Below.refl w.heap.size w).drew.alloc (Nat.le_refl _) _

/-- what an own slice becomes when a whole list is put behind it -/
theorem OwnI.append {w0 wr w1 : World} {v v' : Value} {k m : Nat} {C X : Nat → Int} (h : OwnI w0 wr v k C)
    (ho : w1.ownsRow w0.heap.size 3 1 v' (k + m) (((List.range k).map fun j => Value.int .i64 (C j)) ++ ((List.range m).map fun j => Value.int .i64 (X j)))) (hg : wr.grownBy w1 v.ownBlock) :
    OwnI w0 w1 v' (k + m) (fun j => if j < k then C j else X (j - k)) := by
  refine ⟨?_, ?_⟩
  · have e : ((List.range (k + m)).map fun j => Value.int .i64 (if j < k then C j else X (j - k))) = ((List.range k).map fun j => Value.int .i64 (C j)) ++ ((List.range m).map fun j => Value.int .i64 (X j)) := by
      rw [List.range_add, List.map_append, List.map_map]
      congr 1
      · apply List.map_congr_left
        intro j hj
        rw [if_pos (List.mem_range.1 hj)]
      · apply List.map_congr_left
        intro j hj
        simp
        intro h; omega
    rw [e]
    exact ho
  · refine h.2.grown hg h.2.size (fun j hj => ?_)
    obtain ⟨_, h2⟩ := h.1
    rcases h2 with ⟨rfl, _⟩ | ⟨g, cap, cur, rfl, hge, _⟩
    · cases hj
    · simp only [Value.ownBlock, Option.some.injEq] at hj
      omega

theorem newCells {w : World} {b off m : Nat} {X : Nat → Int} (h : ∀ j, j < m → w.cell? ⟨b, off + j, none⟩ = some (.int .i64 (X j))) : ∀ j u, ((List.range m).map fun j => Value.int .i64 (X j))[j]? = some u → w.cell? (Addr.add ⟨b, off, none⟩ j) = some u := by
  intro j u hj
  have hl : j < m := by
    have := (List.getElem?_eq_some_iff.1 hj).1
    simpa using this
  have e : ((List.range m).map fun j => Value.int .i64 (X j))[j]? = some (Value.int .i64 (X j)) := by simp [hl]
  rw [e] at hj
  injection hj with hj
  rw [← hj]
  have h2 := h j hl
  unfold Addr.add
  split
  · rename_i h0
    subst h0
    simpa using h2
  · exact h2

theorem oneCells (m : Nat) (X : Nat → Int) : ∀ u ∈ ((List.range m).map fun j => Value.int .i64 (X j)), u.oneCell' = true := by
  intro u hu
  obtain ⟨j, _, rfl⟩ := List.mem_map.1 hu
  rfl

theorem concat_two (g c0 : Nat) (w : World) (v1 v2 : Value) (n1 n2 : Nat) (X Y : Nat → Int) (h1 : IntSl w w.heap.size v1 n1 X) (h2 : IntSl w w.heap.size v2 n2 Y)
    (hn1 : 1 ≤ n1 ∧ n1 ≤ 100) (hn2 : 1 ≤ n2 ∧ n2 ≤ 100) (hc0 : w.cell? ⟨g, 0, none⟩ = some v1) (hc1 : w.cell? ⟨g, 1, none⟩ = some v2) :
    Calls Try.prog 29 #[.slice (some ⟨g, 0, none⟩) 2 c0] w fun e w' => ∃ gr cap, e = .returned (.slice (some ⟨gr, 0, none⟩) (n1 + n2) cap) ∧ n1 + n2 ≤ cap ∧ Row w w' gr (n1 + n2) (fun j => if j < n1 then X j else Y (j - n1)) := by
  obtain ⟨a1, c1, rfl, ⟨hc1', hr1⟩, hx⟩ := h1
  obtain ⟨a2, c2, rfl, ⟨hc2', hr2⟩, hy⟩ := h2
  rcases hx with h0 | ⟨b1, o1, rfl, hb1, hx⟩
  · omega
  rcases hy with h0 | ⟨b2, o2, rfl, hb2, hy⟩
  · omega
  have hbg : g < w.heap.size := cell_lt hc0
  have HX := hid hx
  have HY := hid hy
  have HC0 := hid hc0
  have HC1 := hid hc1
  clear hx hy
  obtain ⟨ii, hi, hz0, hz1, hz2⟩ := info_parts Try.infoInt
  go_enter Try.func29, Try.ntmps29
  go_wp2
  refine wp_loop_rounds 3 ?_
  iterate 3 (rw [rounds_succ]; go_wp2_with fail)
  clear hc0 hc1
  refine Calls.mono (grow_nil (n1 + n2) (by omega) w) ?_
  rintro e w1 ⟨cap, rfl, ho1, hbw⟩
  have hc0 : w1.cell? ⟨g, 0, none⟩ = some (.slice (some ⟨b1, o1, none⟩) n1 c1) := by rw [hbw.cell hbg]; exact HC0.out
  have hc1 : w1.cell? ⟨g, 1, none⟩ = some (.slice (some ⟨b2, o2, none⟩) n2 c2) := by rw [hbw.cell hbg]; exact HC1.out
  have O1 : Hid (OwnI w w1 (.slice (some ⟨w.heap.size, 0, none⟩) 0 cap) 0 (fun _ => 0)) := ⟨ho1, hbw⟩
  have BW := hid hbw
  clear ho1 hbw
  go_wp2_with fail
  refine wp_loop_rounds 3 ?_
  rw [rounds_succ]
  go_wp2_with (at_builtin; go_must (refine wpList_append_own _ rfl (.tmp 31) (.tmp 32) 24 rfl w.heap.size 3 ii (.int .i64 0) 1 8 Try.underlying24 hi hz0 hz1 hz2 rfl (by decide) _ _ _ rfl O1.out.1 ⟨b1, o1, none⟩ n1 c1 ((List.range n1).map fun j => Value.int .i64 (X j)) rfl (by simp) (newCells (fun j hj => by rw [BW.out.cell hb1]; exact HX.out j hj)) (oneCells _ _) (by unfold maxLen; omega) (by omega) BW.out.size ?_; intro v1 w2 ho2 hg2 _; have O2 := hid (O1.out.append ho2 hg2); clear ho2 hg2 hc0 hc1 O1; have hc1 : w2.cell? ⟨g, 1, none⟩ = some (.slice (some ⟨b2, o2, none⟩) n2 c2) := by rw [O2.out.2.cell hbg]; exact HC1.out))
  rw [rounds_succ]
  go_wp2_with (at_builtin; go_must (refine wpList_append_own _ rfl (.tmp 31) (.tmp 32) 24 rfl w.heap.size 3 ii (.int .i64 0) 1 8 Try.underlying24 hi hz0 hz1 hz2 rfl (by decide) _ _ _ rfl O2.out.1 ⟨b2, o2, none⟩ n2 c2 ((List.range n2).map fun j => Value.int .i64 (Y j)) rfl (by simp) (newCells (fun j hj => by rw [O2.out.2.cell hb2]; exact HY.out j hj)) (oneCells _ _) (by unfold maxLen; omega) (by omega) O2.out.2.size ?_; intro v2 w3 ho3 hg3 _; have O3 := hid (O2.out.append ho3 hg3); clear ho3 hg3 hc1 O2))
  rw [rounds_succ]
  go_wp2
  go_ret
  have h3 := O3.out
  rw [Nat.zero_add] at h3
  obtain ⟨gr, cp, hv, hcp, hrow⟩ := h3.row (by omega)
  refine ⟨gr, cp, by rw [← hv]; rfl, hcp, hrow.congr fun j hj => ?_⟩
  by_cases hj1 : j < n1
  · rw [if_pos hj1, if_pos hj1, if_neg (by omega)]
    simp
  · rw [if_neg hj1, if_neg hj1]

end Go.Proofs.Ytbgjlhganidhhaa
