/- Several texts of one proof, in their order. -/
import Derived.Test.YtfcpmpcfbhkacaaVb19
import Derived.Test.YtfcpmpcfbhkacaaVb4
import Derived.Sort.OwnSortedInts

/- An own list of ints: read, and sorted wherever it lies. -/
namespace Go.Proofs.Ytfcpmpcfbhkacaa

open Go.RowKit
set_option linter.unusedVariables false

/-- an own list of ints reads as what it is -/
theorem own_isl {w : World} {base : Nat} {v : Value} {l : List Int} (h : w.ownsRow base 3 1 v l.length (l.map (Value.int .i64))) (hr : l.length * 8 ≤ 140737488351232) : IntSl w w.heap.size v l.length (fun j => l.getD j 0) := by
  obtain ⟨hl, h2⟩ := h
  rcases h2 with ⟨e1, h0⟩ | ⟨g, cp, cur, e1, _, hh, hc, _, hsz, hcur⟩
  · rw [e1, h0]; exact ⟨none, 0, rfl, ⟨Nat.le_refl _, by omega⟩, Or.inl rfl⟩
  · refine ⟨_, cp, e1, ⟨hc, hr⟩, Or.inr ⟨g, 0, rfl, (Array.getElem?_eq_some_iff.1 hh).1, fun j hj => ?_⟩⟩
    have h3 : (l.map (Value.int .i64))[j]? = some (.int .i64 (l.getD j 0)) := by simp [List.getD_eq_getElem?_getD, hj]
    rw [← hcur, List.getElem?_take, if_pos (by omega)] at h3
    rw [Nat.zero_add]
    exact cell_at hh (by simpa using h3)

/-- slices.Sort of an own list, wherever it lies -/
theorem sort_row {base : Nat} {wr : World} {v : Value} {l : List Int} (h : wr.ownsRow base 3 1 v l.length (l.map (Value.int .i64))) (hk : l.length ≤ 1000) :
    Calls Try.prog 33 #[v] wr fun e w' => e = .returned (.tuple #[]) ∧ w'.ownsRow base 3 1 v (srt l).length ((srt l).map (Value.int .i64)) ∧ wr.grownBy w' v.ownBlock := by
  obtain ⟨hl, h2⟩ := h
  rcases h2 with ⟨rfl, h0⟩ | ⟨g, cap, cur, rfl, hg, hh, hc1, hc2, hsz, hcur⟩
  · have hl0 : l = [] := List.length_eq_zero_iff.1 h0
    subst hl0
    refine (Try.slices_Sort_int_none none 0 wr).mono ?_
    rintro e w' ⟨rfl, hw⟩
    subst hw
    have e0 : srt [] = [] := by simp [srt]
    rw [e0]
    exact ⟨rfl, World.ownsRow_nil _ _ _ _, rfl, rfl, rfl, Nat.le_refl _, fun _ _ _ => rfl⟩
  · rw [Nat.mul_one] at hcur
    refine (Try.slices_Sort_int g 0 cap l wr (holds_of_blockI hh hcur) (Array.getElem?_eq_some_iff.1 hh).1 (by omega)).mono ?_
    rintro e w' ⟨rfl, n, os, rfl⟩
    have ho := ownsRow_sortedI (n := n) (os := os) (ss := l) (ts := srt l) (srt_len l) hg hh hc1 hc2 hsz
    refine ⟨rfl, ?_, grownBy_sortedI _⟩
    rw [srt_len]
    exact ho

end Go.Proofs.Ytfcpmpcfbhkacaa
