/- Several texts of one proof, in their order. -/
import Derived.Test.YtfcpmpcfbhkacaaVb34
import Derived.Test.YtfcpmpcfbhkacaaVoteOrderPart0

/- A list of shares of the call's own, turned around by the library. -/
namespace Go.Proofs.Ytfcpmpcfbhkacaa

open Go.RowKit CurveMath Go.Sort
set_option linter.unusedVariables false

def slP : Value → Option Addr × Nat × Nat | .slice a l c => (a, l, c) | _ => (none, 0, 0)
def shP (N : Nat → Int) (V : Nat → Value) (j : Nat) : Int × Option Addr × Nat × Nat := (N j, slP (V j))
def encP (x : Int × Option Addr × Nat × Nat) : List Value := [.int .i64 x.1, .slice x.2.1 x.2.2.1 x.2.2.2]
def arrP (n : Nat) (N : Nat → Int) (V : Nat → Value) : Array (Int × Option Addr × Nat × Nat) := ((List.range n).map (shP N V)).toArray

theorem arrP_size (n : Nat) (N : Nat → Int) (V : Nat → Value) : (arrP n N V).size = n := by simp [arrP]

theorem arrP_get (n : Nat) (N : Nat → Int) (V : Nat → Value) (j : Nat) (hj : j < n) : (arrP n N V)[j]! = shP N V j := by
  rw [getElem!_pos _ _ (by rw [arrP_size]; exact hj)]
  simp [arrP]

theorem flat_arr {n : Nat} {N : Nat → Int} {V : Nat → Value} (hV : ∀ j, j < n → ∃ a l c, V j = .slice a l c) : flatK encP 2 (arrP n N V) = (flatS n N V).toArray := by
  refine ext_get! (by rw [size_flatK, arrP_size, List.size_toArray, flatS_len]) fun t ht => ?_
  have ht' : t < n * 2 := by rw [size_flatK, arrP_size] at ht; exact ht
  rw [get_flatK _ _ _ _ (by rw [arrP_size]; exact ht'), arrP_get _ _ _ _ (by omega), getElem!_pos (flatS n N V).toArray _ (by rw [List.size_toArray, flatS_len]; exact ht')]
  have h2 := flatS_get n N V t
  rw [if_pos ht', List.getElem?_eq_getElem (by rw [flatS_len]; exact ht')] at h2
  injection h2 with h2
  rw [List.getElem_toArray, h2]
  unfold cellS encP shP
  obtain ⟨a, l, c, e⟩ := hV (t / 2) (by omega)
  by_cases h0 : t % 2 = 0
  · rw [if_pos h0, h0]; rfl
  · rw [if_neg h0, show t % 2 = 1 by omega, e]; rfl

theorem arr_turn (n : Nat) (N : Nat → Int) (V : Nat → Value) : (arrP n N V).reverse = arrP n (fun j => N (n - 1 - j)) (fun j => V (n - 1 - j)) := by
  apply Array.ext
  · rw [Array.size_reverse, arrP_size, arrP_size]
  · intro i h1 h2
    rw [arrP_size] at h2
    simp [arrP, shP]

theorem take_put (F cur : Array Value) (h : F.size ≤ cur.size) : (putCells id 0 F cur).toList.take F.size = F.toList := by
  apply List.ext_getElem?
  intro j
  by_cases hj : j < F.size
  · rw [List.getElem?_take_of_lt hj, Array.getElem?_toList]
    simp [putCells, hj, show j < cur.size by omega]
  · rw [List.getElem?_take_eq_none (by omega), List.getElem?_eq_none (by simp; omega)]

/-- slices.Reverse of an own list of shares -/
theorem reverse_own {w0 wr : World} {v : Value} {n : Nat} {N : Nat → Int} {V : Nat → Value} (h : OwnS w0 wr v n N V) (hn : n ≤ 1000) (hV : ∀ j, j < n → ∃ a l c, V j = .slice a l c) :
    Calls Try.prog 36 #[v] wr fun e w' => e = .returned (.tuple #[]) ∧ OwnS w0 w' v n (fun j => N (n - 1 - j)) (fun j => V (n - 1 - j)) := by
  obtain ⟨⟨hl, h2⟩, hb⟩ := h
  rcases h2 with ⟨rfl, h0⟩ | ⟨g, cap, cur, rfl, hg, hh, hc1, hc2, hsz, hcur⟩
  · subst h0
    refine (AnyQ.slices_Reverse_empty Try.reverseShares none 0 wr).mono ?_
    rintro e w' ⟨he, rfl⟩
    exact ⟨he, World.ownsRow_nil _ _ _ _, hb⟩
  · have hH : HoldsK encP 2 wr g 0 (arrP n N V) := by
      unfold HoldsK
      rw [flat_arr hV]
      intro j hj
      rw [List.size_toArray, flatS_len] at hj
      refine ⟨?_, frozen_at hh⟩
      obtain ⟨u, hu⟩ : ∃ u, (flatS n N V).toArray[j]! = u := ⟨_, rfl⟩
      have h3 : (flatS n N V)[j]? = some u := by
        rw [← hu, getElem!_pos _ _ (by rw [List.size_toArray, flatS_len]; exact hj), List.getElem?_eq_getElem (by rw [flatS_len]; exact hj)]
        simp
      rw [← hcur, List.getElem?_take, if_pos hj] at h3
      rw [Nat.zero_add, hu]
      exact cell_at hh (by simpa using h3)
    have hc := AnyQ.slices_Reverse Try.reverseShares 2 Try.isAgg27 Try.sizeOf27 encP (fun _ => rfl) (fun x v hv => by simp [encP] at hv; rcases hv with rfl | rfl <;> rfl) g 0 cap (arrP n N V) wr hH (by rw [arrP_size]; omega)
    rw [arrP_size, arr_turn] at hc
    refine hc.mono ?_
    rintro e w' ⟨he, q, rfl⟩
    have hV' : ∀ j, j < n → ∃ a l c, (fun j => V (n - 1 - j)) j = .slice a l c := fun j hj => hV (n - 1 - j) (by omega)
    have hF : (flatS n (fun j => N (n - 1 - j)) (fun j => V (n - 1 - j))).toArray.size = n * 2 := by rw [List.size_toArray, flatS_len]
    refine ⟨he, ⟨flatS_len _ _ _, Or.inr ⟨g, cap, putCells id 0 (flatS n (fun j => N (n - 1 - j)) (fun j => V (n - 1 - j))).toArray cur, rfl, hg, ?_, hc1, hc2, by simp [putCells, hsz], ?_⟩⟩, ?_⟩
    · unfold putRowK
      rw [flat_arr hV']
      simp [putRow, mapBlock, Sort.ahead, Array.getElem?_modify, hh, onCells]
    · have h4 := take_put (flatS n (fun j => N (n - 1 - j)) (fun j => V (n - 1 - j))).toArray cur (by rw [hF, hsz]; omega)
      rw [hF] at h4
      exact h4
    · refine hb.trans ⟨rfl, rfl, rfl, by simp [putRowK, putRow, mapBlock, Sort.ahead], fun k hk => ?_⟩
      have hne : g ≠ k := by omega
      simp [putRowK, putRow, mapBlock, Sort.ahead, Array.getElem?_modify, hne]

end Go.Proofs.Ytfcpmpcfbhkacaa
