/- The insertion sort keeps the order of like ones: of a list that rises it makes the one that is sorted by what is asked, and of like ones by number. Plain: it speaks of no program. -/
import Derived.Sort.LotA
namespace Go.Proofs.Ytmefjflponcfhae
open Go.Sort
set_option linter.unusedVariables false

section
variable {α : Type} [Inhabited α] (key : α → Nat) (lt ltX : α → α → Bool)

theorem insInner_agree (hag : ∀ x y, key y < key x → lt x y = ltX x y) : ∀ (j : Nat) (d : Array α), j < d.size → (∀ k, k < j → key d[k]! < key d[j]!) → insInner lt 0 j d = insInner ltX 0 j d := by
  intro j
  induction j with
  | zero => intro d _ _; rfl
  | succ j ih =>
    intro d hj hk
    have e := hag d[j + 1]! d[j]! (hk j (by omega))
    unfold insInner
    rw [e]
    by_cases c : (decide (j + 1 > 0) && ltX d[j + 1]! d[j]!) = true
    · rw [if_pos c, if_pos c]
      refine ih _ (by rw [size_swp]; omega) fun k hkj => ?_
      rw [swp_right d (j + 1) j (by omega), swp_other d (j + 1) j k (by omega) (by omega)]
      exact hk k (by omega)
    · rw [if_neg c, if_neg c]

/-- what an inner loop leaves: no greater keys than c up to i, all else as it was -/
theorem insInner_keeps (c i : Nat) : ∀ (j : Nat) (d : Array α), j ≤ i → i < d.size → (∀ k, k ≤ i → key d[k]! ≤ c) →
    (insInner ltX 0 j d).size = d.size ∧ (∀ k, k ≤ i → key (insInner ltX 0 j d)[k]! ≤ c) ∧ ∀ m, i < m → (insInner ltX 0 j d)[m]! = d[m]! := by
  intro j
  induction j with
  | zero => intro d _ _ h; exact ⟨rfl, h, fun _ _ => rfl⟩
  | succ j ih =>
    intro d hj hi h
    unfold insInner
    by_cases c1 : (decide (j + 1 > 0) && ltX d[j + 1]! d[j]!) = true
    · rw [if_pos c1]
      have h2 : ∀ k, k ≤ i → key (swp d (j + 1) j)[k]! ≤ c := fun k hk => by
        by_cases e1 : k = j + 1
        · subst e1; rw [swp_left d (j + 1) j (by omega) (by omega)]; exact h j (by omega)
        · by_cases e2 : k = j
          · subst e2; rw [swp_right d (k + 1) k (by omega)]; exact h (k + 1) (by omega)
          · rw [swp_other d (j + 1) j k e1 e2]; exact h k hk
      obtain ⟨g1, g2, g3⟩ := ih (swp d (j + 1) j) (by omega) (by rw [size_swp]; exact hi) h2
      refine ⟨by rw [g1, size_swp], g2, fun m hm => ?_⟩
      rw [g3 m hm, swp_other d (j + 1) j m (by omega) (by omega)]
    · rw [if_neg c1]
      exact ⟨rfl, h, fun _ _ => rfl⟩

theorem insOuter_go' (a b i : Nat) (d : Array α) (h : i < b) : insOuter lt a b i d = insOuter lt a b (i + 1) (insInner lt a i d) := by rw [insOuter, if_pos h]
theorem insOuter_stop' (a b i : Nat) (d : Array α) (h : ¬ i < b) : insOuter lt a b i d = d := by rw [insOuter, if_neg h]

theorem insOuter_agree (hag : ∀ x y, key y < key x → lt x y = ltX x y) (d0 : Array α) (hr : ∀ i j, i < j → j < d0.size → key d0[i]! < key d0[j]!) :
    ∀ (f i : Nat) (d : Array α), d0.size - i ≤ f → 1 ≤ i → d.size = d0.size → (∀ k, k < i → i < d0.size → key d[k]! < key d0[i]!) → (∀ m, i ≤ m → d[m]! = d0[m]!) → insOuter lt 0 d0.size i d = insOuter ltX 0 d0.size i d := by
  intro f
  induction f with
  | zero =>
    intro i d hf h1 hs hk hm
    rw [insOuter_stop' lt _ _ _ _ (by omega), insOuter_stop' ltX _ _ _ _ (by omega)]
  | succ f ih =>
    intro i d hf h1 hs hk hm
    by_cases hi : i < d0.size
    · rw [insOuter_go' lt _ _ _ _ hi, insOuter_go' ltX _ _ _ _ hi]
      have hki : ∀ k, k < i → key d[k]! < key d[i]! := fun k h => by rw [hm i (Nat.le_refl _)]; exact hk k h hi
      rw [insInner_agree key lt ltX hag i d (by omega) hki]
      have hc : ∀ k, k ≤ i → key d[k]! ≤ key d0[i]! := fun k h => by
        by_cases e : k = i
        · subst e; rw [hm k (Nat.le_refl _)]; exact Nat.le_refl _
        · exact Nat.le_of_lt (hk k (by omega) hi)
      obtain ⟨g1, g2, g3⟩ := insInner_keeps key ltX (key d0[i]!) i i d (Nat.le_refl _) (by omega) hc
      refine ih (i + 1) _ (by omega) (by omega) (by rw [g1, hs]) (fun k h h2 => ?_) (fun m h => ?_)
      · have := g2 k (by omega)
        have := hr i (i + 1) (by omega) h2
        omega
      · rw [g3 m (by omega), hm m (by omega)]
    · rw [insOuter_stop' lt _ _ _ _ hi, insOuter_stop' ltX _ _ _ _ hi]

/-- of a list that rises: sorted by what is asked, of like ones by number -/
theorem insertionSort_stable (hag : ∀ x y, key y < key x → lt x y = ltX x y) (hS : SWO ltX) (d : Array α) (hr : ∀ i j, i < j → j < d.size → key d[i]! < key d[j]!) :
    PermIn 0 d.size d (insertionSort lt d 0 d.size) ∧ SortedIn ltX 0 d.size (insertionSort lt d 0 d.size) := by
  have e : insertionSort lt d 0 d.size = insertionSort ltX d 0 d.size := by
    unfold insertionSort
    refine insOuter_agree key lt ltX hag d hr d.size 1 d (by omega) (Nat.le_refl _) rfl (fun k hk h => hr k 1 (by omega) h) (fun _ _ => rfl)
  rw [e]
  exact insertionSort_holds hS d 0 d.size (Nat.zero_le _) (Nat.le_refl _)
end

end Go.Proofs.Ytmefjflponcfhae
