/- Several texts of one proof, in their order. -/
import Derived.Test.YtdhefajaekackaaPrSum8

/- Where one more is put among what a peer keeps: ahead of what is above it, behind what is below it. -/
namespace Go.Proofs.Ytdhefajaekackaa

open Go.RowKit
set_option linter.unusedVariables false

/-- the places of those that p agrees to -/
def agL (p : Nat → Bool) (m : Nat) : List Nat := (List.range m).filter p

theorem agL_succ (p : Nat → Bool) (m : Nat) : agL p (m + 1) = agL p m ++ (if p m = true then [m] else []) := by
  unfold agL
  rw [List.range_succ, List.filter_append]
  cases h : p m <;> simp [h]

theorem agL_len (p : Nat → Bool) (m : Nat) : (agL p m).length ≤ m := by
  unfold agL
  refine Nat.le_trans (List.length_filter_le _ _) ?_
  simp

theorem agL_lt {p : Nat → Bool} {m i : Nat} (h : i ∈ agL p m) : i < m := by
  unfold agL at h
  exact List.mem_range.1 (List.mem_filter.1 h).1

theorem agL_notin (p : Nat → Bool) (m : Nat) : m ∉ agL p m := fun h => by have := agL_lt h; omega

def ahB (t : Kt) (ver : Int) (j : Nat) : Bool := decide (t.V j < ver)
def bhB (t : Kt) (ver : Int) (j : Nat) : Bool := decide (ver < t.V j)

theorem put_order {t : Kt} {m : Nat} {ver N : Int} {L : Nat} {X : Nat → Int} (hr : ∀ i j, i < j → j < m → t.V i < t.V j) (hn : ∀ j, j < m → t.V j ≠ ver) :
    InOrder (snocT m t ver N L X) (m + 1) ((agL (ahB t ver) m ++ [m]) ++ agL (bhB t ver) m) := by
  have hsub : ∀ p : Nat → Bool, (agL p m).Pairwise (fun a c => (snocT m t ver N L X).V a < (snocT m t ver N L X).V c) := fun p => by
    have h1 : (agL p m).Pairwise (fun a c : Nat => a < c) := List.Pairwise.filter p List.pairwise_lt_range
    refine h1.imp_of_mem ?_
    intro a c ha hc hac
    have la := agL_lt ha
    have lc := agL_lt hc
    have e1 : (snocT m t ver N L X).V a = t.V a := by simp only [snocT]; rw [if_neg (by omega)]
    have e2 : (snocT m t ver N L X).V c = t.V c := by simp only [snocT]; rw [if_neg (by omega)]
    rw [e1, e2]
    exact hr a c hac lc
  have hv : ∀ i, i < m → (snocT m t ver N L X).V i = t.V i := fun i hi => by simp only [snocT]; rw [if_neg (by omega)]
  have hm : (snocT m t ver N L X).V m = ver := by simp only [snocT]; rw [if_pos trivial]
  refine ⟨?_, ?_⟩
  · have e : agL (bhB t ver) m = agL (fun j => !(ahB t ver j)) m := by
      unfold agL
      refine List.filter_congr ?_
      intro j hj
      have hj := List.mem_range.1 hj
      have := hn j hj
      unfold ahB bhB
      by_cases h1 : t.V j < ver
      · have h2 : ¬ ver < t.V j := by omega
        simp [h1, h2]
      · have h2 : ver < t.V j := by omega
        simp [h1, h2]
    rw [e, List.range_succ]
    have hp : (agL (ahB t ver) m ++ agL (fun j => !(ahB t ver j)) m).Perm (List.range m) := List.filter_append_perm _ _
    have h3 : ((agL (ahB t ver) m ++ [m]) ++ agL (fun j => !(ahB t ver j)) m).Perm ((agL (ahB t ver) m ++ agL (fun j => !(ahB t ver j)) m) ++ [m]) := by
      rw [List.append_assoc, List.append_assoc]
      exact List.Perm.append_left _ List.perm_append_comm
    exact h3.trans (hp.append_right _)
  · rw [List.pairwise_append, List.pairwise_append]
    refine ⟨⟨hsub _, by simp, ?_⟩, hsub _, ?_⟩
    · intro a ha c hc
      have hc : c = m := by simpa using hc
      subst hc
      rw [hv a (agL_lt ha), hm]
      have := (List.mem_filter.1 ha).2
      exact of_decide_eq_true this
    · intro a ha c hc
      rw [hv c (agL_lt hc)]
      have hc2 : ver < t.V c := of_decide_eq_true (List.mem_filter.1 hc).2
      rcases List.mem_append.1 ha with ha | ha
      · rw [hv a (agL_lt ha)]
        have : t.V a < ver := of_decide_eq_true (List.mem_filter.1 ha).2
        omega
      · have ha : a = m := by simpa using ha
        subst ha
        rw [hm]
        exact hc2

end Go.Proofs.Ytdhefajaekackaa
