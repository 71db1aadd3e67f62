/- All sets of places, as bits, and the choices among them, sorted: the same choices in the same order. Plain: it speaks of no program. -/
import Derived.Test.YtnmionnbndfbkacVoteMath
namespace Go.Proofs.Ytnmionnbndfbkac
open Go.RowKit CurveMath
set_option linter.unusedVariables false

/-- how one list stands to another of the same length -/
def cmpL : List Nat → List Nat → Int
  | a :: l, b :: m => if a < b then -1 else if b < a then 1 else cmpL l m
  | _, _ => 0

theorem cmpL_self (l : List Nat) : cmpL l l = 0 := by
  induction l with
  | nil => rfl
  | cons a l ih => simp only [cmpL]; rw [if_neg (by omega), if_neg (by omega)]; exact ih

theorem cmpL_zero : ∀ (l m : List Nat), l.length = m.length → cmpL l m = 0 → l = m
  | [], [], _, _ => rfl
  | [], _ :: _, h, _ => by simp at h
  | _ :: _, [], h, _ => by simp at h
  | a :: l, b :: m, h, h0 => by
    simp only [cmpL] at h0
    by_cases h1 : a < b
    · rw [if_pos h1] at h0; omega
    · rw [if_neg h1] at h0
      by_cases h2 : b < a
      · rw [if_pos h2] at h0; omega
      · rw [if_neg h2] at h0
        rw [show a = b by omega, cmpL_zero l m (by simpa using h) h0]

theorem cmpL_swap : ∀ (l m : List Nat), l.length = m.length → cmpL m l = - cmpL l m
  | [], [], _ => rfl
  | [], _ :: _, h => by simp at h
  | _ :: _, [], h => by simp at h
  | a :: l, b :: m, h => by
    simp only [cmpL]
    by_cases h1 : a < b
    · rw [if_pos h1, if_neg (by omega), if_pos h1]; omega
    · by_cases h2 : b < a
      · rw [if_pos h2, if_neg h1, if_pos h2]
      · rw [if_neg h2, if_neg h1, if_neg h1, if_neg h2]; exact cmpL_swap l m (by simpa using h)

theorem cmpL_trans : ∀ (l m k : List Nat), l.length = m.length → m.length = k.length → cmpL l m < 0 → cmpL m k < 0 → cmpL l k < 0
  | [], [], _, _, _, h, _ => by simp [cmpL] at h
  | [], _ :: _, _, h, _, _, _ => by simp at h
  | _ :: _, [], _, h, _, _, _ => by simp at h
  | _ :: _, _ :: _, [], _, h, _, _ => by simp at h
  | a :: l, b :: m, c :: k, h, h', g1, g2 => by
    simp only [cmpL] at *
    by_cases e1 : a < b
    · by_cases e2 : b < c
      · rw [if_pos (by omega)]; omega
      · rw [if_neg e2] at g2
        by_cases e3 : c < b
        · rw [if_pos e3] at g2; omega
        · rw [if_pos (by omega)]; omega
    · rw [if_neg e1] at g1
      by_cases e4 : b < a
      · rw [if_pos e4] at g1; omega
      · rw [if_neg e4] at g1
        have eab : a = b := by omega
        subst eab
        by_cases e2 : a < c
        · rw [if_pos e2]; omega
        · rw [if_neg e2] at g2 ⊢
          by_cases e3 : c < a
          · rw [if_pos e3] at g2; omega
          · rw [if_neg e3] at g2 ⊢
            exact cmpL_trans l m k (by simpa using h) (by simpa using h') g1 g2

theorem comb_sorted (m : Nat) : ∀ (k i : Nat), (comb k (List.range' i m)).Pairwise (fun a b => cmpL a b < 0) := by
  induction m with
  | zero => intro k i; cases k <;> simp [comb]
  | succ m ih =>
    intro k i
    cases k with
    | zero => simp [comb]
    | succ k =>
      rw [List.range'_succ, comb, List.pairwise_append]
      refine ⟨?_, ih (k + 1) (i + 1), fun a ha b hb => ?_⟩
      · rw [List.pairwise_map]
        refine (ih k (i + 1)).imp fun h => ?_
        simp only [cmpL]
        rw [if_neg (by omega), if_neg (by omega)]
        exact h
      · obtain ⟨t, _, rfl⟩ := List.mem_map.1 ha
        obtain ⟨h1, h2, h3⟩ := comb_rise m (k + 1) (i + 1) b hb
        cases b with
        | nil => simp at h3
        | cons c b =>
          have := h2 c List.mem_cons_self
          simp only [cmpL]
          rw [if_pos (by omega)]
          decide

/-- the places whose bit is set -/
def bitsL (n s : Nat) : List Nat := (List.range n).filter fun i => s.testBit i

theorem bitsL_succ (n s : Nat) : bitsL (n + 1) s = bitsL n s ++ (if s.testBit n = true then [n] else []) := by
  unfold bitsL
  rw [List.range_succ, List.filter_append]
  cases h : s.testBit n <;> simp [h]

theorem bitsL_len (n s : Nat) : (bitsL n s).length ≤ n := by
  unfold bitsL
  refine Nat.le_trans (List.length_filter_le _ _) ?_
  simp

theorem bitsL_rise (n s : Nat) : Rise n (bitsL n s) :=
  ⟨List.Pairwise.filter _ List.pairwise_lt_range, fun x hx => List.mem_range.1 (List.mem_filter.1 hx).1⟩

theorem bitsL_inj {n s t : Nat} (hs : s < 2 ^ n) (ht : t < 2 ^ n) (h : bitsL n s = bitsL n t) : s = t := by
  refine Nat.eq_of_testBit_eq fun i => ?_
  by_cases hi : i < n
  · have h1 : i ∈ bitsL n s ↔ i ∈ bitsL n t := by rw [h]
    unfold bitsL at h1
    rw [List.mem_filter, List.mem_filter] at h1
    have h2 := List.mem_range.2 hi
    rw [Bool.eq_iff_iff]
    exact ⟨fun g => (h1.1 ⟨h2, g⟩).2, fun g => (h1.2 ⟨h2, g⟩).2⟩
  · rw [Nat.testBit_lt_two_pow (Nat.lt_of_lt_of_le hs (Nat.pow_le_pow_right (by decide) (by omega))), Nat.testBit_lt_two_pow (Nat.lt_of_lt_of_le ht (Nat.pow_le_pow_right (by decide) (by omega)))]

theorem bits_make (p : Nat → Bool) : ∀ n, ∃ s, s < 2 ^ n ∧ ∀ i, i < n → s.testBit i = p i := by
  intro n
  induction n with
  | zero => exact ⟨0, by decide, fun i hi => by omega⟩
  | succ n ih =>
    obtain ⟨s, hs, hb⟩ := ih
    cases hp : p n with
    | false =>
      refine ⟨s, by rw [Nat.pow_succ]; omega, fun i hi => ?_⟩
      by_cases e : i = n
      · subst e; rw [hp]; exact Nat.testBit_lt_two_pow hs
      · exact hb i (by omega)
    | true =>
      refine ⟨2 ^ n + s, by rw [Nat.pow_succ]; omega, fun i hi => ?_⟩
      by_cases e : i = n
      · subst e
        rw [Nat.testBit_two_pow_add_eq, Nat.testBit_lt_two_pow hs, hp]
        rfl
      · rw [Nat.testBit_two_pow_add_gt (by omega)]
        exact hb i (by omega)

/-- the choices of d places among the first sets -/
def setsL (d n k : Nat) : List (List Nat) := ((List.range k).map (bitsL n)).filter fun c => c.length == d

theorem setsL_succ (d n k : Nat) : setsL d n (k + 1) = setsL d n k ++ (if (bitsL n k).length = d then [bitsL n k] else []) := by
  unfold setsL
  rw [List.range_succ, List.map_append, List.filter_append]
  by_cases h : (bitsL n k).length = d <;> simp [h]

theorem setsL_good {d n k : Nat} {c : List Nat} (h : c ∈ setsL d n k) : Rise n c ∧ c.length = d := by
  unfold setsL at h
  obtain ⟨h1, h2⟩ := List.mem_filter.1 h
  obtain ⟨s, _, rfl⟩ := List.mem_map.1 h1
  exact ⟨bitsL_rise n s, by simpa using h2⟩

theorem setsL_perm (d n : Nat) : (setsL d n (2 ^ n)).Perm (comb d (List.range n)) := by
  have h1 : (setsL d n (2 ^ n)).Nodup := by
    unfold setsL
    rw [List.nodup_iff_pairwise_ne]
    refine List.Pairwise.filter _ ?_
    rw [List.pairwise_map]
    refine List.Pairwise.imp_of_mem ?_ List.pairwise_lt_range
    intro a b ha hb hlt e
    have := bitsL_inj (List.mem_range.1 ha) (List.mem_range.1 hb) e
    omega
  have h2 : (comb d (List.range n)).Nodup := by
    rw [List.range_eq_range', List.nodup_iff_pairwise_ne]
    refine (comb_sorted n d 0).imp fun h e => ?_
    rw [e, cmpL_self] at h
    omega
  refine (List.perm_ext_iff_of_nodup h1 h2).2 fun c => ⟨fun h => ?_, fun h => ?_⟩
  · obtain ⟨g1, g2⟩ := setsL_good h
    exact good_comb g1 g2
  · obtain ⟨g1, g2⟩ := comb_good h
    obtain ⟨s, hs, hb⟩ := bits_make (fun i => decide (i ∈ c)) n
    unfold setsL
    refine List.mem_filter.2 ⟨List.mem_map.2 ⟨s, List.mem_range.2 hs, ?_⟩, by simpa using g2⟩
    have hp : (bitsL n s).Perm c := by
      refine (List.perm_ext_iff_of_nodup ((bitsL_rise n s).1.imp (fun h => by omega)) (g1.1.imp (fun h => by omega))).2 fun x => ?_
      unfold bitsL
      rw [List.mem_filter, List.mem_range]
      constructor
      · rintro ⟨h1, h2⟩
        rw [hb x h1] at h2
        exact of_decide_eq_true h2
      · intro hx
        have := g1.2 x hx
        exact ⟨this, by rw [hb x this]; exact decide_eq_true hx⟩
    exact hp.eq_of_pairwise (le := (· < ·)) (fun a b _ _ h1 h2 => by omega) (bitsL_rise n s).1 g1.1

/-- sorted, they are the choices in their order -/
theorem sorted_comb {d n : Nat} {l : List (List Nat)} (hp : l.Perm (setsL d n (2 ^ n))) (hs : l.Pairwise (fun a b => cmpL a b ≤ 0)) : l = comb d (List.range n) := by
  have hp2 := hp.trans (setsL_perm d n)
  have hlen : ∀ c, c ∈ comb d (List.range n) → c.length = d := fun c hc => (comb_good hc).2
  refine hp2.eq_of_pairwise (le := fun a b => cmpL a b ≤ 0) (fun a b ha hb h1 h2 => ?_) hs ?_
  · have la := hlen a (hp2.mem_iff.1 ha)
    have lb' := hlen b hb
    have h3 := cmpL_swap a b (by omega)
    exact cmpL_zero a b (by omega) (by omega)
  · rw [List.range_eq_range']
    exact (comb_sorted n d 0).imp fun h => by omega

end Go.Proofs.Ytnmionnbndfbkac
