/- Kept ones cloned; sorted by their versions. -/
import Derived.Test.YtokebjclbpgljadPeerOwn
namespace Go.Proofs.Ytokebjclbpgljad
open Go.RowKit
set_option linter.unusedVariables false

theorem flatI_one {UV : Nat → Value} {t : Kt} {l : List Nat} (h : ∀ i, i ∈ l → (UV i).oneCell' = true) : ∀ u ∈ flatI UV t l, u.oneCell' = true := by
  intro u hu
  unfold flatI at hu
  obtain ⟨i, hi, hu⟩ := List.mem_flatMap.1 hu
  simp only [List.mem_cons, List.not_mem_nil, or_false] at hu
  rcases hu with rfl | rfl | rfl
  · rfl
  · rfl
  · exact h i hi

/-- slices.Clone of a list of kept ones -/
theorem cloneT {w : World} {v : Value} {m : Nat} {UV : Nat → Value} {t : Kt} (h : KeSl w w.heap.size v m UV t) (hn : m ≤ 1000) :
    Calls Try.prog 61 #[v] w fun e w' => ∃ v', e = .returned v' ∧ OwnT w w' v' UV t (List.range m) := by
  obtain ⟨ad, cap, rfl, ⟨hc, hr⟩, hx⟩ := h
  have q34 : ∀ (w : World) (a : Option Addr) (n c : Nat), (binOp .eql 52 (.slice a n c) (.slice none 0 0)).run Try.prog w = .ok (.bool a.isNone) w := fun w a n c => Lib.run_eql_slice_nil w _ _ a n c 0 0 Try.underlying52
  cases ad with
  | none =>
    have h0 : m = 0 := by
      rcases hx with h0 | ⟨bl, off, e, _⟩
      · exact h0
      · cases e
    subst h0
    clear hx
    go_enter Try.func61, Try.ntmps61
    go_wp2
    go_ret
    exact ⟨_, rfl, OwnT.nil _ _ _⟩
  | some a =>
    have hrg : ∀ j, j < m → (List.range m).getD j 0 = j := fun j hj => by simp [List.getD_eq_getElem?_getD, hj]
    have hnews : ∀ j u, (flatI UV t (List.range m))[j]? = some u → w.cell? (Addr.add a j) = some u := by
      intro j u hu
      have hj : j < m * 3 := by
        have := (List.getElem?_eq_some_iff.1 hu).1
        rw [flatI_len] at this
        simpa using this
      rcases hx with h0 | ⟨bl, off, e, hbl, hx⟩
      · omega
      injection e with e
      subst e
      obtain ⟨g1, g2, g3, _⟩ := hx (j / 3) (by omega)
      obtain ⟨q1, q2, q3⟩ := flatI_get UV t (List.range m) (j / 3) (by simp; omega)
      rw [hrg _ (by omega)] at q1 q2 q3
      rw [Addr.add_lit]
      rcases (show j = j / 3 * 3 ∨ j = j / 3 * 3 + 1 ∨ j = j / 3 * 3 + 2 by omega) with e | e | e
      · rw [e] at hu ⊢
        rw [q1] at hu
        rw [g1, ← hu]
      · rw [e] at hu ⊢
        rw [q2] at hu
        rw [← Nat.add_assoc, g2, ← hu]
      · rw [e] at hu ⊢
        rw [q3] at hu
        rw [← Nat.add_assoc, g3, ← hu]
    have h1 : ∀ u ∈ flatI UV t (List.range m), u.oneCell' = true := flatI_one fun i hi => by
      rcases hx with h0 | ⟨bl, off, e, hbl, hx⟩
      · have := List.mem_range.1 hi; omega
      · obtain ⟨ap, cp, e2, _⟩ := (hx i (List.mem_range.1 hi)).2.2.2
        rw [e2]; rfl
    have HNw := hid hnews
    have H1 := hid h1
    obtain ⟨ii, hi, hz0, hz1, hz2⟩ := info_parts Try.infoKept
    have HLn : Hid ((flatI UV t (List.range m)).length = m * 3) := by show _ = _; rw [flatI_len]; simp
    obtain ⟨F, hF⟩ : ∃ F, flatI UV t (List.range m) = F := ⟨_, rfl⟩
    rw [hF] at HNw H1 HLn
    have HF := hid hF
    clear hx hnews h1 hrg hF
    go_enter Try.func61, Try.ntmps61
    go_wp2_with (at_builtin; go_must (refine wpList_append_own _ rfl _ _ 52 rfl w.heap.size 58 ii (.agg #[.int .i64 0, .int .i64 0, .slice none 0 0]) 3 40 Try.underlying52 hi hz0 hz1 hz2 rfl (by decide) _ _ _ rfl (World.ownsRow_made w #[] 0 (Nat.le_refl _) (Nat.zero_le _) (by simp)) a m cap F rfl HLn.out (fun j u hu => Lib.cell?_alloc_some _ (HNw.out j u hu)) H1.out (by unfold maxLen; omega) (by omega) (by simp) ?_; intro v1 w2 ho hg _; have HO := hid ho; have HG := hid hg; clear ho hg))
    go_ret
    refine ⟨_, rfl, ?_, ?_⟩
    · have h := HO.out
      rw [Nat.zero_add, List.nil_append, ← HF.out] at h
      simpa using h
    · exact ((Below.refl _ _).alloc (Nat.le_refl _) _).grown HG.out (by simp) (fun k hk => by cases hk; exact Nat.le_refl _)

/-- which of two is ahead -/
def cmpK (a c : Int) : Int := if a < c then -1 else 1

theorem cmpKept_any (v1 v2 N1 N2 : Int) (pv qv : Value) (w : World) (h1 : ∃ a n c, pv = .slice a n c) (h2 : ∃ a n c, qv = .slice a n c) :
    Calls Try.prog 63 #[keptV v1 N1 pv, keptV v2 N2 qv] w fun e w' => e = .returned (.int .i64 (cmpK v1 v2)) ∧ w' = (w.alloc (.cells #[.int .i64 v1, .int .i64 N1, pv] 58)).alloc (.cells #[.int .i64 v2, .int .i64 N2, qv] 58) := by
  obtain ⟨a1, n1, c1, rfl⟩ := h1
  obtain ⟨a2, n2, c2, rfl⟩ := h2
  unfold keptV cmpK
  by_cases h : v1 < v2
  · rw [if_pos h]
    go_enter Try.func63, Try.ntmps63
    go_wp2
    go_ret
    exact ⟨rfl, rfl⟩
  · rw [if_neg h]
    go_enter Try.func63, Try.ntmps63
    go_wp2
    go_ret
    exact ⟨rfl, rfl⟩

end Go.Proofs.Ytokebjclbpgljad
