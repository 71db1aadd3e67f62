/- Several texts of one proof, in their order. -/
import Derived.Test.YtdhefajaekackaaKnSum3

/- What chapter 5's reference answers: does a version come from another one; what is behind a version; which are heads? -/
namespace Go.Proofs.Ytdhefajaekackaa

open Go.RowKit
set_option linter.unusedVariables false

/-- does it hold of one of f, from number i on? -/
def anyB (p : Nat → Bool) : Nat → Nat → Bool
  | 0, _ => false
  | f + 1, i => p i || anyB p f (i + 1)

theorem anyB_iff (p : Nat → Bool) : ∀ f i, anyB p f i = true ↔ ∃ j, i ≤ j ∧ j < i + f ∧ p j = true := by
  intro f
  induction f with
  | zero => intro i; simp only [anyB]; exact ⟨fun h => (by cases h), fun ⟨j, h1, h2, _⟩ => (by omega)⟩
  | succ f ih =>
    intro i
    simp only [anyB, Bool.or_eq_true, ih]
    constructor
    · rintro (h | ⟨j, h1, h2, h3⟩)
      · exact ⟨i, Nat.le_refl _, by omega, h⟩
      · exact ⟨j, by omega, by omega, h3⟩
    · rintro ⟨j, h1, h2, h3⟩
      by_cases e : j = i
      · subst e; exact Or.inl h3
      · exact Or.inr ⟨j, by omega, by omega, h3⟩

/-- does version k come from another one? (f: more than k) -/
def frm (b : Bk) : Nat → Nat → Nat → Bool
  | 0, _, _ => false
  | f + 1, k, old => decide (k = old) || anyB (fun i => frm b f (b.PX k i).toNat old) (b.PL k) 0

/-- parents are elder versions -/
def Elder (n : Nat) (b : Bk) : Prop := ∀ k, k < n → ∀ i, i < b.PL k → 0 ≤ b.PX k i ∧ b.PX k i < (k : Int)

theorem parE_ok (k : Int) (X : Nat → Int) : ∀ f i last, parE k X f i last = 0 → (∀ j, i ≤ j → j < i + f → 0 ≤ X j ∧ X j < k ∧ last < X j) ∧ ∀ j, i ≤ j → j + 1 < i + f → X j < X (j + 1) := by
  intro f
  induction f with
  | zero => intro i last _; exact ⟨fun j h1 h2 => by omega, fun j h1 h2 => by omega⟩
  | succ f ih =>
    intro i last h
    simp only [parE] at h
    by_cases c1 : X i < 0 ∨ k ≤ X i
    · rw [if_pos c1] at h; omega
    · rw [if_neg c1] at h
      by_cases c2 : X i ≤ last
      · rw [if_pos c2] at h; omega
      · rw [if_neg c2] at h
        obtain ⟨h1, h2⟩ := ih (i + 1) (X i) h
        have c3 : ¬ X i < 0 := fun hh => c1 (Or.inl hh)
        have c4 : ¬ k ≤ X i := fun hh => c1 (Or.inr hh)
        refine ⟨fun j g1 g2 => ?_, fun j g1 g2 => ?_⟩
        · by_cases e : j = i
          · subst e; omega
          · have := h1 j (by omega) (by omega); omega
        · by_cases e : j = i
          · subst e; exact (h1 (j + 1) (by omega) (by omega)).2.2
          · exact h2 j (by omega) (by omega)

theorem scanV_ok (b : Bk) : ∀ f k, scanV b f k = 0 → ∀ j, k ≤ j → j < k + f → verE b j = 0 := by
  intro f
  induction f with
  | zero => intro k _ j h1 h2; omega
  | succ f ih =>
    intro k h j h1 h2
    simp only [scanV] at h
    by_cases c : verE b k = 0
    · rw [if_pos c] at h
      by_cases e : j = k
      · subst e; exact c
      · exact ih (k + 1) h j (by omega) (by omega)
    · rw [if_neg c] at h; exact absurd h c

/-- a right book -/
structure Right (n : Nat) (b : Bk) : Prop where
  le : n ≤ 12
  elder : Elder n b
  rise : ∀ k, k < n → ∀ i, i + 1 < b.PL k → b.PX k i < b.PX k (i + 1)
  plan : ∀ k, k < n → chkP (b.nd k) (b.of k) (b.sz k) = 0

theorem right_of {n : Nat} {b : Bk} (h : bookE n b = 0) : Right n b := by
  unfold bookE at h
  by_cases hn : n ≤ 12
  · rw [if_pos hn] at h
    have hall := scanV_ok b n 0 h
    have hp : ∀ k, k < n → parE k (b.PX k) (b.PL k) 0 (-1) = 0 ∧ chkP (b.nd k) (b.of k) (b.sz k) = 0 := fun k hk => by
      have h1 := hall k (Nat.zero_le _) (by omega)
      unfold verE at h1
      by_cases c : parE k (b.PX k) (b.PL k) 0 (-1) = 0
      · rw [if_pos c] at h1; exact ⟨c, h1⟩
      · rw [if_neg c] at h1; exact absurd h1 c
    refine ⟨hn, fun k hk i hi => ?_, fun k hk i hi => (parE_ok _ _ _ _ _ (hp k hk).1).2 i (Nat.zero_le _) (by omega), fun k hk => (hp k hk).2⟩
    have := (parE_ok _ _ _ _ _ (hp k hk).1).1 i (Nat.zero_le _) (by omega)
    omega
  · rw [if_neg hn] at h; omega

set_option maxHeartbeats 1000000 in
theorem indexFunc_from (bx bo : Nat) (v : Value) (m : Nat) (X : Nat → Int) (p : Nat → Bool) (w : World) (h : IntSl w w.heap.size v m X)
    (hp : ∀ i, i < m → ∀ w', Below w.heap.size w w' → Calls Try.prog 74 #[.int .i64 (X i), .pointer (some ⟨bx, 0, none⟩), .pointer (some ⟨bo, 0, none⟩)] w' fun e w'' => e = .returned (.bool (p i)) ∧ Below w'.heap.size w' w'') :
    Calls Try.prog 69 #[v, .func (.func 74) #[] #[.pointer (some ⟨bx, 0, none⟩), .pointer (some ⟨bo, 0, none⟩)]] w fun e w' => ∃ r : Int, e = .returned (.int .i64 r) ∧ decide (0 ≤ r) = anyB p m 0 ∧ Below w.heap.size w w' := by
  obtain ⟨ad, cap, rfl, ⟨hc, hr⟩, hx⟩ := h
  obtain ⟨ans, hans⟩ : ∃ ans, anyB p m 0 = ans := ⟨_, rfl⟩
  rw [hans]
  have HA := hid hans
  have HX := hid hx
  have HP := hid hp
  clear hans hx hp
  go_enter Try.func69, Try.ntmps69
  go_wp2
  go_loopw [8] (fun iv wr => ∃ i : Nat, i ≤ m ∧ iv = .int .i64 i ∧ Hid (Below w.heap.size w wr) ∧ Hid (anyB p (m - i) i = ans)) (fun iv _ => m - (intOf iv).toNat)
  case atStart => exact ⟨0, Nat.zero_le _, rfl, Below.refl _ _, HA⟩
  case round =>
    obtain ⟨i, hi, rfl, HB, HS⟩ := hrel
    by_cases hlt : i < m
    · have hii : (i : Int) < (m : Int) := by omega
      rcases HX.out with h0 | ⟨b1, o1, rfl, hb1, hx⟩
      · omega
      have g0 : wr.cell? ⟨b1, o1 + i, none⟩ = some (.int .i64 (X i)) := by rw [HB.out.cell hb1]; exact hx i hlt
      have hstep := HS.out
      rw [show m - i = (m - (i + 1)) + 1 by omega] at hstep
      simp only [anyB] at hstep
      have HC := hid (HP.out i hlt wr HB.out)
      clear hx
      cases hpi : p i with
      | true =>
        rw [hpi, Bool.true_or] at hstep
        rw [hpi] at HC
        have HSt := hid hstep
        clear hstep hpi
        go_wp2_with fail
        refine Calls.mono HC.out ?_
        rintro e w2 ⟨rfl, hb2⟩
        have HB2 := hid (HB.out.trans (hb2.mono HB.out.size))
        clear hb2
        go_wp2
        go_ret
        exact ⟨_, rfl, by rw [← HSt.out]; exact decide_eq_true (by omega), HB2.out⟩
      | false =>
        rw [hpi, Bool.false_or] at hstep
        rw [hpi] at HC
        have HSt := hid hstep
        clear hstep hpi
        go_wp2_with fail
        refine Calls.mono HC.out ?_
        rintro e w2 ⟨rfl, hb2⟩
        have HB2 := hid (HB.out.trans (hb2.mono HB.out.size))
        clear hb2
        go_wp2
        go_roundw
        case rel => exact ⟨i + 1, by omega, by go_num, HB2, HSt⟩
        case measure => simp only [intOf]; omega
    · have hie : m = i := by omega
      subst hie
      have hst := HS.out
      rw [Nat.sub_self] at hst
      have HFin : Hid (false = ans) := hst
      clear hst
      go_wp2
      go_ret
      exact ⟨_, rfl, by rw [← HFin.out]; decide, HB.out⟩

theorem containsFunc_from (bx bo : Nat) (v : Value) (m : Nat) (X : Nat → Int) (p : Nat → Bool) (w : World) (h : IntSl w w.heap.size v m X)
    (hp : ∀ i, i < m → ∀ w', Below w.heap.size w w' → Calls Try.prog 74 #[.int .i64 (X i), .pointer (some ⟨bx, 0, none⟩), .pointer (some ⟨bo, 0, none⟩)] w' fun e w'' => e = .returned (.bool (p i)) ∧ Below w'.heap.size w' w'') :
    Calls Try.prog 26 #[v, .func (.func 74) #[] #[.pointer (some ⟨bx, 0, none⟩), .pointer (some ⟨bo, 0, none⟩)]] w fun e w' => e = .returned (.bool (anyB p m 0)) ∧ Below w.heap.size w w' := by
  have HI := hid (indexFunc_from bx bo v m X p w h hp)
  obtain ⟨ad, cap, rfl, _, _⟩ := h
  clear hp
  go_enter Try.func26, Try.ntmps26
  go_wp2_with fail
  refine HI.out.mono ?_
  rintro e w2 ⟨r, rfl, hd, hb⟩
  have HB := hid hb
  have HD := hid hd
  clear hb hd
  go_wp2
  go_ret
  exact ⟨by rw [← HD.out]; simp, HB.out⟩

set_option maxHeartbeats 2000000 in
theorem from_any (n : Nat) (v : Value) (PV : Nat → Value) (b : Bk) (hE : Elder n b) (hn : n ≤ 12) (f : Nat) : ∀ (k old : Nat) (w : World), k < f → k < n → old < 1000 → VeSl w w.heap.size v n PV b →
    Calls Try.prog 33 #[bookV v, .int .i64 (k : Int), .int .i64 (old : Int)] w fun e w' => e = .returned (.bool (frm b f k old)) ∧ Below w.heap.size w w' := by
  induction f with
  | zero => intro k old w hk; omega
  | succ f ih =>
    intro k old w hkf hkn ho h
    have hb := ((Below.refl w.heap.size w).alloc (Nat.le_refl _) (.cells #[v] 24)).alloc (by simp) (.cells #[.int .i64 (old : Int)] 3)
    have HB := hid hb
    have HV := hid h
    have HIH := hid ih
    have HEl := hid hE
    obtain ⟨ad, cap, rfl, ⟨hcap, _⟩, hx⟩ := h
    rcases hx with h0 | ⟨bl, off, rfl, hbl, hx⟩
    · omega
    obtain ⟨x0, _, _, _, x4⟩ := hx k hkn
    unfold bookV
    by_cases he : k = old
    · subst he
      have hf : frm b (f + 1) k k = true := by simp [frm]
      have HF := hid hf
      clear hx x0 x4 hf ih hE hb
      go_enter Try.func33, Try.ntmps33
      go_wp2
      go_ret
      exact ⟨by rw [HF.out]; rfl, HB.out⟩
    · have hei : ((k : Int) == (old : Int)) = false := by rw [beq_eq_false_iff_ne]; omega
      have hf : frm b (f + 1) k old = anyB (fun i => frm b f (b.PX k i).toNat old) (b.PL k) 0 := by simp [frm, he]
      rw [hf]
      obtain ⟨W, hW⟩ : ∃ W, (w.alloc (.cells #[.slice (some ⟨bl, off, none⟩) n cap] 24)).alloc (.cells #[.int .i64 (old : Int)] 3) = W := ⟨_, rfl⟩
      rw [hW] at hb
      have b0 : W.cell? ⟨w.heap.size, 0, none⟩ = some (.slice (some ⟨bl, off, none⟩) n cap) := by rw [← hW]; exact cell_at (by rw [Below.heap_alloc _ _ _ (by simp)]; exact heap_alloc_new _ _) rfl
      have b1 : W.cell? ⟨w.heap.size + 1, 0, none⟩ = some (.int .i64 (old : Int)) := by
        rw [← hW]
        refine cell_at (cs := #[.int .i64 (old : Int)]) (T := 3) ?_ rfl
        have := heap_alloc_new (w.alloc (.cells #[.slice (some ⟨bl, off, none⟩) n cap] 24)) (.cells #[.int .i64 (old : Int)] 3)
        simpa using this
      have hki : (k : Int) < (n : Int) := by omega
      have HC := hid (containsFunc_from w.heap.size (w.heap.size + 1) (PV k) (b.PL k) (b.PX k) (fun i => frm b f (b.PX k i).toNat old) W (x4.up hb) (fun i hi w' hb' => by
        obtain ⟨e1, e2⟩ := HEl.out k hkn i hi
        have c0 : w'.cell? ⟨w.heap.size, 0, none⟩ = some (.slice (some ⟨bl, off, none⟩) n cap) := by rw [hb'.cell (cell_lt b0)]; exact b0
        have c1 : w'.cell? ⟨w.heap.size + 1, 0, none⟩ = some (.int .i64 (old : Int)) := by rw [hb'.cell (cell_lt b1)]; exact b1
        have HF2 := hid (HIH.out (b.PX k i).toNat old w' (by omega) (by omega) ho ((HV.out.up hb).up hb'))
        obtain ⟨q, hq⟩ : ∃ q : Nat, b.PX k i = q := ⟨(b.PX k i).toNat, by omega⟩
        rw [hq, Int.toNat_natCast] at HF2 ⊢
        clear hq e1 e2 x0 x4 hx hE ih b0 b1 hW
        unfold bookV at HF2
        go_enter Try.func74, Try.ntmps74
        go_wp2_with fail
        refine HF2.out.mono ?_
        rintro e w3 ⟨rfl, hb3⟩
        have HB3 := hid hb3
        clear hb3
        go_wp2
        go_ret
        exact ⟨rfl, HB3.out⟩))
      obtain ⟨ap, cp, hpe, _, _⟩ := x4
      rw [hpe] at x0 HC
      have g0 : W.cell? ⟨bl, off + k * 4, none⟩ = some (.slice ap (b.PL k) cp) := by rw [hb.cell hbl]; exact x0
      have HBW := hid hb
      clear x0 hx hpe hb ih hE hf he
      go_enter Try.func33, Try.ntmps33
      go_wp2_with fail
      refine HC.out.mono ?_
      rintro e w3 ⟨rfl, hb3⟩
      have HB3 := hid (HBW.out.trans (hb3.mono HBW.out.size))
      clear hb3
      go_wp2
      go_ret
      exact ⟨rfl, HB3.out⟩

end Go.Proofs.Ytdhefajaekackaa
