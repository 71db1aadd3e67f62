/- Slices of ints that are read: what they hold, by place; slices.Index and slices.Contains over them. -/
import Derived.Test.YtfcpmpcfbhkacaaRows
import Derived.WalkKit
import Derived.WalkSpells
import Derived.Handy
import Derived.BigQuiet
import Derived.Deep.QuietTactic
namespace Go.Proofs.Ytfcpmpcfbhkacaa
open Go.RowKit
set_option linter.unusedVariables false

/-- kept from the walk -/
theorem hid {p : Prop} (h : p) : Hid p := h

/-- the slice value v, of n ints X 0, X 1 .., lies below block B of the world w -/
def IntSl (w : World) (B : Nat) (v : Value) (n : Nat) (X : Nat → Int) : Prop :=
  ∃ (ad : Option Addr) (cap : Nat), v = .slice ad n cap ∧ (n ≤ cap ∧ n * 8 ≤ 140737488351232) ∧ (n = 0 ∨ ∃ b off, ad = some ⟨b, off, none⟩ ∧ b < B ∧ ∀ j, j < n → w.cell? ⟨b, off + j, none⟩ = some (.int .i64 (X j)))

theorem IntSl.below {w w' : World} {B : Nat} {v : Value} {n : Nat} {X : Nat → Int} (h : IntSl w B v n X) (hb : Below B w w') : IntSl w' B v n X := by
  obtain ⟨ad, cap, h1, h0, h2⟩ := h
  refine ⟨ad, cap, h1, h0, ?_⟩
  rcases h2 with h2 | ⟨b, off, h3, h4, h5⟩
  · exact Or.inl h2
  · exact Or.inr ⟨b, off, h3, h4, fun j hj => by rw [hb.cell h4]; exact h5 j hj⟩

theorem IntSl.mono {w : World} {B B' : Nat} {v : Value} {n : Nat} {X : Nat → Int} (h : IntSl w B v n X) (hb : B ≤ B') : IntSl w B' v n X := by
  obtain ⟨ad, cap, h1, h0, h2⟩ := h
  refine ⟨ad, cap, h1, h0, ?_⟩
  rcases h2 with h2 | ⟨b, off, h3, h4, h5⟩
  · exact Or.inl h2
  · exact Or.inr ⟨b, off, h3, by omega, h5⟩

/-- a row of ints that the call has laid, written out -/
theorem intSl_lit {w : World} {B b : Nat} {l : List Int} {cs : Array Value} {t : TypeId} (hh : w.heap[b]? = some (.cells cs t (0, 0))) (hcs : cs = (l.map (Value.int .i64)).toArray) (hB : b < B) (hl : l.length ≤ 1000) :
    IntSl w B (.slice (some ⟨b, 0, none⟩) l.length l.length) l.length (fun j => l.getD j 0) := by
  subst hcs
  refine ⟨_, _, rfl, ⟨Nat.le_refl _, by omega⟩, Or.inr ⟨b, 0, rfl, hB, fun j hj => ?_⟩⟩
  simp [World.cell?, hh, hj]

/-- the first place from k on, of m more, that holds v; -1: none -/
def fstAt (X : Nat → Int) (v : Int) : Nat → Nat → Int
  | 0, _ => -1
  | m + 1, k => if v = X k then (k : Int) else fstAt X v m (k + 1)

theorem fstAt_neg (X : Nat → Int) (v : Int) (m : Nat) : ∀ k, (0 ≤ fstAt X v m k ↔ ∃ j, k ≤ j ∧ j < k + m ∧ X j = v) := by
  induction m with
  | zero => intro k; simp only [fstAt]; constructor
            · intro h; omega
            · rintro ⟨j, h1, h2, _⟩; omega
  | succ m ih =>
    intro k
    simp only [fstAt]
    by_cases h : v = X k
    · rw [if_pos h]
      constructor
      · intro _; exact ⟨k, by omega, by omega, h.symm⟩
      · intro _; omega
    · rw [if_neg h, ih (k + 1)]
      constructor
      · rintro ⟨j, h1, h2, h3⟩; exact ⟨j, by omega, by omega, h3⟩
      · rintro ⟨j, h1, h2, h3⟩
        by_cases hj : j = k
        · subst hj; exact absurd h3.symm h
        · exact ⟨j, by omega, by omega, h3⟩

theorem index_any (b off n c : Nat) (X : Nat → Int) (v : Int) (w : World) (hbig : n * 8 ≤ 140737488351232)
    (hc : ∀ j, j < n → w.cell? ⟨b, off + j, none⟩ = some (.int .i64 (X j))) :
    Calls Try.prog 56 #[.slice (some ⟨b, off, none⟩) n c, .int .i64 v] w fun e w' => e = .returned (.int .i64 (fstAt X v n 0)) ∧ w' = w := by
  have HC : Hid (∀ j, j < n → w.cell? ⟨b, off + j, none⟩ = some (.int .i64 (X j))) := hc
  clear hc
  go_enter Try.func56, Try.ntmps56
  go_wp2
  go_loop [8] (fun i => ∃ k : Nat, k ≤ n ∧ i = .int .i64 k ∧ fstAt X v (n - k) k = fstAt X v n 0) (fun i => n - (intOf i).toNat)
  case atStart => exact ⟨0, Nat.zero_le _, rfl, rfl⟩
  case round =>
    obtain ⟨k, hk, rfl, hf⟩ := hrel
    have HF : Hid (fstAt X v (n - k) k = fstAt X v n 0) := hf
    clear hf
    by_cases hlt : k < n
    · have hcell := HC.out k hlt
      have hi : (k : Int) < (n : Int) := by omega
      obtain ⟨u, hu⟩ : ∃ u, X k = u := ⟨_, rfl⟩
      rw [hu] at hcell
      have HU : Hid (X k = u) := hu
      clear hu
      by_cases he : v = u
      · have heq : (v == u) = true := by simp [he]
        have HE : Hid (v = u) := he
        clear he
        go_wp2
        go_ret
        refine ⟨?_, rfl⟩
        have h1 := HF.out
        rw [show n - k = (n - k - 1) + 1 by omega] at h1
        simp only [fstAt] at h1
        rw [if_pos (by rw [HU.out]; exact HE.out)] at h1
        rw [← h1]
        rfl
      · have heq : (v == u) = false := by simp [he]
        have HE : Hid (¬ v = u) := he
        clear he
        go_wp2
        have h1 := HF.out
        rw [show n - k = (n - (k + 1)) + 1 by omega] at h1
        simp only [fstAt] at h1
        rw [if_neg (by rw [HU.out]; exact HE.out)] at h1
        go_round
        case rel => exact ⟨k + 1, by omega, by go_num, h1⟩
        case measure => simp only [intOf]; omega
    · have he : k = n := by omega
      subst he
      go_wp2
      go_ret
      refine ⟨?_, rfl⟩
      have h1 := HF.out
      rw [Nat.sub_self] at h1
      rw [← h1]
      rfl

/-- does one of the first n hold v? -/
def hasB (X : Nat → Int) (n : Nat) (v : Int) : Bool := decide (0 ≤ fstAt X v n 0)

theorem hasB_iff (X : Nat → Int) (n : Nat) (v : Int) : hasB X n v = true ↔ ∃ j, j < n ∧ X j = v := by
  unfold hasB
  rw [decide_eq_true_iff, fstAt_neg]
  constructor
  · rintro ⟨j, _, h2, h3⟩; exact ⟨j, by omega, h3⟩
  · rintro ⟨j, h2, h3⟩; exact ⟨j, by omega, by omega, h3⟩

theorem contains_any (b off n c : Nat) (X : Nat → Int) (v : Int) (w : World) (hbig : n * 8 ≤ 140737488351232)
    (hc : ∀ j, j < n → w.cell? ⟨b, off + j, none⟩ = some (.int .i64 (X j))) :
    Calls Try.prog 34 #[.slice (some ⟨b, off, none⟩) n c, .int .i64 v] w fun e w' => e = .returned (.bool (hasB X n v)) ∧ w' = w := by
  have HC : Hid (∀ j, j < n → w.cell? ⟨b, off + j, none⟩ = some (.int .i64 (X j))) := hc
  clear hc
  unfold hasB
  go_enter Try.func34, Try.ntmps34
  go_wp2_with (go_at_call 56; go_must (refine (index_any _ _ _ _ X _ _ hbig HC.out).mono ?_; rintro e w' ⟨rfl, rfl⟩))
  go_ret
  exact ⟨rfl, rfl⟩

/-- nothing is found in nothing -/
theorem contains_none (ad : Option Addr) (c : Nat) (v : Int) (w : World) :
    Calls Try.prog 34 #[.slice ad 0 c, .int .i64 v] w fun e w' => e = .returned (.bool false) ∧ w' = w := by
  go_enter Try.func34, Try.ntmps34
  go_wp2_with go_in
  refine wp_loop_rounds 1 ?_
  rw [rounds_succ]
  go_wp2
  go_ret
  exact ⟨rfl, rfl⟩

end Go.Proofs.Ytfcpmpcfbhkacaa
