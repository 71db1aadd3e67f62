/- Slices of ints that are read: what they hold, by place; slices.Index and slices.Contains over them. -/
import Derived.Test.YtmefjflponcfhaeRows
import Derived.WalkKit
import Derived.WalkSpells
import Derived.Handy
import Derived.BigQuiet
import Derived.Deep.QuietTactic
namespace Go.Proofs.Ytmefjflponcfhae
open Go.RowKit
set_option linter.unusedVariables false

/-- kept from the walk -/
theorem hid {p : Prop} (h : p) : Hid p := h

/-- the slice value v, of n ints X 0, X 1 .., lies below block B of the world w -/
def IntSl (w : World) (B : Nat) (v : Value) (n : Nat) (X : Nat → Int) : Prop :=
  ∃ (ad : Option Addr) (cap : Nat), v = .slice ad n cap ∧ (n ≤ cap ∧ n * 8 ≤ 140737488351232) ∧ (n = 0 ∨ ∃ b off, ad = some ⟨b, off, none⟩ ∧ b < B ∧ ∀ j, j < n → w.cell? ⟨b, off + j, none⟩ = some (.int .i64 (X j)))

theorem IntSl.below {w w' : World} {B : Nat} {v : Value} {n : Nat} {X : Nat → Int} (h : IntSl w B v n X) (hb : Below B w w') : IntSl w' B v n X := by
  obtain ⟨ad, cap, h1, h0, h2⟩ := h
  refine ⟨ad, cap, h1, h0, ?_⟩
  rcases h2 with h2 | ⟨b, off, h3, h4, h5⟩
  · exact Or.inl h2
  · exact Or.inr ⟨b, off, h3, h4, fun j hj => by rw [hb.cell h4]; exact h5 j hj⟩

theorem IntSl.mono {w : World} {B B' : Nat} {v : Value} {n : Nat} {X : Nat → Int} (h : IntSl w B v n X) (hb : B ≤ B') : IntSl w B' v n X := by
  obtain ⟨ad, cap, h1, h0, h2⟩ := h
  refine ⟨ad, cap, h1, h0, ?_⟩
  rcases h2 with h2 | ⟨b, off, h3, h4, h5⟩
  · exact Or.inl h2
  · exact Or.inr ⟨b, off, h3, by omega, h5⟩

/-- a row of ints that the call has laid, written out -/
theorem intSl_lit {w : World} {B b : Nat} {l : List Int} {cs : Array Value} {t : TypeId} (hh : w.heap[b]? = some (.cells cs t (0, 0))) (hcs : cs = (l.map (Value.int .i64)).toArray) (hB : b < B) (hl : l.length ≤ 1000) :
    IntSl w B (.slice (some ⟨b, 0, none⟩) l.length l.length) l.length (fun j => l.getD j 0) := by
  subst hcs
  refine ⟨_, _, rfl, ⟨Nat.le_refl _, by omega⟩, Or.inr ⟨b, 0, rfl, hB, fun j hj => ?_⟩⟩
  simp [World.cell?, hh, hj]

/-- the first place from k on, of m more, that holds v; -1: none -/
def fstAt (X : Nat → Int) (v : Int) : Nat → Nat → Int
  | 0, _ => -1
  | m + 1, k => if v = X k then (k : Int) else fstAt X v m (k + 1)

theorem fstAt_neg (X : Nat → Int) (v : Int) (m : Nat) : ∀ k, (0 ≤ fstAt X v m k ↔ ∃ j, k ≤ j ∧ j < k + m ∧ X j = v) := by
  induction m with
  | zero => intro k; simp only [fstAt]; constructor
            · intro h; omega
            · rintro ⟨j, h1, h2, _⟩; omega
  | succ m ih =>
    intro k
    simp only [fstAt]
    by_cases h : v = X k
    · rw [if_pos h]
      constructor
      · intro _; exact ⟨k, by omega, by omega, h.symm⟩
      · intro _; omega
    · rw [if_neg h, ih (k + 1)]
      constructor
      · rintro ⟨j, h1, h2, h3⟩; exact ⟨j, by omega, by omega, h3⟩
      · rintro ⟨j, h1, h2, h3⟩
        by_cases hj : j = k
        · subst hj; exact absurd h3.symm h
        · exact ⟨j, by omega, by omega, h3⟩

/-- does one of the first n hold v? -/
def hasB (X : Nat → Int) (n : Nat) (v : Int) : Bool := decide (0 ≤ fstAt X v n 0)

theorem hasB_iff (X : Nat → Int) (n : Nat) (v : Int) : hasB X n v = true ↔ ∃ j, j < n ∧ X j = v := by
  unfold hasB
  rw [decide_eq_true_iff, fstAt_neg]
  constructor
  · rintro ⟨j, _, h2, h3⟩; exact ⟨j, by omega, h3⟩
  · rintro ⟨j, h2, h3⟩; exact ⟨j, by omega, by omega, h3⟩

end Go.Proofs.Ytmefjflponcfhae
