/- Several texts of one proof, in their order. -/
import Derived.Test.YtikchpffkhohlaaGreatRows
import Derived.WalkKit
import Derived.ProofKit
import Derived.OpenShut
import Derived.SizedLaws
import Derived.Below
import Derived.WalkSpells
import Derived.Handy
import Derived.BigQuiet
import Derived.Deep.QuietTactic

namespace Go.Proofs.YtikchpffkhohlaaGreat
open Go.ChangeShapes Go.WideShapes Go.ChangeAt Go.RowKit
set_option linter.unusedVariables false
theorem Tryz.own : ownKnob Tryz.prog.godebug = none := by kernel_rfl
theorem Tryz.laidOut : laidOutB Tryz.prog = true := by kernel_rfl
theorem Tryz.cellsInt : Tryz.prog.cellsOf 3 = 1 := by kernel_rfl
theorem Tryz.bytesInt : Tryz.prog.bytesOf 3 = 8 := by kernel_rfl
structure SlArg (W : World) (a : Option Addr) (len cap : Nat) (X : Nat → Int) : Prop where
 le : len ≤ cap
 reach : cap * 8 ≤ 140737488351232
 cells : len = 0 ∨ ∃ b off, a = some ⟨b, off, none⟩ ∧ b < W.heap.size ∧ ∀ j, j < len → W.cell? ⟨b, off + j, none⟩ = some (.int .i64 (X j))
 wf : ∀ j, j < len → -9223372036854775808 ≤ X j ∧ X j ≤ 9223372036854775807
theorem cell_lt {w : World} {a : Addr} {v : Value} (h : w.cell? a = some v) : a.block < w.heap.size := by
 rcases Nat.lt_or_ge a.block w.heap.size with h1 | h1
 ·exact h1
 ·rw [World.cell?] at h
  simp [Array.getElem?_eq_none h1] at h
theorem slArg_open {H : Type} {enc : TypeId × Value → H} {W : World} {T : TypeId} {a : Option Addr} {len cap : Nat} {d : DataW H} {p : List MemPlace}
  (ht : Tryz.prog.underlying T = some (.slice 3))
  (h : DataW.Trod enc Tryz.prog W 0 (fun _ => true) true T (.slice a len cap) d p)
  (hs : ∀ elems spare, d = .slice elems spare → (elems.length + spare.length) * Tryz.prog.bytesOf 3 ≤ reachBytes) : ∃ X, SlArg W a len cap X := by
 obtain ⟨fuel, hf⟩ := h
 rcases open_ints ht Tryz.underlying3 Tryz.cellsInt hf with ⟨hcs, _⟩ | ⟨x, l, c, zs, hcs, _, hl, hm, hz, hx, hcell, hwz⟩
 ·simp [Value.cells] at hcs
  obtain ⟨rfl, rfl, rfl⟩ := hcs
  exact ⟨fun _ => 0, Nat.le_refl _, by omega, Or.inl rfl, fun j hj => by omega⟩
 ·simp [Value.cells] at hcs
  obtain ⟨rfl, rfl, rfl⟩ := hcs
  simp only [if_true] at hz
  have hd : d = .slice (lits .i64 (zs.take len)) (lits .i64 (zs.drop len)) := congrArg Prod.fst hx
  have hr := hs _ _ hd
  rw [Tryz.bytesInt] at hr
  simp only [lits, List.length_map, List.length_take, List.length_drop, reachBytes] at hr
  refine ⟨fun j => zs.getD j 0, hl, by omega, ?_, ?_⟩
  ·by_cases h0 : len = 0
   ·exact Or.inl h0
   ·obtain ⟨b, off, rfl, hc⟩ := ints_at hcell (by omega)
    exact Or.inr ⟨b, off, rfl, cell_lt (hc 0 (by omega)), fun j hj => hc j (by omega)⟩
  ·intro j hj
   have h1 : zs.getD j 0 ∈ zs := by
    have hj' : j < zs.length := by omega
    rw [List.getD_eq_getElem?_getD, List.getElem?_eq_getElem hj']
    exact List.getElem_mem hj'
   have h2 := hwz _ h1
   have h3 : IntKind.i64.min = -9223372036854775808 := rfl
   have h4 : IntKind.i64.max = 9223372036854775807 := rfl
   simp only [Lit.wf, Bool.and_eq_true, decide_eq_true_eq] at h2
   omega
end Go.Proofs.YtikchpffkhohlaaGreat

namespace Go.Proofs.YtikchpffkhohlaaGreat
open Go.RowKit
set_option linter.unusedVariables false
theorem hid {p : Prop} (h : p) : Hid p := h
def IntSl (w : World) (B : Nat) (v : Value) (n : Nat) (X : Nat → Int) : Prop :=
 ∃ (ad : Option Addr) (cap : Nat), v = .slice ad n cap ∧ (n ≤ cap ∧ n * 8 ≤ 140737488351232) ∧ (n = 0 ∨ ∃ b off, ad = some ⟨b, off, none⟩ ∧ b < B ∧ ∀ j, j < n → w.cell? ⟨b, off + j, none⟩ = some (.int .i64 (X j)))
theorem IntSl.below {w w' : World} {B : Nat} {v : Value} {n : Nat} {X : Nat → Int} (h : IntSl w B v n X) (hb : Below B w w') : IntSl w' B v n X := by
 obtain ⟨ad, cap, h1, h0, h2⟩ := h
 refine ⟨ad, cap, h1, h0, ?_⟩
 rcases h2 with h2 | ⟨b, off, h3, h4, h5⟩
 ·exact Or.inl h2
 ·exact Or.inr ⟨b, off, h3, h4, fun j hj => by rw [hb.cell h4]; exact h5 j hj⟩
theorem IntSl.mono {w : World} {B B' : Nat} {v : Value} {n : Nat} {X : Nat → Int} (h : IntSl w B v n X) (hb : B ≤ B') : IntSl w B' v n X := by
 obtain ⟨ad, cap, h1, h0, h2⟩ := h
 refine ⟨ad, cap, h1, h0, ?_⟩
 rcases h2 with h2 | ⟨b, off, h3, h4, h5⟩
 ·exact Or.inl h2
 ·exact Or.inr ⟨b, off, h3, by omega, h5⟩
def fstAt (X : Nat → Int) (v : Int) : Nat → Nat → Int
 | 0, _ => -1
 | m + 1, k => if v = X k then (k : Int) else fstAt X v m (k + 1)
theorem fstAt_neg (X : Nat → Int) (v : Int) (m : Nat) : ∀ k, (0 ≤ fstAt X v m k ↔ ∃ j, k ≤ j ∧ j < k + m ∧ X j = v) := by
 induction m with
 | zero => intro k; simp only [fstAt]; constructor
           ·intro h; omega
           ·rintro ⟨j, h1, h2, _⟩; omega
 | succ m ih =>
  intro k
  simp only [fstAt]
  by_cases h : v = X k
  ·rw [if_pos h]
   constructor
   ·intro _; exact ⟨k, by omega, by omega, h.symm⟩
   ·intro _; omega
  ·rw [if_neg h, ih (k + 1)]
   constructor
   ·rintro ⟨j, h1, h2, h3⟩; exact ⟨j, by omega, by omega, h3⟩
   ·rintro ⟨j, h1, h2, h3⟩
    by_cases hj : j = k
    ·subst hj; exact absurd h3.symm h
    ·exact ⟨j, by omega, by omega, h3⟩
def hasB (X : Nat → Int) (n : Nat) (v : Int) : Bool := decide (0 ≤ fstAt X v n 0)
theorem hasB_iff (X : Nat → Int) (n : Nat) (v : Int) : hasB X n v = true ↔ ∃ j, j < n ∧ X j = v := by
 unfold hasB
 rw [decide_eq_true_iff, fstAt_neg]
 constructor
 ·rintro ⟨j, _, h2, h3⟩; exact ⟨j, by omega, h3⟩
 ·rintro ⟨j, h2, h3⟩; exact ⟨j, by omega, by omega, h3⟩
end Go.Proofs.YtikchpffkhohlaaGreat
