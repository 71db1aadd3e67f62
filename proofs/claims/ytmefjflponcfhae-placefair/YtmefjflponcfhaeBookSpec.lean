/- Chapter 5 in plain words: books of versions, checked; what is behind a version. -/
import Derived.Test.YtmefjflponcfhaePlanCode
namespace Go.Proofs.Ytmefjflponcfhae
open Go.RowKit
set_option linter.unusedVariables false

/-- the versions of a book: how many parents, which, and the plan -/
structure Bk where
  PL : Nat → Nat
  PX : Nat → Nat → Int
  nd : Nat → Int
  of : Nat → Int
  sz : Nat → Int

/-- the slice value v, of n versions, lies below block B of the world w -/
def VeSl (w : World) (B : Nat) (v : Value) (n : Nat) (PV : Nat → Value) (b : Bk) : Prop :=
  ∃ (ad : Option Addr) (cap : Nat), v = .slice ad n cap ∧ (n ≤ cap ∧ n * 48 ≤ 140737488351232) ∧ (n = 0 ∨ ∃ bl off, ad = some ⟨bl, off, none⟩ ∧ bl < B ∧ ∀ j, j < n →
    w.cell? ⟨bl, off + j * 4, none⟩ = some (PV j) ∧ w.cell? ⟨bl, off + j * 4 + 1, none⟩ = some (.int .i64 (b.nd j)) ∧ w.cell? ⟨bl, off + j * 4 + 2, none⟩ = some (.int .i64 (b.of j)) ∧ w.cell? ⟨bl, off + j * 4 + 3, none⟩ = some (.int .i64 (b.sz j)) ∧ IntSl w B (PV j) (b.PL j) (b.PX j))

theorem VeSl.below {w w' : World} {B : Nat} {v : Value} {n : Nat} {PV : Nat → Value} {b : Bk} (h : VeSl w B v n PV b) (hb : Below B w w') : VeSl w' B v n PV b := by
  obtain ⟨ad, cap, h1, h0, h2⟩ := h
  refine ⟨ad, cap, h1, h0, ?_⟩
  rcases h2 with h2 | ⟨bl, off, h3, h4, h5⟩
  · exact Or.inl h2
  · refine Or.inr ⟨bl, off, h3, h4, fun j hj => ?_⟩
    obtain ⟨g1, g2, g3, g4, g5⟩ := h5 j hj
    exact ⟨by rw [hb.cell h4]; exact g1, by rw [hb.cell h4]; exact g2, by rw [hb.cell h4]; exact g3, by rw [hb.cell h4]; exact g4, g5.below hb⟩

theorem VeSl.mono {w : World} {B B' : Nat} {v : Value} {n : Nat} {PV : Nat → Value} {b : Bk} (h : VeSl w B v n PV b) (hb : B ≤ B') : VeSl w B' v n PV b := by
  obtain ⟨ad, cap, h1, h0, h2⟩ := h
  refine ⟨ad, cap, h1, h0, ?_⟩
  rcases h2 with h2 | ⟨bl, off, h3, h4, h5⟩
  · exact Or.inl h2
  · refine Or.inr ⟨bl, off, h3, by omega, fun j hj => ?_⟩
    obtain ⟨g1, g2, g3, g4, g5⟩ := h5 j hj
    exact ⟨g1, g2, g3, g4, g5.mono hb⟩

theorem VeSl.up {w w' : World} {v : Value} {n : Nat} {PV : Nat → Value} {b : Bk} (h : VeSl w w.heap.size v n PV b) (hb : Below w.heap.size w w') : VeSl w' w'.heap.size v n PV b := (h.below hb).mono hb.size

/-- a version, as a value -/
def verV (pv : Value) (nd of sz : Int) : Value := .agg #[pv, .int .i64 nd, .int .i64 of, .int .i64 sz]
/-- a book, as a value -/
def bookV (v : Value) : Value := .agg #[v]

/-- parents of version k, one by one, from number i on, behind the one last: the first error -/
def parE (k : Int) (X : Nat → Int) : Nat → Nat → Int → Int
  | 0, _, _ => 0
  | f + 1, i, last => if X i < 0 ∨ k ≤ X i then 4 else if X i ≤ last then 5 else parE k X f (i + 1) (X i)

/-- a version's error -/
def verE (b : Bk) (k : Nat) : Int := if parE k (b.PX k) (b.PL k) 0 (-1) = 0 then chkP (b.nd k) (b.of k) (b.sz k) else parE k (b.PX k) (b.PL k) 0 (-1)

/-- versions from number k on, f of them: the first error -/
def scanV (b : Bk) : Nat → Nat → Int
  | 0, _ => 0
  | f + 1, k => if verE b k = 0 then scanV b f (k + 1) else verE b k

/-- a book's error -/
def bookE (n : Nat) (b : Bk) : Int := if n ≤ 12 then scanV b n 0 else 1

end Go.Proofs.Ytmefjflponcfhae
