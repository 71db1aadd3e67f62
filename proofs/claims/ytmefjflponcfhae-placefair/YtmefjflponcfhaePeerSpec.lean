/- Chapter 7 in plain words: peers, what they keep, checked, held against each other, asked. -/
import Derived.Test.YtmefjflponcfhaeBookSpec
import Derived.Test.YtmefjflponcfhaeShareOne
namespace Go.Proofs.Ytmefjflponcfhae
open Go.RowKit
set_option linter.unusedVariables false

/-- what a peer keeps: of which version, which share, its numbers -/
structure Kt where
  V : Nat → Int
  N : Nat → Int
  L : Nat → Nat
  X : Nat → Nat → Int

/-- the slice value v, of n kept ones, lies below block B of the world w -/
def KeSl (w : World) (B : Nat) (v : Value) (n : Nat) (UV : Nat → Value) (t : Kt) : Prop :=
  ∃ (ad : Option Addr) (cap : Nat), v = .slice ad n cap ∧ (n ≤ cap ∧ n * 40 ≤ 140737488351232) ∧ (n = 0 ∨ ∃ bl off, ad = some ⟨bl, off, none⟩ ∧ bl < B ∧ ∀ j, j < n →
    w.cell? ⟨bl, off + j * 3, none⟩ = some (.int .i64 (t.V j)) ∧ w.cell? ⟨bl, off + j * 3 + 1, none⟩ = some (.int .i64 (t.N j)) ∧ w.cell? ⟨bl, off + j * 3 + 2, none⟩ = some (UV j) ∧ IntSl w B (UV j) (t.L j) (t.X j))

theorem KeSl.below {w w' : World} {B : Nat} {v : Value} {n : Nat} {UV : Nat → Value} {t : Kt} (h : KeSl w B v n UV t) (hb : Below B w w') : KeSl w' B v n UV t := by
  obtain ⟨ad, cap, h1, h0, h2⟩ := h
  refine ⟨ad, cap, h1, h0, ?_⟩
  rcases h2 with h2 | ⟨bl, off, h3, h4, h5⟩
  · exact Or.inl h2
  · refine Or.inr ⟨bl, off, h3, h4, fun j hj => ?_⟩
    obtain ⟨g1, g2, g3, g4⟩ := h5 j hj
    exact ⟨by rw [hb.cell h4]; exact g1, by rw [hb.cell h4]; exact g2, by rw [hb.cell h4]; exact g3, g4.below hb⟩

theorem KeSl.mono {w : World} {B B' : Nat} {v : Value} {n : Nat} {UV : Nat → Value} {t : Kt} (h : KeSl w B v n UV t) (hb : B ≤ B') : KeSl w B' v n UV t := by
  obtain ⟨ad, cap, h1, h0, h2⟩ := h
  refine ⟨ad, cap, h1, h0, ?_⟩
  rcases h2 with h2 | ⟨bl, off, h3, h4, h5⟩
  · exact Or.inl h2
  · refine Or.inr ⟨bl, off, h3, by omega, fun j hj => ?_⟩
    obtain ⟨g1, g2, g3, g4⟩ := h5 j hj
    exact ⟨g1, g2, g3, g4.mono hb⟩

theorem KeSl.up {w w' : World} {v : Value} {n : Nat} {UV : Nat → Value} {t : Kt} (h : KeSl w w.heap.size v n UV t) (hb : Below w.heap.size w w') : KeSl w' w'.heap.size v n UV t := (h.below hb).mono hb.size

/-- what is kept, as a value -/
def keptV (ver N : Int) (uv : Value) : Value := .agg #[.int .i64 ver, .int .i64 N, uv]
/-- a peer, as a value -/
def peerV (th : Bool) (room : Int) (vk : Value) : Value := .agg #[.bool th, .int .i64 room, vk]

/-- the error of what is kept at place k -/
def oneK (b : Bk) (t : Kt) (k : Nat) : Int := oneE (b.nd (t.V k).toNat) (b.of (t.V k).toNat) (b.sz (t.V k).toNat) (t.N k) (t.L k) (t.X k)
/-- what is kept from place k on, f of them, behind the version last: the first error -/
def scanK (n : Nat) (b : Bk) (t : Kt) : Nat → Nat → Int → Int
  | 0, _, _ => 0
  | f + 1, k, last => if t.V k < 0 ∨ (n : Int) ≤ t.V k then 4 else if t.V k ≤ last then 5 else if oneK b t k = 0 then scanK n b t f (k + 1) (t.V k) else oneK b t k
/-- a peer's error -/
def peerE (n : Nat) (b : Bk) (room : Int) (m : Nat) (t : Kt) : Int :=
  if bookE n b = 0 then (if 0 ≤ room ∧ room ≤ 20 then (if (m : Int) ≤ room then scanK n b t m 0 (-1) else 8) else 2) else bookE n b

/-- are two kept ones alike? -/
def verK (t u : Kt) (j : Nat) : Bool := decide (t.V j = u.V j) && sameB (t.N j) (u.N j) (t.L j) (u.L j) (t.X j) (u.X j)
def restK (t u : Kt) : Nat → Nat → Bool
  | 0, _ => true
  | f + 1, k => verK t u k && restK t u f (k + 1)
def keptB (n m : Nat) (t u : Kt) : Bool := decide (n = m) && restK t u n 0
/-- are two peers alike? -/
def peerB (a1 a2 : Bool) (r1 r2 : Int) (n m : Nat) (t u : Kt) : Bool := (a1 == a2) && (decide (r1 = r2) && keptB n m t u)

end Go.Proofs.Ytmefjflponcfhae
