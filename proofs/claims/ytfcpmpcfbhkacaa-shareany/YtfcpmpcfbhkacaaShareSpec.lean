/- Chapter 3 in plain words: plans, shares, what is split and what is joined; what package share owes. -/
import Derived.Test.YtfcpmpcfbhkacaaOwn
import Derived.Test.YtfcpmpcfbhkacaaCurveUp
import Derived.Test.YtfcpmpcfbhkacaaShareOne
import Derived.Test.YtfcpmpcfbhkacaaOwnSh
namespace Go.Proofs.Ytfcpmpcfbhkacaa
open Go.RowKit CurveMath
set_option linter.unusedVariables false

/-- a content, with noughts behind it -/
def padD (n : Nat) (D : Nat → Int) (j : Nat) : Int := if j < n then D j else 0
/-- the number of row r in share k -/
def shv (nd : Nat) (n : Nat) (D : Nat → Int) (k r : Nat) : Int := crv nd (fun i => (i : Int)) (fun i => padD n D (r * nd + i)) k

/-- what keeps a content from being split -/
def splitE (nd of sz : Int) (n : Nat) (D : Nat → Int) : Int :=
  if planOk nd of sz = true then (if (n : Int) = sz then (if numsB n D = true then 0 else 2) else 3) else 2

/-- shares from number k on, m of them: the first error -/
def scanS (nd of sz : Int) (N : Nat → Int) (L : Nat → Nat) (X : Nat → Nat → Int) : Nat → Nat → Int
  | 0, _ => 0
  | m + 1, k => if oneE nd of sz (N k) (L k) (X k) = 0 then (if hasB N k (N k) = true then 5 else scanS nd of sz N L X m (k + 1)) else oneE nd of sz (N k) (L k) (X k)

/-- what is joined of the first shares -/
def joinD (nd : Nat) (N : Nat → Int) (X : Nat → Nat → Int) (i : Nat) : Int := crv nd N (fun j => X j (i / nd)) ((i % nd : Nat) : Int)
/-- do things not fit together? -/
def tornB (nd sz : Nat) (rows n : Nat) (N : Nat → Int) (X : Nat → Nat → Int) : Bool :=
  !(decide (∀ r, r < rows → ∀ j, j < n → crv nd N (fun i => X i r) (N j) = X j r) && decide (∀ i, i < rows * nd → i < sz ∨ joinD nd N X i = 0))
def joinE (nd of sz : Int) (n : Nat) (N : Nat → Int) (L : Nat → Nat) (X : Nat → Nat → Int) : Int :=
  if planOk nd of sz = true then
    (if n ≤ 8 then
      (if scanS nd of sz N L X n 0 = 0 then
        (if nd ≤ (n : Int) then (if tornB nd.toNat sz.toNat (rowsN nd sz) n N X = true then 9 else 0) else 7)
      else scanS nd of sz N L X n 0)
    else 1)
  else 2

/-- what package share owes -/
structure Owes : Prop where
  check : ∀ (nd of sz : Int) (w : World), Calls Try.prog 17 #[planV nd of sz] w fun e w' => e = .returned (.int .i64 (chkP nd of sz)) ∧ Below w.heap.size w w'
  long : ∀ (nd of sz : Int) (w : World), Calls Try.prog 19 #[planV nd of sz] w fun e w' => e = .returned (.int .i64 (longP nd of sz)) ∧ Below w.heap.size w w'
  one : ∀ (nd of sz N : Int) (V : Value) (L : Nat) (X : Nat → Int) (w : World), IntSl w w.heap.size V L X →
    Calls Try.prog 21 #[planV nd of sz, shareV N V] w fun e w' => e = .returned (.int .i64 (oneE nd of sz N L X)) ∧ Below w.heap.size w w'
  same : ∀ (N1 N2 : Int) (V1 V2 : Value) (n m : Nat) (X Y : Nat → Int) (w : World), IntSl w w.heap.size V1 n X → IntSl w w.heap.size V2 m Y →
    Calls Try.prog 23 #[shareV N1 V1, shareV N2 V2] w fun e w' => e = .returned (.bool (sameB N1 N2 n m X Y)) ∧ Below w.heap.size w w'
  split : ∀ (nd of sz : Int) (v : Value) (n : Nat) (D : Nat → Int) (w : World), IntSl w w.heap.size v n D →
    Calls Try.prog 12 #[planV nd of sz, v] w fun e w' => Below w.heap.size w w' ∧ ∃ (r : Value) (m : Nat) (V : Nat → Value), e = .returned (.tuple #[r, .int .i64 (splitE nd of sz n D)]) ∧
      (m : Int) = (if splitE nd of sz n D = 0 then of else 0) ∧ ShSl w' w'.heap.size r m (fun k => (k : Int)) V (fun _ => rowsN nd sz) (fun k i => shv nd.toNat n D k i) ∧
      Above w.heap.size r ∧ ∀ k, k < m → Above w.heap.size (V k)
  join : ∀ (nd of sz : Int) (v : Value) (n : Nat) (N : Nat → Int) (V : Nat → Value) (L : Nat → Nat) (X : Nat → Nat → Int) (w : World), ShSl w w.heap.size v n N V L X →
    Calls Try.prog 13 #[planV nd of sz, v] w fun e w' => Below w.heap.size w w' ∧ ∃ (r : Value) (m : Nat), e = .returned (.tuple #[r, .int .i64 (joinE nd of sz n N L X)]) ∧
      (m : Int) = (if joinE nd of sz n N L X = 0 then sz else 0) ∧ IntSl w' w'.heap.size r m (joinD nd.toNat N X)

theorem ShSl.set {w : World} {B bs : Nat} {v : Value} {n : Nat} {N : Nat → Int} {V : Nat → Value} {L : Nat → Nat} {X : Nat → Nat → Int} (h : ShSl w B v n N V L X) (ha : Above (bs + 1) v) (hV : ∀ k, k < n → Above (bs + 1) (V k)) (o : Nat) (u : Value) : ShSl (w.setCell ⟨bs, o, none⟩ u) B v n N V L X := by
  obtain ⟨ad, cap, rfl, h0, h2⟩ := h
  refine ⟨ad, cap, rfl, h0, ?_⟩
  rcases h2 with h2 | ⟨b, off, rfl, h4, h5⟩
  · exact Or.inl h2
  · have hb : bs + 1 ≤ b := ha _ _ _ rfl
    refine Or.inr ⟨b, off, rfl, h4, fun j hj => ?_⟩
    obtain ⟨g1, g2, g3⟩ := h5 j hj
    exact ⟨by rw [World.cell?_setCell_other _ _ _ _ (by intro e; injection e with e1; omega)]; exact g1, by rw [World.cell?_setCell_other _ _ _ _ (by intro e; injection e with e1; omega)]; exact g2, g3.set (hV j hj) o u⟩

theorem ShSl.congr {w : World} {B : Nat} {v : Value} {n : Nat} {N N' : Nat → Int} {V : Nat → Value} {L L' : Nat → Nat} {X X' : Nat → Nat → Int} (h : ShSl w B v n N V L X) (h1 : ∀ j, j < n → N j = N' j) (h2 : ∀ j, j < n → L j = L' j) (h3 : ∀ j, j < n → ∀ i, i < L j → X j i = X' j i) : ShSl w B v n N' V L' X' := by
  obtain ⟨ad, cap, rfl, h0, hh⟩ := h
  refine ⟨ad, cap, rfl, h0, ?_⟩
  rcases hh with hh | ⟨b, off, rfl, h4, h5⟩
  · exact Or.inl hh
  · refine Or.inr ⟨b, off, rfl, h4, fun j hj => ?_⟩
    obtain ⟨g1, g2, g3⟩ := h5 j hj
    refine ⟨by rw [g1, h1 j hj], g2, ?_⟩
    rw [← h2 j hj]
    exact g3.congr (h3 j hj)

/-- the first m of n shares -/
theorem ShSl.take {w : World} {B : Nat} {a : Option Addr} {cap n m : Nat} {N : Nat → Int} {V : Nat → Value} {L : Nat → Nat} {X : Nat → Nat → Int} (h : ShSl w B (.slice a n cap) n N V L X) (hm : m ≤ n) : ShSl w B (.slice a m cap) m N V L X := by
  obtain ⟨ad, cp, e, h0, hh⟩ := h
  injection e with e1 _ e3
  subst e1 e3
  refine ⟨a, cap, rfl, ⟨by omega, by omega⟩, ?_⟩
  rcases hh with hh | ⟨b, off, rfl, h4, h5⟩
  · exact Or.inl (by omega)
  · exact Or.inr ⟨b, off, rfl, h4, fun j hj => h5 j (by omega)⟩

end Go.Proofs.Ytfcpmpcfbhkacaa
