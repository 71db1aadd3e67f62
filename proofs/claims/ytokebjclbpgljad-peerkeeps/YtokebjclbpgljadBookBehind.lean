/- What chapter 5's reference answers: what is behind a version; which are heads? -/
import Derived.Test.YtokebjclbpgljadBookFrom
import Derived.Test.YtokebjclbpgljadOwnL
namespace Go.Proofs.Ytokebjclbpgljad
open Go.RowKit
set_option linter.unusedVariables false

/-- what is behind version k, among the first j -/
def behL (b : Bk) (f k j : Nat) : List Int := ((List.range j).filter fun old => frm b f k old).map fun (x : Nat) => (x : Int)

theorem behL_succ (b : Bk) (f k j : Nat) : behL b f k (j + 1) = behL b f k j ++ (if frm b f k j = true then [(j : Int)] else []) := by
  unfold behL
  rw [List.range_succ, List.filter_append, List.map_append]
  cases h : frm b f k j <;> simp [h]

theorem behL_len (b : Bk) (f k j : Nat) : (behL b f k j).length ≤ j := by
  unfold behL
  rw [List.length_map]
  refine Nat.le_trans (List.length_filter_le _ _) ?_
  simp

theorem contains_sl {w : World} {B : Nat} {v : Value} {n : Nat} {X : Nat → Int} (h : IntSl w B v n X) (x : Int) :
    Calls Try.prog 12 #[v, .int .i64 x] w fun e w' => e = .returned (.bool (hasB X n x)) ∧ w' = w := by
  obtain ⟨ad, cap, rfl, ⟨h0, h1⟩, h2⟩ := h
  rcases h2 with rfl | ⟨b, off, rfl, _, h3⟩
  · exact contains_none ad cap x w
  · exact contains_any b off n cap X x w h1 h3

/-- is version k a parent of version j? -/
def parB (b : Bk) (k j : Nat) : Bool := hasB (b.PX j) (b.PL j) (k : Int)

/-- those of the first j that are no parent -/
def headsL (b : Bk) (n j : Nat) : List Int := ((List.range j).filter fun k => !anyB (parB b k) n 0).map fun (x : Nat) => (x : Int)

theorem headsL_succ (b : Bk) (n j : Nat) : headsL b n (j + 1) = headsL b n j ++ (if anyB (parB b j) n 0 = true then [] else [(j : Int)]) := by
  unfold headsL
  rw [List.range_succ, List.filter_append, List.map_append]
  cases h : anyB (parB b j) n 0 <;> simp [h]

theorem headsL_len (b : Bk) (n j : Nat) : (headsL b n j).length ≤ j := by
  unfold headsL
  rw [List.length_map]
  refine Nat.le_trans (List.length_filter_le _ _) ?_
  simp

end Go.Proofs.Ytokebjclbpgljad
