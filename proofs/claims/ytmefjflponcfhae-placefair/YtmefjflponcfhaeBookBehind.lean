/- What chapter 5's reference answers: what is behind a version; which are heads? -/
import Derived.Test.YtmefjflponcfhaeBookFrom
import Derived.Test.YtmefjflponcfhaeOwnL
namespace Go.Proofs.Ytmefjflponcfhae
open Go.RowKit
set_option linter.unusedVariables false

/-- what is behind version k, among the first j -/
def behL (b : Bk) (f k j : Nat) : List Int := ((List.range j).filter fun old => frm b f k old).map fun (x : Nat) => (x : Int)

theorem behL_succ (b : Bk) (f k j : Nat) : behL b f k (j + 1) = behL b f k j ++ (if frm b f k j = true then [(j : Int)] else []) := by
  unfold behL
  rw [List.range_succ, List.filter_append, List.map_append]
  cases h : frm b f k j <;> simp [h]

theorem behL_len (b : Bk) (f k j : Nat) : (behL b f k j).length ≤ j := by
  unfold behL
  rw [List.length_map]
  refine Nat.le_trans (List.length_filter_le _ _) ?_
  simp

/-- is version k a parent of version j? -/
def parB (b : Bk) (k j : Nat) : Bool := hasB (b.PX j) (b.PL j) (k : Int)

/-- those of the first j that are no parent -/
def headsL (b : Bk) (n j : Nat) : List Int := ((List.range j).filter fun k => !anyB (parB b k) n 0).map fun (x : Nat) => (x : Int)

theorem headsL_succ (b : Bk) (n j : Nat) : headsL b n (j + 1) = headsL b n j ++ (if anyB (parB b j) n 0 = true then [] else [(j : Int)]) := by
  unfold headsL
  rw [List.range_succ, List.filter_append, List.map_append]
  cases h : anyB (parB b j) n 0 <;> simp [h]

theorem headsL_len (b : Bk) (n j : Nat) : (headsL b n j).length ≤ j := by
  unfold headsL
  rw [List.length_map]
  refine Nat.le_trans (List.length_filter_le _ _) ?_
  simp

end Go.Proofs.Ytmefjflponcfhae
