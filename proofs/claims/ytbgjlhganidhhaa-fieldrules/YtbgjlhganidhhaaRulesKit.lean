/- What FieldRules stands on at any numbers: what its closures answer. -/
import Derived.Test.YtbgjlhganidhhaaRows
import Derived.WalkKit
import Derived.ProofKit
import Derived.Handy
import Derived.Test.YtbgjlhganidhhaaField
namespace Go.Proofs.Ytbgjlhganidhhaa
open Go.RowKit
set_option linter.unusedVariables false

theorem setCell_self {w : World} {b : Nat} {v : Value} {t : TypeId} (h : w.heap[b]? = some (.cells #[v] t (0, 0))) : w.setCell ⟨b, 0, none⟩ v = w := by
  have hlt := lt_of_block h
  have h' : w.heap[b] = .cells #[v] t (0, 0) := by simpa [Array.getElem?_eq_getElem hlt] using h
  have e : (w.setCell ⟨b, 0, none⟩ v).heap = w.heap := by
    unfold World.setCell
    apply Array.ext
    · simp
    · intro i h1 h2
      simp only [Array.getElem_modify]
      split
      · rename_i hi
        subst hi
        rw [h']
        rfl
      · rfl
  cases w
  simp only [World.setCell] at e ⊢
  rw [e]

/-- a number -/
structure Num (a : Int) : Prop where
  lo : 0 ≤ a
  hi : a ≤ 30
/-- two numbers together, and times -/
def ad (a b : Int) : Int := (a + b) % 31
def ml (a b : Int) : Int := a * b % 31
theorem num_ad (a b : Int) : Num (ad a b) := ⟨by unfold ad; omega, by unfold ad; omega⟩
theorem num_ml (a b : Int) : Num (ml a b) := ⟨by unfold ml; omega, by unfold ml; omega⟩
theorem num_dv (a b : Int) : Num (dv a b) := ⟨(dv_bd a b).1, (dv_bd a b).2⟩
theorem num_0 : Num 0 := ⟨by omega, by omega⟩
theorem num_1 : Num 1 := ⟨by omega, by omega⟩

theorem add_cl (x y : Int) (hx : Num x) (hy : Num y) (B : Nat) (w : World) (hB : w.heap[B]? = some (.cells #[.bool false] 4 (0, 0))) :
    Calls Try.prog 20 #[.int .i64 x, .int .i64 y, .pointer (some ⟨B, 0, none⟩)] w fun e w' => e = .returned (.int .i64 (ad x y)) ∧ w' = w := by
  have c1 := cell_of_one hB
  have c2 := free_of_one hB
  have c3 := setCell_self hB
  have hx1 : 0 ≤ x ∧ x ≤ 30 := ⟨hx.1, hx.2⟩
  have hy1 : 0 ≤ y ∧ y ≤ 30 := ⟨hy.1, hy.2⟩
  clear hB
  unfold ad
  go_enter Try.func20, Try.ntmps20
  go_wp2_with (go_at_call 12; go_must (refine (add_ok _ _ (by omega) (by omega) _).mono ?_; rintro e w' ⟨rfl, rfl⟩))
  go_ret
  exact ⟨rfl, rfl⟩

theorem mul_cl (x y : Int) (hx : Num x) (hy : Num y) (B : Nat) (w : World) (hB : w.heap[B]? = some (.cells #[.bool false] 4 (0, 0))) :
    Calls Try.prog 21 #[.int .i64 x, .int .i64 y, .pointer (some ⟨B, 0, none⟩)] w fun e w' => e = .returned (.int .i64 (ml x y)) ∧ w' = w := by
  have c1 := cell_of_one hB
  have c2 := free_of_one hB
  have c3 := setCell_self hB
  have hx1 : 0 ≤ x ∧ x ≤ 30 := ⟨hx.1, hx.2⟩
  have hy1 : 0 ≤ y ∧ y ≤ 30 := ⟨hy.1, hy.2⟩
  clear hB
  unfold ml
  go_enter Try.func21, Try.ntmps21
  go_wp2_with (go_at_call 13; go_must (refine (mul_ok _ _ (by omega) (by omega) _).mono ?_; rintro e w' ⟨rfl, rfl⟩))
  go_ret
  exact ⟨rfl, rfl⟩

theorem div_cl (a b : Int) (ha : Num a) (hb : Num b) (h0 : ¬ b = 0) (w : World) :
    Calls Try.prog 14 #[.int .i64 a, .int .i64 b] w fun e w' => e = .returned (.tuple #[.int .i64 (dv a b), .int .i64 0]) ∧ w' = w := by
  obtain ⟨h1, h2⟩ := ha
  obtain ⟨h3, h4⟩ := hb
  exact div_ok a b (by omega) (by omega) w

theorem md_add1 (a b c : Int) : ad (ad a b) c = ad a (ad b c) := by unfold ad; omega
theorem md_mul1 (a b c : Int) : ml (ml a b) c = ml a (ml b c) := by
  unfold ml
  rw [Int.mul_emod, Int.emod_emod, ← Int.mul_emod, Int.mul_assoc]
  conv => rhs; rw [Int.mul_emod, Int.emod_emod, ← Int.mul_emod]
theorem md_dist (a b c : Int) : ml a (ad b c) = ad (ml a b) (ml a c) := by
  unfold ml ad
  rw [Int.mul_emod, Int.emod_emod, ← Int.mul_emod, Int.mul_add]
  omega

theorem blk (w : World) : (w.alloc (.cells #[.bool false] 4)).heap[w.heap.size]? = some (.cells #[.bool false] 4 (0, 0)) := heap_alloc_new _ _

theorem at_eq (k n r : Int) (hn : 1 ≤ n ∧ n ≤ 100) (hr : r = k % n) (w : World) :
    Calls Try.prog 19 #[.int .i64 k, .int .i64 n] w fun e w' => e = .returned (.int .i64 r) ∧ w' = w := by
  subst hr
  exact at_any k n hn w

end Go.Proofs.Ytbgjlhganidhhaa
