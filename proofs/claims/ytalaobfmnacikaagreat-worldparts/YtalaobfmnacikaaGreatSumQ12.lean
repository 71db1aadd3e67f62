/- Several texts of one proof, in their order. -/
import Derived.Test.YtalaobfmnacikaaGreatSumQ10
import Derived.Test.YtalaobfmnacikaaGreatSumQ11
import Derived.Test.YtalaobfmnacikaaGreatSumQ4

namespace Go.Proofs.YtalaobfmnacikaaGreat

open Go.RowKit CurveMath
set_option linter.unusedVariables false

theorem isl_three {w : World} {g : Nat} {T : TypeId} (h : w.heap[g]? = some (.cells #[.int .i64 2, .int .i64 2, .int .i64 2] T (0, 0))) : IntSl w w.heap.size (.slice (some ⟨g, 0, none⟩) 3 3) 3 dnX :=
  ⟨_, _, rfl, ⟨Nat.le_refl _, by omega⟩, Or.inr ⟨g, 0, rfl, (Array.getElem?_eq_some_iff.1 h).1, fun j hj => by
    match j, hj with
    | 0, _ => exact cell_at h rfl
    | 1, _ => exact cell_at h rfl
    | 2, _ => exact cell_at h rfl⟩⟩

def put7 (w : World) (g : Nat) (u0 u1 u2 u3 u4 u5 u6 : Value) : World := ((((((w.setCell ⟨g, 0, none⟩ u0).setCell ⟨g, 1, none⟩ u1).setCell ⟨g, 2, none⟩ u2).setCell ⟨g, 3, none⟩ u3).setCell ⟨g, 4, none⟩ u4).setCell ⟨g, 5, none⟩ u5).setCell ⟨g, 6, none⟩ u6

theorem put7_whole {w : World} {g : Nat} {T : TypeId} {v0 v1 v2 v3 v4 v5 v6 : Value} (h : w.heap[g]? = some (.cells #[v0, v1, v2, v3, v4, v5, v6] T (0, 0))) (u0 u1 u2 u3 u4 u5 u6 : Value) : (put7 w g u0 u1 u2 u3 u4 u5 u6).heap[g]? = some (.cells #[u0, u1, u2, u3, u4, u5, u6] T (0, 0)) := by
  simp [put7, World.setCell, Array.getElem?_modify, h]

theorem put7_below {B : Nat} {w w5 : World} {g : Nat} {u0 u1 u2 u3 u4 u5 u6 : Value} (hb : Below B w w5) (hg : B ≤ g) : Below B w (put7 w5 g u0 u1 u2 u3 u4 u5 u6) :=
  ((((((hb.setCell (p := ⟨g, 0, none⟩) hg _).setCell (p := ⟨g, 1, none⟩) hg _).setCell (p := ⟨g, 2, none⟩) hg _).setCell (p := ⟨g, 3, none⟩) hg _).setCell (p := ⟨g, 4, none⟩) hg _).setCell (p := ⟨g, 5, none⟩) hg _).setCell (p := ⟨g, 6, none⟩) hg _

set_option maxHeartbeats 2000000 in
theorem doneOf (kd n : Int) (w : World) : Calls Tryz.prog 32 #[.int .i64 kd, .int .i64 n] w fun e w' => e = .returned (.agg #[.int .i64 kd, .int .i64 n, .int .i64 0, .slice none 0 0, .slice none 0 0, .int .i64 0, .int .i64 0]) ∧ Below w.heap.size w w' := by
  have hb := below_alloc w (.cells #[.int .i64 0, .int .i64 0, .int .i64 0, .slice none 0 0, .slice none 0 0, .int .i64 0, .int .i64 0] 30)
  have k0 := heap_alloc_new w (.cells #[.int .i64 0, .int .i64 0, .int .i64 0, .slice none 0 0, .slice none 0 0, .int .i64 0, .int .i64 0] 30)
  obtain ⟨U, hU⟩ : ∃ u, w.alloc (.cells #[.int .i64 0, .int .i64 0, .int .i64 0, .slice none 0 0, .slice none 0 0, .int .i64 0, .int .i64 0] 30) = u := ⟨_, rfl⟩
  rw [hU] at hb k0
  have HB := hid hb
  have K0 := hid k0
  have f0 := frozen_at (i := 0) k0
  have f1 := frozen_at (i := 1) k0
  have f2 := frozen_at (i := 2) k0
  have f3 := frozen_at (i := 3) k0
  have f4 := frozen_at (i := 4) k0
  have f5 := frozen_at (i := 5) k0
  have f6 := frozen_at (i := 6) k0
  have c0 : U.cell? ⟨w.heap.size, 0, none⟩ = some (.int .i64 0) := cell_at k0 rfl
  have c1 : U.cell? ⟨w.heap.size, 1, none⟩ = some (.int .i64 0) := cell_at k0 rfl
  have c2 : U.cell? ⟨w.heap.size, 2, none⟩ = some (.int .i64 0) := cell_at k0 rfl
  have c3 : U.cell? ⟨w.heap.size, 3, none⟩ = some (.slice none 0 0) := cell_at k0 rfl
  have c4 : U.cell? ⟨w.heap.size, 4, none⟩ = some (.slice none 0 0) := cell_at k0 rfl
  have c5 : U.cell? ⟨w.heap.size, 5, none⟩ = some (.int .i64 0) := cell_at k0 rfl
  have c6 : U.cell? ⟨w.heap.size, 6, none⟩ = some (.int .i64 0) := cell_at k0 rfl
  clear hb k0
  go_enter Tryz.func32, Tryz.ntmps32
  go_wp2
  have hH := put7_whole K0.out (.int .i64 kd) (.int .i64 n) (.int .i64 0) (.slice none 0 0) (.slice none 0 0) (.int .i64 0) (.int .i64 0)
  refine bodyPost_ret (results_cell_row rfl _ _ w.heap.size 30 #[.int .i64 kd, .int .i64 n, .int .i64 0, .slice none 0 0, .slice none 0 0, .int .i64 0, .int .i64 0] (0, 0) _ rfl hH Tryz.underlying30 rfl (by kernel_rfl)) rfl ?_
  exact ⟨rfl, put7_below HB.out (Nat.le_refl _)⟩

def dnCells (g1 g2 g3 : Nat) : Array Value := #[.int .i64 1, .int .i64 0, .int .i64 0, .slice (some ⟨g1, 0, none⟩) 2 2, .slice none 0 0, .int .i64 1, .int .i64 2, .int .i64 2, .int .i64 0, .int .i64 0, .slice none 0 0, .slice none 0 0, .int .i64 0, .int .i64 0, .int .i64 2, .int .i64 0, .int .i64 0, .slice none 0 0, .slice none 0 0, .int .i64 0, .int .i64 0, .int .i64 6, .int .i64 0, .int .i64 0, .slice none 0 0, .slice none 0 0, .int .i64 0, .int .i64 0, .int .i64 3, .int .i64 0, .int .i64 0, .slice none 0 0, .slice none 0 0, .int .i64 0, .int .i64 0, .int .i64 5, .int .i64 2, .int .i64 0, .slice none 0 0, .slice none 0 0, .int .i64 0, .int .i64 0, .int .i64 1, .int .i64 0, .int .i64 0, .slice (some ⟨g2, 0, none⟩) 1 1, .slice (some ⟨g3, 0, none⟩) 1 1, .int .i64 1, .int .i64 1, .int .i64 7, .int .i64 0, .int .i64 0, .slice none 0 0, .slice none 0 0, .int .i64 0, .int .i64 0, .int .i64 7, .int .i64 1, .int .i64 0, .slice none 0 0, .slice none 0 0, .int .i64 0, .int .i64 0, .int .i64 4, .int .i64 1, .int .i64 0, .slice none 0 0, .slice none 0 0, .int .i64 0, .int .i64 0]

def VD (M : Value) (k : Nat) (v : Value) (w : World) : Prop := match k with
  | 0 => v = M
  | 1 => ∃ g, v = .slice (some ⟨g, 0, none⟩) 2 2 ∧ w.heap[g]? = some (.cells #[.int .i64 1, .int .i64 2] 3 (0, 0))
  | 2 => ∃ g, v = .agg #[.int .i64 1, .int .i64 0, .int .i64 0, .slice (some ⟨g, 0, none⟩) 2 2, .slice none 0 0, .int .i64 1, .int .i64 2] ∧ w.heap[g]? = some (.cells #[.int .i64 1, .int .i64 2] 3 (0, 0))
  | 3 => v = .func (.func 32) #[] #[]
  | 4 => v = .agg #[.int .i64 2, .int .i64 0, .int .i64 0, .slice none 0 0, .slice none 0 0, .int .i64 0, .int .i64 0]
  | 5 => v = .func (.func 32) #[] #[]
  | 6 => v = .agg #[.int .i64 2, .int .i64 0, .int .i64 0, .slice none 0 0, .slice none 0 0, .int .i64 0, .int .i64 0]
  | 7 => v = .func (.func 32) #[] #[]
  | 8 => v = .agg #[.int .i64 6, .int .i64 0, .int .i64 0, .slice none 0 0, .slice none 0 0, .int .i64 0, .int .i64 0]
  | 9 => v = .func (.func 32) #[] #[]
  | 10 => v = .agg #[.int .i64 3, .int .i64 0, .int .i64 0, .slice none 0 0, .slice none 0 0, .int .i64 0, .int .i64 0]
  | 11 => v = .func (.func 32) #[] #[]
  | 12 => v = .agg #[.int .i64 5, .int .i64 2, .int .i64 0, .slice none 0 0, .slice none 0 0, .int .i64 0, .int .i64 0]
  | 13 => ∃ g, v = .slice (some ⟨g, 0, none⟩) 1 1 ∧ w.heap[g]? = some (.cells #[.int .i64 3] 3 (0, 0))
  | 14 => ∃ g, v = .slice (some ⟨g, 0, none⟩) 1 1 ∧ w.heap[g]? = some (.cells #[.int .i64 0] 3 (0, 0))
  | 15 => ∃ g g2, v = .agg #[.int .i64 1, .int .i64 0, .int .i64 0, .slice (some ⟨g, 0, none⟩) 1 1, .slice (some ⟨g2, 0, none⟩) 1 1, .int .i64 1, .int .i64 1] ∧ w.heap[g]? = some (.cells #[.int .i64 3] 3 (0, 0)) ∧ w.heap[g2]? = some (.cells #[.int .i64 0] 3 (0, 0))
  | 16 => v = .func (.func 32) #[] #[]
  | 17 => v = .agg #[.int .i64 7, .int .i64 0, .int .i64 0, .slice none 0 0, .slice none 0 0, .int .i64 0, .int .i64 0]
  | 18 => v = .func (.func 32) #[] #[]
  | 19 => v = .agg #[.int .i64 7, .int .i64 1, .int .i64 0, .slice none 0 0, .slice none 0 0, .int .i64 0, .int .i64 0]
  | 20 => v = .func (.func 32) #[] #[]
  | 21 => v = .agg #[.int .i64 4, .int .i64 1, .int .i64 0, .slice none 0 0, .slice none 0 0, .int .i64 0, .int .i64 0]
  | 22 => ∃ g g1 g2 g3, v = .slice (some ⟨g, 0, none⟩) 10 10 ∧ w.heap[g]? = some (.cells (dnCells g1 g2 g3) 30 (0, 0)) ∧ w.heap[g1]? = some (.cells #[.int .i64 1, .int .i64 2] 3 (0, 0)) ∧ w.heap[g2]? = some (.cells #[.int .i64 3] 3 (0, 0)) ∧ w.heap[g3]? = some (.cells #[.int .i64 0] 3 (0, 0))
  | _ => False

theorem VD.up {M : Value} {k : Nat} {v : Value} {w w' : World} (hk : k < 23) (h : VD M k v w) (hb : Below w.heap.size w w') : VD M k v w' := by
  have hc : k = 0 ∨ k = 1 ∨ k = 2 ∨ k = 3 ∨ k = 4 ∨ k = 5 ∨ k = 6 ∨ k = 7 ∨ k = 8 ∨ k = 9 ∨ k = 10 ∨ k = 11 ∨ k = 12 ∨ k = 13 ∨ k = 14 ∨ k = 15 ∨ k = 16 ∨ k = 17 ∨ k = 18 ∨ k = 19 ∨ k = 20 ∨ k = 21 ∨ k = 22 := by omega
  rcases hc with rfl | rfl | rfl | rfl | rfl | rfl | rfl | rfl | rfl | rfl | rfl | rfl | rfl | rfl | rfl | rfl | rfl | rfl | rfl | rfl | rfl | rfl | rfl
  · exact h
  · obtain ⟨g, h1, h2⟩ := h
    exact ⟨g, h1, stayB h2 hb⟩
  · obtain ⟨g, h1, h2⟩ := h
    exact ⟨g, h1, stayB h2 hb⟩
  · exact h
  · exact h
  · exact h
  · exact h
  · exact h
  · exact h
  · exact h
  · exact h
  · exact h
  · exact h
  · obtain ⟨g, h1, h2⟩ := h
    exact ⟨g, h1, stayB h2 hb⟩
  · obtain ⟨g, h1, h2⟩ := h
    exact ⟨g, h1, stayB h2 hb⟩
  · obtain ⟨g, g2, h1, h2, h3⟩ := h
    exact ⟨g, g2, h1, stayB h2 hb, stayB h3 hb⟩
  · exact h
  · exact h
  · exact h
  · exact h
  · exact h
  · exact h
  · obtain ⟨g, g1, g2, g3, h1, h2, h3, h4, h5⟩ := h
    exact ⟨g, g1, g2, g3, h1, stayB h2 hb, stayB h3 hb, stayB h4 hb, stayB h5 hb⟩

def dnAct (gm g7 : Nat) (M : Value) (X : Nat → Value) : Act := { tmps := #[.bool false, .pointer (some ⟨gm, 0, none⟩), .int .i64 0, .func (.func 32) #[] #[], undef, undef, .tuple #[M, .int .i64 0], .slice (some ⟨g7, 0, none⟩) 3 3, .tuple #[M, .int .i64 0], M, .int .i64 0, undef, X 0, X 1, X 2, X 3, X 4, X 5, X 6, X 7, X 8, X 9, X 10, X 11, X 12, X 13, X 14, X 15, X 16, X 17, X 18, X 19, X 20, X 21, X 22, undef, undef, undef, undef, undef, undef, undef, undef, undef, undef, undef, undef, undef, undef, undef, undef, undef, undef, undef, undef, undef, undef, undef, undef, undef, undef, undef, undef, undef, undef, undef, undef, undef, undef, undef, undef, undef, undef, undef, undef, undef, undef, undef, undef, undef, undef, undef, undef, undef, undef, undef, undef, undef, undef], defers := [] }

def dnI (W2 : World) (gm g7 : Nat) (M : Value) (s : Nat → Bool) (a : Act) (w : World) : Prop := ∃ X : Nat → Value, a = dnAct gm g7 M X ∧ Below W2.heap.size W2 w ∧ ∀ k, k < 23 → s k = true → VD M k (X k) w

theorem dnI_step {W2 w w' : World} {gm g7 : Nat} {M v : Value} {s : Nat → Bool} {X : Nat → Value} {i : Nat} {a : Act} (hb : Below W2.heap.size W2 w) (hV : ∀ k, k < 23 → s k = true → VD M k (X k) w) (hb' : Below w.heap.size w w') (hv : VD M i v w') (ha : a = dnAct gm g7 M fun j => if j = i then v else X j) :
    dnI W2 gm g7 M (fun k => if k = i then true else s k) a w' :=
  ⟨_, ha, hb.trans (hb'.mono hb.size), fun k hk hs => by
    by_cases e : k = i
    · subst e
      simp only [if_true]
      exact hv
    · simp only [if_neg e] at hs
      simp only [if_neg e]
      exact (hV k hk hs).up hk hb'⟩

def dnH : Nat → Hp := fun j => dnL.getD j ⟨0, 0, 0, 0, dn0, 0, dn0, 0, 0⟩
def dnDV (g1 g2 : Nat) : Nat → Value := fun j => if j = 0 then .slice (some ⟨g1, 0, none⟩) 2 2 else if j = 6 then .slice (some ⟨g2, 0, none⟩) 1 1 else .slice none 0 0
def dnQV (g3 : Nat) : Nat → Value := fun j => if j = 6 then .slice (some ⟨g3, 0, none⟩) 1 1 else .slice none 0 0

theorem dn_list : hapL dnH 10 = dnL := rfl

theorem isl_put2D {w : World} {g : Nat} {T : TypeId} {v : Value} {m : Nat} {X : Nat → Int} {a0 a1 : Option Addr} {n0 c0 n1 c1 : Nat} (hg : w.heap[g]? = some (.cells #[.slice a0 n0 c0, .slice a1 n1 c1] T (0, 0))) (h : IntSl w w.heap.size v m X) (u0 u1 : Value) : IntSl (put2 w g u0 u1) (put2 w g u0 u1).heap.size v m X := by
  rw [put2_size]
  unfold put2
  obtain ⟨q0, q1⟩ := two_at hg
  exact isl_slice (isl_slice h q0 u0) (by rw [cell_set_lit (Or.inr (by omega))]; exact q1) u1

theorem isl_ten {w : World} {g : Nat} {T : TypeId} (h : w.heap[g]? = some (.cells #[.int .i64 0, .int .i64 0, .int .i64 6, .int .i64 0, .int .i64 0, .int .i64 0, .int .i64 0, .int .i64 6, .int .i64 0, .int .i64 0] T (0, 0))) : IntSl w w.heap.size (.slice (some ⟨g, 0, none⟩) 10 10) 10 (fun j => ([0, 0, 6, 0, 0, 0, 0, 6, 0, 0] : List Int).getD j 0) :=
  ⟨_, _, rfl, ⟨Nat.le_refl _, by omega⟩, Or.inr ⟨g, 0, rfl, (Array.getElem?_eq_some_iff.1 h).1, fun j hj => by
    match j, hj with
    | 0, _ => exact cell_at h rfl
    | 1, _ => exact cell_at h rfl
    | 2, _ => exact cell_at h rfl
    | 3, _ => exact cell_at h rfl
    | 4, _ => exact cell_at h rfl
    | 5, _ => exact cell_at h rfl
    | 6, _ => exact cell_at h rfl
    | 7, _ => exact cell_at h rfl
    | 8, _ => exact cell_at h rfl
    | 9, _ => exact cell_at h rfl⟩⟩

theorem isl_zero (w : World) (X : Nat → Int) : IntSl w w.heap.size (.slice none 0 0) 0 X := ⟨none, 0, rfl, ⟨Nat.le_refl _, by omega⟩, Or.inl rfl⟩

theorem isl_row1 {w : World} {g : Nat} {x : Int} {T : TypeId} {X : Nat → Int} (h : w.heap[g]? = some (.cells #[.int .i64 x] T (0, 0))) (e : X 0 = x) : IntSl w w.heap.size (.slice (some ⟨g, 0, none⟩) 1 1) 1 X :=
  ⟨_, _, rfl, ⟨Nat.le_refl _, by omega⟩, Or.inr ⟨g, 0, rfl, (Array.getElem?_eq_some_iff.1 h).1, fun j hj => by
    match j, hj with
    | 0, _ => rw [e]; exact cell_at h rfl⟩⟩

theorem isl_row2 {w : World} {g : Nat} {x y : Int} {T : TypeId} {X : Nat → Int} (h : w.heap[g]? = some (.cells #[.int .i64 x, .int .i64 y] T (0, 0))) (e : X 0 = x) (e2 : X 1 = y) : IntSl w w.heap.size (.slice (some ⟨g, 0, none⟩) 2 2) 2 X :=
  ⟨_, _, rfl, ⟨Nat.le_refl _, by omega⟩, Or.inr ⟨g, 0, rfl, (Array.getElem?_eq_some_iff.1 h).1, fun j hj => by
    match j, hj with
    | 0, _ => rw [e]; exact cell_at h rfl
    | 1, _ => rw [e2]; exact cell_at h rfl⟩⟩

theorem dn_slice {w : World} {g g1 g2 g3 : Nat} (hg : w.heap[g]? = some (.cells (dnCells g1 g2 g3) 30 (0, 0))) (h1 : w.heap[g1]? = some (.cells #[.int .i64 1, .int .i64 2] 3 (0, 0))) (h2 : w.heap[g2]? = some (.cells #[.int .i64 3] 3 (0, 0))) (h3 : w.heap[g3]? = some (.cells #[.int .i64 0] 3 (0, 0))) :
    HpSl w w.heap.size (.slice (some ⟨g, 0, none⟩) 10 10) 10 (dnDV g1 g2) (dnQV g3) dnH :=
  ⟨_, _, rfl, ⟨Nat.le_refl _, by omega⟩, Or.inr ⟨g, 0, rfl, (Array.getElem?_eq_some_iff.1 hg).1, fun j hj => by
    match j, hj with
    | 0, _ => exact ⟨⟨cell_at hg rfl, cell_at hg rfl, cell_at hg rfl, cell_at hg rfl, cell_at hg rfl, cell_at hg rfl, cell_at hg rfl⟩, isl_row2 h1 rfl rfl, isl_zero w _⟩
    | 1, _ => exact ⟨⟨cell_at hg rfl, cell_at hg rfl, cell_at hg rfl, cell_at hg rfl, cell_at hg rfl, cell_at hg rfl, cell_at hg rfl⟩, isl_zero w _, isl_zero w _⟩
    | 2, _ => exact ⟨⟨cell_at hg rfl, cell_at hg rfl, cell_at hg rfl, cell_at hg rfl, cell_at hg rfl, cell_at hg rfl, cell_at hg rfl⟩, isl_zero w _, isl_zero w _⟩
    | 3, _ => exact ⟨⟨cell_at hg rfl, cell_at hg rfl, cell_at hg rfl, cell_at hg rfl, cell_at hg rfl, cell_at hg rfl, cell_at hg rfl⟩, isl_zero w _, isl_zero w _⟩
    | 4, _ => exact ⟨⟨cell_at hg rfl, cell_at hg rfl, cell_at hg rfl, cell_at hg rfl, cell_at hg rfl, cell_at hg rfl, cell_at hg rfl⟩, isl_zero w _, isl_zero w _⟩
    | 5, _ => exact ⟨⟨cell_at hg rfl, cell_at hg rfl, cell_at hg rfl, cell_at hg rfl, cell_at hg rfl, cell_at hg rfl, cell_at hg rfl⟩, isl_zero w _, isl_zero w _⟩
    | 6, _ => exact ⟨⟨cell_at hg rfl, cell_at hg rfl, cell_at hg rfl, cell_at hg rfl, cell_at hg rfl, cell_at hg rfl, cell_at hg rfl⟩, isl_row1 h2 rfl, isl_row1 h3 rfl⟩
    | 7, _ => exact ⟨⟨cell_at hg rfl, cell_at hg rfl, cell_at hg rfl, cell_at hg rfl, cell_at hg rfl, cell_at hg rfl, cell_at hg rfl⟩, isl_zero w _, isl_zero w _⟩
    | 8, _ => exact ⟨⟨cell_at hg rfl, cell_at hg rfl, cell_at hg rfl, cell_at hg rfl, cell_at hg rfl, cell_at hg rfl, cell_at hg rfl⟩, isl_zero w _, isl_zero w _⟩
    | 9, _ => exact ⟨⟨cell_at hg rfl, cell_at hg rfl, cell_at hg rfl, cell_at hg rfl, cell_at hg rfl, cell_at hg rfl, cell_at hg rfl⟩, isl_zero w _, isl_zero w _⟩⟩⟩

set_option maxHeartbeats 8000000 in
set_option maxRecDepth 10000 in
theorem done_any (hO : MeshCore) (hW : WorldOwes) (w : World) : Calls Tryz.prog 10 #[] w fun e w' => e = .returned (.bool true) ∧ Below w.heap.size w w' := by
  have HO := hid hO
  have HWo := hid hW
  clear hO hW
  have hbA := below_alloc w (.cells #[.int .i64 2, .int .i64 2, .int .i64 2] 3)
  have kA := heap_alloc_new w (.cells #[.int .i64 2, .int .i64 2, .int .i64 2] 3)
  obtain ⟨U, hU⟩ : ∃ u, w.alloc (.cells #[.int .i64 2, .int .i64 2, .int .i64 2] 3) = u := ⟨_, rfl⟩
  rw [hU] at hbA kA
  have CN := hid (HO.out.new _ 3 dnX U (isl_three kA) (by omega))
  rw [dn_new] at CN
  have B0 := hid hbA
  clear hbA kA
  go_enter Tryz.func10, Tryz.ntmps10
  go_wp2_with fail
  refine Calls.mono CN.out ?_
  rintro e W1 hM
  obtain ⟨hb1, ab, n1, cb, PV, al, np1, cl, KV, UV, rfl, hn1, hp1, hv1, hl1⟩ := mesh_open hM.old
  rw [if_pos rfl] at hn1 hp1
  subst hn1
  obtain rfl : np1 = 3 := hp1
  have hb2 := below_alloc W1 (.cells #[.slice ab 0 cb, .slice al 3 cl] 27)
  have hx := MsAt.box hv1 hl1
  obtain ⟨W2, hW2⟩ : ∃ u, World.alloc W1 (.cells #[.slice ab 0 cb, .slice al 3 cl] 27) = u := ⟨_, rfl⟩
  rw [hW2] at hb2 hx
  obtain ⟨gm, hgm⟩ : ∃ g, W1.heap.size = g := ⟨_, rfl⟩
  rw [hgm] at hx
  have A2 := hid hx
  have hgw : w.heap.size ≤ W1.heap.size := Nat.le_trans B0.out.size hb1.size
  have B2 := hid (B0.out.trans ((hb1.trans (hb2.mono hb1.size)).mono B0.out.size))
  clear hM hb1 hb2 hx hv1 hl1 CN hU
  go_wp2_with fail
  refine region_inv 23 8 (fun _ => True) (dnI W2 gm w.heap.size (.agg #[.slice ab 0 cb, .slice al 3 cl])) (by kernel_rfl) rfl (by kernel_rfl) ⟨fun _ => undef, rfl, drew_below W2, fun k _ h => by cases h⟩ ?_ ?_
  · intro i hi s a u hI hs hd
    obtain ⟨X, rfl, hb, hV⟩ := hI
    have hc : i = 0 ∨ i = 1 ∨ i = 2 ∨ i = 3 ∨ i = 4 ∨ i = 5 ∨ i = 6 ∨ i = 7 ∨ i = 8 ∨ i = 9 ∨ i = 10 ∨ i = 11 ∨ i = 12 ∨ i = 13 ∨ i = 14 ∨ i = 15 ∨ i = 16 ∨ i = 17 ∨ i = 18 ∨ i = 19 ∨ i = 20 ∨ i = 21 ∨ i = 22 := by omega
    rcases hc with rfl | rfl | rfl | rfl | rfl | rfl | rfl | rfl | rfl | rfl | rfl | rfl | rfl | rfl | rfl | rfl | rfl | rfl | rfl | rfl | rfl | rfl | rfl
    · refine ⟨_, rfl, fun K hK => ?_⟩
      unfold dnAct
      obtain ⟨c0, c1⟩ := two_at (stayB A2.out.1 hb)
      go_wp2
      refine ⟨rfl, hK _ _ trivial (dnI_step hb hV (Below.refl _ _) (v := .agg #[.slice ab 0 cb, .slice al 3 cl]) rfl ?_)⟩
      simp [dnAct]
    · refine ⟨_, rfl, fun K hK => ?_⟩
      unfold dnAct
      go_wp2
      refine ⟨rfl, hK _ _ trivial (dnI_step hb hV (below_alloc _ (.cells #[.int .i64 1, .int .i64 2] 3)) (v := .slice (some ⟨u.heap.size, 0, none⟩) 2 2) ⟨u.heap.size, rfl, heap_alloc_new _ _⟩ ?_)⟩
      simp [dnAct]
    · refine ⟨_, rfl, fun K hK => ?_⟩
      obtain ⟨g1, e1, hg1⟩ := hV 1 (by omega) (hd 1 (of_decide_eq_true (by kernel_rfl)))
      unfold dnAct
      go_wp2
      refine ⟨rfl, hK _ _ trivial (dnI_step hb hV (Below.refl _ _) (v := .agg #[.int .i64 1, .int .i64 0, .int .i64 0, .slice (some ⟨g1, 0, none⟩) 2 2, .slice none 0 0, .int .i64 1, .int .i64 2]) ⟨g1, rfl, hg1⟩ ?_)⟩
      simp [dnAct, e1]
    · refine ⟨_, rfl, fun K hK => ?_⟩
      unfold dnAct
      go_wp2
      refine ⟨rfl, hK _ _ trivial (dnI_step hb hV (Below.refl _ _) (v := .func (.func 32) #[] #[]) rfl ?_)⟩
      simp [dnAct]
    · refine ⟨_, rfl, fun K hK => ?_⟩
      have e3 : X 3 = _ := hV 3 (by omega) (hd 3 (of_decide_eq_true (by kernel_rfl)))
      unfold dnAct
      go_wp2_with fail
      refine Calls.mono (doneOf 2 0 u) ?_
      rintro e u2 ⟨rfl, hb2⟩
      go_wp2
      refine ⟨rfl, hK _ _ trivial (dnI_step hb hV hb2 (v := .agg #[.int .i64 2, .int .i64 0, .int .i64 0, .slice none 0 0, .slice none 0 0, .int .i64 0, .int .i64 0]) rfl ?_)⟩
      simp [dnAct, e3]
    · refine ⟨_, rfl, fun K hK => ?_⟩
      unfold dnAct
      go_wp2
      refine ⟨rfl, hK _ _ trivial (dnI_step hb hV (Below.refl _ _) (v := .func (.func 32) #[] #[]) rfl ?_)⟩
      simp [dnAct]
    · refine ⟨_, rfl, fun K hK => ?_⟩
      have e5 : X 5 = _ := hV 5 (by omega) (hd 5 (of_decide_eq_true (by kernel_rfl)))
      unfold dnAct
      go_wp2_with fail
      refine Calls.mono (doneOf 2 0 u) ?_
      rintro e u2 ⟨rfl, hb2⟩
      go_wp2
      refine ⟨rfl, hK _ _ trivial (dnI_step hb hV hb2 (v := .agg #[.int .i64 2, .int .i64 0, .int .i64 0, .slice none 0 0, .slice none 0 0, .int .i64 0, .int .i64 0]) rfl ?_)⟩
      simp [dnAct, e5]
    · refine ⟨_, rfl, fun K hK => ?_⟩
      unfold dnAct
      go_wp2
      refine ⟨rfl, hK _ _ trivial (dnI_step hb hV (Below.refl _ _) (v := .func (.func 32) #[] #[]) rfl ?_)⟩
      simp [dnAct]
    · refine ⟨_, rfl, fun K hK => ?_⟩
      have e7 : X 7 = _ := hV 7 (by omega) (hd 7 (of_decide_eq_true (by kernel_rfl)))
      unfold dnAct
      go_wp2_with fail
      refine Calls.mono (doneOf 6 0 u) ?_
      rintro e u2 ⟨rfl, hb2⟩
      go_wp2
      refine ⟨rfl, hK _ _ trivial (dnI_step hb hV hb2 (v := .agg #[.int .i64 6, .int .i64 0, .int .i64 0, .slice none 0 0, .slice none 0 0, .int .i64 0, .int .i64 0]) rfl ?_)⟩
      simp [dnAct, e7]
    · refine ⟨_, rfl, fun K hK => ?_⟩
      unfold dnAct
      go_wp2
      refine ⟨rfl, hK _ _ trivial (dnI_step hb hV (Below.refl _ _) (v := .func (.func 32) #[] #[]) rfl ?_)⟩
      simp [dnAct]
    · refine ⟨_, rfl, fun K hK => ?_⟩
      have e9 : X 9 = _ := hV 9 (by omega) (hd 9 (of_decide_eq_true (by kernel_rfl)))
      unfold dnAct
      go_wp2_with fail
      refine Calls.mono (doneOf 3 0 u) ?_
      rintro e u2 ⟨rfl, hb2⟩
      go_wp2
      refine ⟨rfl, hK _ _ trivial (dnI_step hb hV hb2 (v := .agg #[.int .i64 3, .int .i64 0, .int .i64 0, .slice none 0 0, .slice none 0 0, .int .i64 0, .int .i64 0]) rfl ?_)⟩
      simp [dnAct, e9]
    · refine ⟨_, rfl, fun K hK => ?_⟩
      unfold dnAct
      go_wp2
      refine ⟨rfl, hK _ _ trivial (dnI_step hb hV (Below.refl _ _) (v := .func (.func 32) #[] #[]) rfl ?_)⟩
      simp [dnAct]
    · refine ⟨_, rfl, fun K hK => ?_⟩
      have e11 : X 11 = _ := hV 11 (by omega) (hd 11 (of_decide_eq_true (by kernel_rfl)))
      unfold dnAct
      go_wp2_with fail
      refine Calls.mono (doneOf 5 2 u) ?_
      rintro e u2 ⟨rfl, hb2⟩
      go_wp2
      refine ⟨rfl, hK _ _ trivial (dnI_step hb hV hb2 (v := .agg #[.int .i64 5, .int .i64 2, .int .i64 0, .slice none 0 0, .slice none 0 0, .int .i64 0, .int .i64 0]) rfl ?_)⟩
      simp [dnAct, e11]
    · refine ⟨_, rfl, fun K hK => ?_⟩
      unfold dnAct
      go_wp2
      refine ⟨rfl, hK _ _ trivial (dnI_step hb hV (below_alloc _ (.cells #[.int .i64 3] 3)) (v := .slice (some ⟨u.heap.size, 0, none⟩) 1 1) ⟨u.heap.size, rfl, heap_alloc_new _ _⟩ ?_)⟩
      simp [dnAct]
    · refine ⟨_, rfl, fun K hK => ?_⟩
      unfold dnAct
      go_wp2
      refine ⟨rfl, hK _ _ trivial (dnI_step hb hV (below_alloc _ (.cells #[.int .i64 0] 3)) (v := .slice (some ⟨u.heap.size, 0, none⟩) 1 1) ⟨u.heap.size, rfl, heap_alloc_new _ _⟩ ?_)⟩
      simp [dnAct]
    · refine ⟨_, rfl, fun K hK => ?_⟩
      obtain ⟨g2, e13, hg2⟩ := hV 13 (by omega) (hd 13 (of_decide_eq_true (by kernel_rfl)))
      obtain ⟨g3, e14, hg3⟩ := hV 14 (by omega) (hd 14 (of_decide_eq_true (by kernel_rfl)))
      unfold dnAct
      go_wp2
      refine ⟨rfl, hK _ _ trivial (dnI_step hb hV (Below.refl _ _) (v := .agg #[.int .i64 1, .int .i64 0, .int .i64 0, .slice (some ⟨g2, 0, none⟩) 1 1, .slice (some ⟨g3, 0, none⟩) 1 1, .int .i64 1, .int .i64 1]) ⟨g2, g3, rfl, hg2, hg3⟩ ?_)⟩
      simp [dnAct, e13, e14]
    · refine ⟨_, rfl, fun K hK => ?_⟩
      unfold dnAct
      go_wp2
      refine ⟨rfl, hK _ _ trivial (dnI_step hb hV (Below.refl _ _) (v := .func (.func 32) #[] #[]) rfl ?_)⟩
      simp [dnAct]
    · refine ⟨_, rfl, fun K hK => ?_⟩
      have e16 : X 16 = _ := hV 16 (by omega) (hd 16 (of_decide_eq_true (by kernel_rfl)))
      unfold dnAct
      go_wp2_with fail
      refine Calls.mono (doneOf 7 0 u) ?_
      rintro e u2 ⟨rfl, hb2⟩
      go_wp2
      refine ⟨rfl, hK _ _ trivial (dnI_step hb hV hb2 (v := .agg #[.int .i64 7, .int .i64 0, .int .i64 0, .slice none 0 0, .slice none 0 0, .int .i64 0, .int .i64 0]) rfl ?_)⟩
      simp [dnAct, e16]
    · refine ⟨_, rfl, fun K hK => ?_⟩
      unfold dnAct
      go_wp2
      refine ⟨rfl, hK _ _ trivial (dnI_step hb hV (Below.refl _ _) (v := .func (.func 32) #[] #[]) rfl ?_)⟩
      simp [dnAct]
    · refine ⟨_, rfl, fun K hK => ?_⟩
      have e18 : X 18 = _ := hV 18 (by omega) (hd 18 (of_decide_eq_true (by kernel_rfl)))
      unfold dnAct
      go_wp2_with fail
      refine Calls.mono (doneOf 7 1 u) ?_
      rintro e u2 ⟨rfl, hb2⟩
      go_wp2
      refine ⟨rfl, hK _ _ trivial (dnI_step hb hV hb2 (v := .agg #[.int .i64 7, .int .i64 1, .int .i64 0, .slice none 0 0, .slice none 0 0, .int .i64 0, .int .i64 0]) rfl ?_)⟩
      simp [dnAct, e18]
    · refine ⟨_, rfl, fun K hK => ?_⟩
      unfold dnAct
      go_wp2
      refine ⟨rfl, hK _ _ trivial (dnI_step hb hV (Below.refl _ _) (v := .func (.func 32) #[] #[]) rfl ?_)⟩
      simp [dnAct]
    · refine ⟨_, rfl, fun K hK => ?_⟩
      have e20 : X 20 = _ := hV 20 (by omega) (hd 20 (of_decide_eq_true (by kernel_rfl)))
      unfold dnAct
      go_wp2_with fail
      refine Calls.mono (doneOf 4 1 u) ?_
      rintro e u2 ⟨rfl, hb2⟩
      go_wp2
      refine ⟨rfl, hK _ _ trivial (dnI_step hb hV hb2 (v := .agg #[.int .i64 4, .int .i64 1, .int .i64 0, .slice none 0 0, .slice none 0 0, .int .i64 0, .int .i64 0]) rfl ?_)⟩
      simp [dnAct, e20]
    · refine ⟨_, rfl, fun K hK => ?_⟩
      obtain ⟨g1, e2, hg1⟩ := hV 2 (by omega) (hd 2 (of_decide_eq_true (by kernel_rfl)))
      have e4 : X 4 = _ := hV 4 (by omega) (hd 4 (of_decide_eq_true (by kernel_rfl)))
      have e6 : X 6 = _ := hV 6 (by omega) (hd 6 (of_decide_eq_true (by kernel_rfl)))
      have e8 : X 8 = _ := hV 8 (by omega) (hd 8 (of_decide_eq_true (by kernel_rfl)))
      have e10 : X 10 = _ := hV 10 (by omega) (hd 10 (of_decide_eq_true (by kernel_rfl)))
      have e12 : X 12 = _ := hV 12 (by omega) (hd 12 (of_decide_eq_true (by kernel_rfl)))
      obtain ⟨g2, g3, e15, hg2, hg3⟩ := hV 15 (by omega) (hd 15 (of_decide_eq_true (by kernel_rfl)))
      have e17 : X 17 = _ := hV 17 (by omega) (hd 17 (of_decide_eq_true (by kernel_rfl)))
      have e19 : X 19 = _ := hV 19 (by omega) (hd 19 (of_decide_eq_true (by kernel_rfl)))
      have e21 : X 21 = _ := hV 21 (by omega) (hd 21 (of_decide_eq_true (by kernel_rfl)))
      unfold dnAct
      go_wp2
      refine ⟨rfl, hK _ _ trivial (dnI_step hb hV (below_alloc _ (.cells (dnCells g1 g2 g3) 30)) (v := .slice (some ⟨u.heap.size, 0, none⟩) 10 10) ⟨u.heap.size, g1, g2, g3, rfl, heap_alloc_new _ _, stayB hg1 (below_alloc _ _), stayB hg2 (below_alloc _ _), stayB hg3 (below_alloc _ _)⟩ ?_)⟩
      simp [dnAct, e2, e4, e6, e8, e10, e12, e15, e17, e19, e21]
  · intro s a u hI hs
    obtain ⟨X, rfl, hb, hV⟩ := hI
    have e0 : X 0 = _ := hV 0 (by omega) (hs 0 (by omega))
    obtain ⟨g, g1, g2, g3, e22, hg, hg1, hg2, hg3⟩ := hV 22 (by omega) (hs 22 (by omega))
    have CR := hid (HWo.out.run _ 0 PV noB _ 3 KV UV (freshP dnX) (.slice (some ⟨g, 0, none⟩) 10 10) 10 (dnDV g1 g2) (dnQV g3) dnH u (A2.out.2.1.up hb) (A2.out.2.2.up hb) (dn_slice hg hg1 hg2 hg3))
    rw [dn_list, show (⟨0, noB, 3, freshP dnX⟩ : Ms) = dnM from rfl, dn_run, dn_said] at CR
    unfold meshV at CR
    have HB := hid hb
    have M2 := hid (stayB A2.out.1 hb)
    refine anyM_pick [23] (by kernel_rfl) (by decide) ?_
    intro i hi
    obtain rfl : i = 23 := by simpa using hi
    refine ⟨_, rfl, fun K hK => ?_⟩
    clear hV hs hi hb hg hg1 hg2 hg3
    unfold dnAct
    go_wp2_with fail
    refine Calls.mono CR.out ?_
    rintro e u2 ⟨hb2, vb, vl, vo, n', np', k', PV2, KV2, UV2, rfl, hn2, hp2, hk2, hv2, hl2, ho2⟩
    rw [if_pos rfl] at hn2 hp2 hk2
    obtain ⟨q1, q2, q3, q4, q5, q6, q7⟩ := dn_end
    rw [q1] at hn2
    rw [q2] at hp2
    subst hn2 hp2
    have hk2' : k' = 10 := hk2
    subst hk2'
    have HV2 := hid hv2
    have HL2 := hid hl2
    have HO2 := hid ho2
    obtain ⟨ab2, cb2, rfl, z1, z2⟩ := hv2
    clear z1 z2
    obtain ⟨al2, cl2, rfl, z1, z2⟩ := hl2
    clear z1 z2
    obtain ⟨ao2, co2, rfl, z1, z2⟩ := ho2
    clear z1 z2 CR e22
    have M3 := hid (stayB M2.out hb2)
    have HB3 := hid (HB.out.trans (hb2.mono HB.out.size))
    clear hb2
    unfold meshV
    go_wp2
    refine ⟨rfl, hK _ _ trivial ?_⟩
    clear hK K
    have hne : Nonempty (Of (fun _ : World => True)) := ⟨⟨u2, trivial⟩⟩
    refine anyM_reads [24, 25, 26, 27] (by kernel_rfl) trivial (by rfl) (by kernel_rfl) (by kernel_rfl) (by simp only [pickO, List.getElem?_cons_zero, List.getElem?_cons_succ]; exact rfl) ?_
    repeat (go_big_quiet_step (fail))
    refine wpQuiet_nil ?_
    refine anyM_pick [28] (by kernel_rfl) (by decide) ?_
    intro i hi
    obtain rfl : i = 28 := by simpa using hi
    refine ⟨_, rfl, fun K hK => ?_⟩
    obtain ⟨m0, m1⟩ := two_at M3.out
    have f0 := frozen_at (i := 0) M3.out
    have f1 := frozen_at (i := 1) M3.out
    go_wp2
    refine ⟨rfl, hK _ _ trivial ?_⟩
    clear hK K
    refine anyM_reads [29, 30] (by kernel_rfl) trivial (by rfl) (by kernel_rfl) (by kernel_rfl) (by simp only [pickO, List.getElem?_cons_zero, List.getElem?_cons_succ]; exact rfl) ?_
    repeat (go_big_quiet_step (fail))
    refine wpQuiet_nil ?_
    refine anyM_end (by kernel_rfl) ?_
    have hY := put2_whole M3.out (.slice ab2 2 cb2) (.slice al2 3 cl2)
    have hVY := ve_put2 (a2 := ab2) (n2 := 2) (c2 := cb2) M3.out HV2.out (.slice al2 3 cl2)
    have hLY := ps_put2 M3.out HL2.out (.slice ab2 2 cb2) (.slice al2 3 cl2)
    have hgmW : w.heap.size ≤ gm := by rw [← hgm]; exact hgw
    have hBY : Below w.heap.size w (put2 u2 gm (.slice ab2 2 cb2) (.slice al2 3 cl2)) := put2_below (B2.out.trans (HB3.out.mono B2.out.size)) hgmW
    have hOY : IntSl (put2 u2 gm (.slice ab2 2 cb2) (.slice al2 3 cl2)) (put2 u2 gm (.slice ab2 2 cb2) (.slice al2 3 cl2)).heap.size (.slice ao2 10 co2) 10 (fun j => ([0, 0, 6, 0, 0, 0, 0, 6, 0, 0] : List Int).getD j 0) := by
      have h9 := isl_put2D M3.out HO2.out (.slice ab2 2 cb2) (.slice al2 3 cl2)
      exact h9
    obtain ⟨Y, hYe⟩ : ∃ Y, put2 u2 gm (.slice ab2 2 cb2) (.slice al2 3 cl2) = Y := ⟨_, rfl⟩
    have hYw : (u2.setCell ⟨gm, 0, none⟩ (.slice ab2 2 cb2)).setCell ⟨gm, 1, none⟩ (.slice al2 3 cl2) = Y := hYe
    rw [hYe] at hY hVY hLY hBY hOY
    have hbE := below_alloc Y (.cells #[.int .i64 0, .int .i64 0, .int .i64 6, .int .i64 0, .int .i64 0, .int .i64 0, .int .i64 0, .int .i64 6, .int .i64 0, .int .i64 0] 31)
    have kE := heap_alloc_new Y (.cells #[.int .i64 0, .int .i64 0, .int .i64 6, .int .i64 0, .int .i64 0, .int .i64 0, .int .i64 0, .int .i64 6, .int .i64 0, .int .i64 0] 31)
    obtain ⟨YE, hYE⟩ : ∃ y, Y.alloc (.cells #[.int .i64 0, .int .i64 0, .int .i64 6, .int .i64 0, .int .i64 0, .int .i64 0, .int .i64 0, .int .i64 6, .int .i64 0, .int .i64 0] 31) = y := ⟨_, rfl⟩
    rw [hYE] at hbE kE
    have E := hid (equal_errs (hOY.up hbE) (isl_ten kE))
    have hE9 : ∀ F : Nat → Int, eqB 10 10 F F = true := fun F => decide_eq_true ⟨rfl, fun _ _ => rfl⟩
    rw [hE9] at E
    clear hE9
    have HY := hid (stayB hY hbE)
    have HLY := hid (hLY.up hbE)
    have HBY := hid (hBY.trans (hbE.mono hBY.size))
    have HQ := hid (⟨q3, q4, q5, q6, q7⟩ : _ ∧ _ ∧ _ ∧ _ ∧ _)
    clear hY hVY hLY hBY hOY hbE kE q1 q2 q3 q4 q5 q6 q7 m0 m1 f0 f1 hne hYe
    rw [hYw]
    clear hYw
    go_wp2_with fail
    refine Calls.mono E.out ?_
    rintro e Y2 ⟨rfl, hb9⟩
    obtain ⟨q3, q4, q5, q6, q7⟩ := HQ.out
    have HL9 := HLY.out.up hb9
    obtain ⟨d0, d1⟩ := two_at (stayB HY.out hb9)
    have HB9 := hid (HBY.out.trans (hb9.mono HBY.out.size))
    obtain ⟨bl, off, rfl, hbl, _, _, p02, k0⟩ := HL9.at (i := 0) (by omega)
    obtain ⟨bl1, off1, e1, _, _, _, p12, k1⟩ := HL9.at (i := 1) (by omega)
    obtain ⟨bl2, off2, e2, _, _, _, p22, k2⟩ := HL9.at (i := 2) (by omega)
    injection e1 with e1
    injection e1 with e11 e12
    subst e11 e12
    injection e2 with e2
    injection e2 with e21 e22
    subst e21 e22
    obtain ⟨a0, c0, hk0, _, _⟩ := k0
    obtain ⟨a1, c1, hk1, _, _⟩ := k1
    obtain ⟨a2, c2, hk2, _, hr2⟩ := k2
    rw [hk0, q4] at p02
    rw [hk1, q3] at p12
    rw [hk2] at p22
    rcases hr2 with h9 | ⟨bk, ok, rfl, hbk, hr2⟩
    · omega
    obtain ⟨_, _, x2, x3⟩ := hr2 0 (by omega)
    obtain ⟨au, cu, hue, _, hu⟩ := x3
    rw [hue] at x2
    rcases hu with h9 | ⟨bu, ou, rfl, hbu, hu⟩
    · omega
    have x9 := hu 0 (by omega)
    rw [q7, Nat.add_zero] at x9
    obtain ⟨m2, hm2⟩ : ∃ m, (runM dnM dnL).P.m 2 = m := ⟨_, rfl⟩
    obtain ⟨l2, hl2e⟩ : ∃ l, ((runM dnM dnL).P.t 2).L 0 = l := ⟨_, rfl⟩
    rw [hm2] at p22 q5
    rw [hl2e] at x2 q6
    have hm2i : (0 : Int) < (m2 : Int) := by omega
    have hl2i : (0 : Int) < (l2 : Int) := by omega
    clear hb9 HL9 hk0 hk1 hk2 hr2 hue hu hm2 hl2e E
    go_wp2
    go_ret
    exact ⟨rfl, HB9.out⟩

end Go.Proofs.YtalaobfmnacikaaGreat

namespace Go.Proofs.YtalaobfmnacikaaGreat

open Go.RowKit
set_option linter.unusedVariables false

def CRow (w : World) (g : Nat) (T : TypeId) (sz k : Nat) (C : Nat → Value) : Prop :=
  ∃ cs : Array Value, w.heap[g]? = some (.cells cs T (0, 0)) ∧ cs.size = sz ∧ ∀ i, i < k → cs[i]? = some (C i)

section

variable {w w' : World} {g : Nat} {T : TypeId} {sz k : Nat} {C : Nat → Value}

theorem CRow.lt (h : CRow w g T sz k C) : g < w.heap.size := by
  obtain ⟨cs, h1, _⟩ := h
  exact (Array.getElem?_eq_some_iff.1 h1).1

theorem CRow.up (h : CRow w g T sz k C) (hb : Below w.heap.size w w') : CRow w' g T sz k C := by
  obtain ⟨cs, h1, h2⟩ := h
  exact ⟨cs, stayB h1 hb, h2⟩

theorem CRow.below {B : Nat} (h : CRow w g T sz k C) (hb : Below B w w') (hg : g < B) : CRow w' g T sz k C := by
  obtain ⟨cs, h1, h2⟩ := h
  exact ⟨cs, by rw [hb.block _ hg]; exact h1, h2⟩

theorem CRow.room (h : CRow w g T sz k C) {i : Nat} (hi : i < sz) : (∃ u, w.cell? ⟨g, i, none⟩ = some u) ∧ w.frozen? ⟨g, i, none⟩ = false := by
  obtain ⟨cs, h1, h2, h3⟩ := h
  exact ⟨⟨cs[i]'(by omega), cell_at h1 (by simp [show i < cs.size by omega])⟩, frozen_at h1⟩

theorem CRow.free (h : CRow w g T sz k C) (i : Nat) : w.frozen? ⟨g, i, none⟩ = false := by
  obtain ⟨cs, h1, h2, h3⟩ := h
  exact frozen_at h1

theorem CRow.cell (h : CRow w g T sz k C) {i : Nat} (hi : i < k) : w.cell? ⟨g, i, none⟩ = some (C i) := by
  obtain ⟨cs, h1, h2, h3⟩ := h
  exact cell_at h1 (h3 i hi)

theorem CRow.put (h : CRow w g T sz k C) (hk : k < sz) {u : Value} (hu : u = C k) : CRow (w.setCell ⟨g, k, none⟩ u) g T sz (k + 1) C := by
  obtain ⟨cs, h1, h2, h3⟩ := h
  refine ⟨cs.setIfInBounds k u, by simp [World.setCell, Array.getElem?_modify, h1], by simpa using h2, fun i hi => ?_⟩
  rw [Array.getElem?_setIfInBounds]
  by_cases e : k = i
  · subst e
    rw [if_pos rfl, if_pos (by omega), hu]
  · rw [if_neg e]
    exact h3 i (by omega)

theorem CRow.other (h : CRow w g T sz k C) {g' o : Nat} (hg : g ≠ g') (u : Value) : CRow (w.setCell ⟨g', o, none⟩ u) g T sz k C := by
  obtain ⟨cs, h1, h2⟩ := h
  exact ⟨cs, by rw [Below.heap_setCell _ _ _ _ (by show g ≠ g'; exact hg)]; exact h1, h2⟩

theorem CRow.congr (h : CRow w g T sz k C) {C' : Nat → Value} (e : ∀ i, i < k → C i = C' i) : CRow w g T sz k C' := by
  obtain ⟨cs, h1, h2, h3⟩ := h
  exact ⟨cs, h1, h2, fun i hi => by rw [h3 i hi, e i hi]⟩

theorem CRow.made {B n size : Nat} {z : Value} (ho : w.ownsRow B T size (.slice (some ⟨g, 0, none⟩) n n) n (madeCells z.cells (n * size)).toList) (C : Nat → Value) : CRow w g T (n * size) 0 C := by
  obtain ⟨hl, h2⟩ := ho
  rcases h2 with ⟨h1, _⟩ | ⟨g', cap, cur, hv, _, hh, hc1, hc2, hsz, hcur⟩
  · cases h1
  · injection hv with e1 _ e3
    injection e1 with e1
    injection e1 with e1
    subst e1 e3
    exact ⟨cur, hh, hsz, fun i hi => by omega⟩

theorem CRow.three (h : CRow w g T sz (k * 3) C) (hk : k * 3 + 3 ≤ sz) {u0 u1 u2 : Value} (e0 : u0 = C (k * 3)) (e1 : u1 = C (k * 3 + 1)) (e2 : u2 = C (k * 3 + 2)) : CRow (((w.setCell ⟨g, k * 3, none⟩ u0).setCell ⟨g, k * 3 + 1, none⟩ u1).setCell ⟨g, k * 3 + 2, none⟩ u2) g T sz ((k + 1) * 3) C := by
  have h1 := ((h.put (by omega) e0).put (by omega) e1).put (by omega) e2
  rw [show (k + 1) * 3 = k * 3 + 1 + 1 + 1 by omega]
  exact h1

end

def cellP (KV : Nat → Value) (P : Ps) (i : Nat) : Value := if i % 3 = 0 then .bool (P.th (i / 3)) else if i % 3 = 1 then .int .i64 (P.rm (i / 3)) else KV (i / 3)
def cellK (UV : Nat → Value) (t : Kt) (i : Nat) : Value := if i % 3 = 0 then .int .i64 (t.V (i / 3)) else if i % 3 = 1 then .int .i64 (t.N (i / 3)) else UV (i / 3)

section

variable {KV : Nat → Value} {P : Ps} {UV PV : Nat → Value} {t : Kt} {b : Bk} {k : Nat}

theorem cellP_at : cellP KV P (k * 3) = .bool (P.th k) ∧ cellP KV P (k * 3 + 1) = .int .i64 (P.rm k) ∧ cellP KV P (k * 3 + 2) = KV k := by
  unfold cellP
  refine ⟨?_, ?_, ?_⟩
  · rw [if_pos (by omega), show k * 3 / 3 = k by omega]
  · rw [if_neg (by omega), if_pos (by omega), show (k * 3 + 1) / 3 = k by omega]
  · rw [if_neg (by omega), if_neg (by omega), show (k * 3 + 2) / 3 = k by omega]

theorem cellK_at : cellK UV t (k * 3) = .int .i64 (t.V k) ∧ cellK UV t (k * 3 + 1) = .int .i64 (t.N k) ∧ cellK UV t (k * 3 + 2) = UV k := by
  unfold cellK
  refine ⟨?_, ?_, ?_⟩
  · rw [if_pos (by omega), show k * 3 / 3 = k by omega]
  · rw [if_neg (by omega), if_pos (by omega), show (k * 3 + 1) / 3 = k by omega]
  · rw [if_neg (by omega), if_neg (by omega), show (k * 3 + 2) / 3 = k by omega]

theorem cellP_cong {KV' : Nat → Value} (h : ∀ j, j < k → KV j = KV' j) : ∀ i, i < k * 3 → cellP KV P i = cellP KV' P i := fun i hi => by
  unfold cellP
  rw [h (i / 3) (by omega)]

theorem cellK_cong {UV' : Nat → Value} (h : ∀ j, j < k → UV j = UV' j) : ∀ i, i < k * 3 → cellK UV t i = cellK UV' t i := fun i hi => by
  unfold cellK
  rw [h (i / 3) (by omega)]

end

section

variable {w : World} {g n m : Nat} {KV : Nat → Value} {P : Ps} {UV PV : Nat → Value} {t : Kt} {b : Bk}

theorem CRow.rowP {sz : Nat} (h : CRow w g 41 sz (n * 3) (cellP KV P)) : RowP w g n KV P :=
  ⟨fun k hk => by
    obtain ⟨e0, e1, e2⟩ := cellP_at (KV := KV) (P := P) (k := k)
    exact ⟨by rw [h.cell (by omega), e0], by rw [h.cell (by omega), e1], by rw [h.cell (by omega), e2]⟩, fun i _ => h.free i, h.lt⟩

theorem CRow.kel {sz : Nat} (h : CRow w g 65 sz (m * 3) (cellK UV t)) (hr : m * 40 ≤ 140737488351232) (hi : ∀ j, j < m → IntSl w w.heap.size (UV j) (t.L j) (t.X j)) : KeSl w w.heap.size (.slice (some ⟨g, 0, none⟩) m m) m UV t := by
  refine ⟨_, _, rfl, ⟨Nat.le_refl _, hr⟩, Or.inr ⟨g, 0, rfl, h.lt, fun j hj => ?_⟩⟩
  obtain ⟨e0, e1, e2⟩ := cellK_at (UV := UV) (t := t) (k := j)
  rw [Nat.zero_add]
  exact ⟨by rw [h.cell (by omega), e0], by rw [h.cell (by omega), e1], by rw [h.cell (by omega), e2], hi j hj⟩

theorem CRow.newV {T : TypeId} {sz k n c : Nat} {C : Nat → Value} {B : Nat} (h : CRow w g T sz k C) (hB : B ≤ g) : NewV B w (.slice (some ⟨g, 0, none⟩) n c) := by
  obtain ⟨cs, h1, _⟩ := h
  exact newV_block h1 hB

theorem KeSl.ahead {w : World} {g o B : Nat} {v : Value} {m : Nat} {UV : Nat → Value} {t : Kt} (h : KeSl w B v m UV t) (ha : Above (g + 1) v) (hu : ∀ j, j < m → Above (g + 1) (UV j)) (u : Value) : KeSl (w.setCell ⟨g, o, none⟩ u) B v m UV t := by
  obtain ⟨ad, cap, rfl, h0, h2⟩ := h
  refine ⟨ad, cap, rfl, h0, ?_⟩
  rcases h2 with h2 | ⟨bl, off, rfl, h4, h5⟩
  · exact Or.inl h2
  · have hg : g + 1 ≤ bl := ha _ _ _ rfl
    refine Or.inr ⟨bl, off, rfl, h4, fun j hj => ?_⟩
    obtain ⟨g1, g2, g3, g4⟩ := h5 j hj
    exact ⟨by rw [cell_set_lit (Or.inl (by omega))]; exact g1, by rw [cell_set_lit (Or.inl (by omega))]; exact g2, by rw [cell_set_lit (Or.inl (by omega))]; exact g3, g4.set (hu j hj) o u⟩

theorem VeSl.ahead {w : World} {g gv o B : Nat} {n c : Nat} {PV : Nat → Value} {b : Bk} (h : VeSl w B (.slice (some ⟨gv, 0, none⟩) n c) n PV b) (hg : gv ≠ g) (hu : ∀ j, j < n → Above (g + 1) (PV j)) (u : Value) : VeSl (w.setCell ⟨g, o, none⟩ u) B (.slice (some ⟨gv, 0, none⟩) n c) n PV b := by
  obtain ⟨ad, cap, e, h0, h2⟩ := h
  injection e with e1 _ e3
  subst e1 e3
  refine ⟨_, _, rfl, h0, ?_⟩
  rcases h2 with h2 | ⟨bl, off, e, h4, h5⟩
  · exact Or.inl h2
  · injection e with e
    injection e with e5 e6
    subst e5 e6
    refine Or.inr ⟨_, _, rfl, h4, fun j hj => ?_⟩
    obtain ⟨x0, x1, x2, x3, x4⟩ := h5 j hj
    exact ⟨by rw [cell_set_lit (Or.inl hg)]; exact x0, by rw [cell_set_lit (Or.inl hg)]; exact x1, by rw [cell_set_lit (Or.inl hg)]; exact x2, by rw [cell_set_lit (Or.inl hg)]; exact x3, x4.set (hu j hj) o u⟩

def NewB (B C : Nat) (w : World) (v : Value) : Prop := ∀ ad n c, v = .slice (some ad) n c → B ≤ ad.block ∧ ad.block < C ∧ ∀ i, w.frozen? ⟨ad.block, i, none⟩ = false

theorem NewB.below {B C : Nat} {w w' : World} {v : Value} (h : NewB B C w v) (hb : Below C w w') : NewB B C w' v := fun ad n c e => by
  obtain ⟨h1, h2, h3⟩ := h ad n c e
  exact ⟨h1, h2, fun i => by rw [← h3 i]; exact World.frozen?_of_block (hb.block _ h2)⟩
theorem NewB.mono {B C C' : Nat} {w : World} {v : Value} (h : NewB B C w v) (hc : C ≤ C') : NewB B C' w v := fun ad n c e => by
  obtain ⟨h1, h2, h3⟩ := h ad n c e
  exact ⟨h1, by omega, h3⟩
theorem NewB.set {B C : Nat} {w : World} {v : Value} (h : NewB B C w v) (a : Addr) (u : Value) : NewB B C (w.setCell a u) v := fun ad n c e => by
  obtain ⟨h1, h2, h3⟩ := h ad n c e
  exact ⟨h1, h2, fun i => by rw [frozen_setN]; exact h3 i⟩
theorem NewB.above {B C : Nat} {w : World} {v : Value} (h : NewB B C w v) : Above B v := fun ad n c e => (h ad n c e).1
theorem NewB.newV {B B' C : Nat} {w : World} {v : Value} (h : NewB B C w v) (hc : C ≤ w.heap.size) (hb : B' ≤ B) : NewV B' w v := fun ad n c e => by
  obtain ⟨h1, h2, h3⟩ := h ad n c e
  exact ⟨by omega, by omega, h3⟩
theorem NewV.newB {B : Nat} {w : World} {v : Value} (h : NewV B w v) : NewB B w.heap.size w v := fun ad n c e => h ad n c e

end

end Go.Proofs.YtalaobfmnacikaaGreat

namespace Go.Proofs.YtalaobfmnacikaaGreat

set_option linter.unusedVariables false

variable {P : Program} {D : World → Prop}

theorem anyL_mono {md : Region.Mode} {ops : Array Oper} {sE : Array Bool} {R R' : Act → World → Prop} (hR : ∀ a w, R a w → R' a w) : ∀ (f : Nat) (seen : Array Bool) (a : Act) (w : World), anyL P md ops D sE R f seen a w → anyL P md ops D sE R' f seen a w := by
  intro f
  induction f with
  | zero => intro seen a w h; exact ⟨h.1, hR _ _ h.2⟩
  | succ f ih => intro seen a w h; exact ⟨h.1, fun i hi => wpOp_ends (fun a' w' h' => ⟨h'.1, ih _ a' w' h'.2⟩) (h.2 i hi)⟩

theorem region_tree_to {id : Nat} {Q : Exit → Act → World → Prop} {a : Act} {w : World} {l lc : List Oper} (D : World → Prop) (c : Nat) (sE : Array Bool) (f : Nat) (R : Act → World → Prop) (hm : P.follows .mixedOrders = true) (hE : Region.ready .any l.toArray sE = [c]) (hE2 : Region.ready .any l.toArray (sE.setIfInBounds c true) = []) (hf : f + 1 = l.length) (hc : pickO l [c] = lc) (hcs : (l[c]?).isSome = true)
    (h : anyL P .any l.toArray D sE R f (Array.replicate l.length false) a w.drew) (hR : ∀ a' w', R a' w' → wpList P l.toArray Q lc a' w') : (Code.region id l.toArray true).wp P Q a w :=
  region_tree_last D c sE f hm hE hE2 hf hc hcs (anyL_mono hR _ _ _ _ h)

end Go.Proofs.YtalaobfmnacikaaGreat
