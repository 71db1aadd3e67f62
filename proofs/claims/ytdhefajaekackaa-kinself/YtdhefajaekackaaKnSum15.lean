/- Several texts of one proof, in their order. -/
import Derived.Test.YtdhefajaekackaaKnSum14
import Derived.Test.YtdhefajaekackaaKnSum12
import Derived.Test.YtdhefajaekackaaKnSum7

/- The closed fact that chapter 5's laws ask first: this family. -/
namespace Go.Proofs.Ytdhefajaekackaa

open Go.RowKit
set_option linter.unusedVariables false

/-- the family -/
def famB : Bk := ⟨fun j => [0, 1, 1, 2, 1].getD j 0, fun j i => ([[], [0], [0], [1, 2], [2]].getD j []).getD i 0, fun _ => 1, fun _ => 1, fun _ => 1⟩

theorem heap_if (w : World) (o : Obj) (i : Nat) : (w.alloc o).heap[i]? = if i = w.heap.size then some o else w.heap[i]? := by
  simp only [World.alloc, Array.getElem?_push]

/-- the lists of parents, as values -/
def famP (s j : Nat) : Value := [.slice none 0 0, .slice (some ⟨s + 1 + 1, 0, none⟩) 1 1, .slice (some ⟨s + 1 + 1 + 1, 0, none⟩) 1 1, .slice (some ⟨s + 1 + 1 + 1 + 1, 0, none⟩) 2 2, .slice (some ⟨s + 1 + 1 + 1 + 1 + 1, 0, none⟩) 1 1].getD j undef

/-- the family's memory -/
def famW (w : World) : World :=
  ((((((w.alloc (.cells #[.slice (some ⟨w.heap.size + 1 + 1 + 1 + 1 + 1 + 1, 0, none⟩) 5 5] 24)).alloc (.cells #[.int .i64 1, .int .i64 1, .int .i64 1] 27)).alloc (.cells #[.int .i64 0] 3)).alloc (.cells #[.int .i64 0] 3)).alloc (.cells #[.int .i64 1, .int .i64 2] 3)).alloc (.cells #[.int .i64 2] 3)).alloc
    (.cells #[.slice none 0 0, .int .i64 1, .int .i64 1, .int .i64 1, .slice (some ⟨w.heap.size + 1 + 1, 0, none⟩) 1 1, .int .i64 1, .int .i64 1, .int .i64 1, .slice (some ⟨w.heap.size + 1 + 1 + 1, 0, none⟩) 1 1, .int .i64 1, .int .i64 1, .int .i64 1, .slice (some ⟨w.heap.size + 1 + 1 + 1 + 1, 0, none⟩) 2 2, .int .i64 1, .int .i64 1, .int .i64 1, .slice (some ⟨w.heap.size + 1 + 1 + 1 + 1 + 1, 0, none⟩) 1 1, .int .i64 1, .int .i64 1, .int .i64 1] 29)

theorem famW_below (w : World) : Below w.heap.size w (famW w) := by
  unfold famW
  refine ((((((Below.refl w.heap.size w).alloc (Nat.le_refl _) _).alloc ?_ _).alloc ?_ _).alloc ?_ _).alloc ?_ _).alloc ?_ _ |>.alloc ?_ _ <;> simp <;> omega

theorem famW_at (w : World) : (famW w).heap[w.heap.size]? = some (.cells #[.slice (some ⟨w.heap.size + 1 + 1 + 1 + 1 + 1 + 1, 0, none⟩) 5 5] 24 (0, 0)) ∧
    (famW w).heap[w.heap.size + 1 + 1]? = some (.cells #[.int .i64 0] 3 (0, 0)) ∧ (famW w).heap[w.heap.size + 1 + 1 + 1]? = some (.cells #[.int .i64 0] 3 (0, 0)) ∧
    (famW w).heap[w.heap.size + 1 + 1 + 1 + 1]? = some (.cells #[.int .i64 1, .int .i64 2] 3 (0, 0)) ∧ (famW w).heap[w.heap.size + 1 + 1 + 1 + 1 + 1]? = some (.cells #[.int .i64 2] 3 (0, 0)) ∧
    (famW w).heap[w.heap.size + 1 + 1 + 1 + 1 + 1 + 1]? = some (.cells #[.slice none 0 0, .int .i64 1, .int .i64 1, .int .i64 1, .slice (some ⟨w.heap.size + 1 + 1, 0, none⟩) 1 1, .int .i64 1, .int .i64 1, .int .i64 1, .slice (some ⟨w.heap.size + 1 + 1 + 1, 0, none⟩) 1 1, .int .i64 1, .int .i64 1, .int .i64 1, .slice (some ⟨w.heap.size + 1 + 1 + 1 + 1, 0, none⟩) 2 2, .int .i64 1, .int .i64 1, .int .i64 1, .slice (some ⟨w.heap.size + 1 + 1 + 1 + 1 + 1, 0, none⟩) 1 1, .int .i64 1, .int .i64 1, .int .i64 1] 29 (0, 0)) := by
  unfold famW
  refine ⟨?_, ?_, ?_, ?_, ?_, ?_⟩
  · rw [heap_if, if_neg (by simp <;> omega), heap_if, if_neg (by simp <;> omega), heap_if, if_neg (by simp <;> omega), heap_if, if_neg (by simp <;> omega), heap_if, if_neg (by simp <;> omega), heap_if, if_neg (by simp <;> omega), heap_if, if_pos (by simp)]
  · rw [heap_if, if_neg (by simp <;> omega), heap_if, if_neg (by simp <;> omega), heap_if, if_neg (by simp <;> omega), heap_if, if_neg (by simp <;> omega), heap_if, if_pos (by simp)]
  · rw [heap_if, if_neg (by simp <;> omega), heap_if, if_neg (by simp <;> omega), heap_if, if_neg (by simp <;> omega), heap_if, if_pos (by simp)]
  · rw [heap_if, if_neg (by simp <;> omega), heap_if, if_neg (by simp <;> omega), heap_if, if_pos (by simp)]
  · rw [heap_if, if_neg (by simp <;> omega), heap_if, if_pos (by simp)]
  · rw [heap_if, if_pos (by simp)]

theorem isl_lit1 {w : World} {g : Nat} {x : Int} {T : TypeId} (h : w.heap[g]? = some (.cells #[.int .i64 x] T (0, 0))) : IntSl w w.heap.size (.slice (some ⟨g, 0, none⟩) 1 1) 1 (fun i => [x].getD i 0) :=
  intSl_lit (l := [x]) h rfl (Array.getElem?_eq_some_iff.1 h).1 (by simp)

theorem isl_lit2 {w : World} {g : Nat} {x y : Int} {T : TypeId} (h : w.heap[g]? = some (.cells #[.int .i64 x, .int .i64 y] T (0, 0))) : IntSl w w.heap.size (.slice (some ⟨g, 0, none⟩) 2 2) 2 (fun i => [x, y].getD i 0) :=
  intSl_lit (l := [x, y]) h rfl (Array.getElem?_eq_some_iff.1 h).1 (by simp)

theorem famW_ve (w : World) : VeSl (famW w) (famW w).heap.size (.slice (some ⟨w.heap.size + 1 + 1 + 1 + 1 + 1 + 1, 0, none⟩) 5 5) 5 (famP w.heap.size) famB := by
  obtain ⟨h0, h1, h2, h3, h4, h5⟩ := famW_at w
  refine ⟨_, _, rfl, ⟨Nat.le_refl _, by omega⟩, Or.inr ⟨_, 0, rfl, (Array.getElem?_eq_some_iff.1 h5).1, fun j hj => ?_⟩⟩
  match j, hj with
  | 0, _ => exact ⟨cell_at h5 rfl, cell_at h5 rfl, cell_at h5 rfl, cell_at h5 rfl, none, 0, rfl, ⟨Nat.le_refl _, by decide⟩, Or.inl rfl⟩
  | 1, _ => exact ⟨cell_at h5 rfl, cell_at h5 rfl, cell_at h5 rfl, cell_at h5 rfl, isl_lit1 h1⟩
  | 2, _ => exact ⟨cell_at h5 rfl, cell_at h5 rfl, cell_at h5 rfl, cell_at h5 rfl, isl_lit1 h2⟩
  | 3, _ => exact ⟨cell_at h5 rfl, cell_at h5 rfl, cell_at h5 rfl, cell_at h5 rfl, isl_lit2 h3⟩
  | 4, _ => exact ⟨cell_at h5 rfl, cell_at h5 rfl, cell_at h5 rfl, cell_at h5 rfl, isl_lit1 h4⟩

set_option maxHeartbeats 1000000 in
theorem family_any (w : World) : Calls Try.prog 60 #[] w fun e w' => Below w.heap.size w w' ∧ ∃ bl PV, e = .returned (bookV (.slice (some ⟨bl, 0, none⟩) 5 5)) ∧ VeSl w' w'.heap.size (.slice (some ⟨bl, 0, none⟩) 5 5) 5 PV famB := by
  go_enter Try.func60, Try.ntmps60
  go_wp2
  refine bodyPost_ret (results_cell_row rfl _ (famW w) w.heap.size 24 #[.slice (some ⟨w.heap.size + 1 + 1 + 1 + 1 + 1 + 1, 0, none⟩) 5 5] (0, 0) _ rfl (famW_at w).1 Try.underlying24 rfl (by kernel_rfl)) rfl ?_
  exact ⟨famW_below w, _, _, rfl, famW_ve w⟩

end Go.Proofs.Ytdhefajaekackaa

/- What one more version changes, in plain words. Plain: it speaks of no program. -/
namespace Go.Proofs.Ytdhefajaekackaa

set_option linter.unusedVariables false

section

variable {n lp : Nat} {b : Bk} {X : Nat → Int} {nd of sz : Int}

theorem snoc_new : (snocB n b lp X nd of sz).PL n = lp ∧ (snocB n b lp X nd of sz).PX n = X := by simp [snocB]

/-- what the new version's parents are -/
theorem new_par (hE : Elder (n + 1) (snocB n b lp X nd of sz)) {i : Nat} (hi : i < lp) : 0 ≤ X i ∧ X i < (n : Int) := by
  have h := hE n (Nat.lt_succ_self _) i (by rw [snoc_new.1]; exact hi)
  rw [snoc_new.2] at h
  exact h

theorem bhL_rea (hE : Elder n b) {k : Nat} (hk : k < n) {p : Nat → Bool} (hp : ∀ x, x ≤ k → (p x = true ↔ Rea b k x)) : bhL b k = pickL p (k + 1) := by
  unfold bhL
  rw [behL_pick]
  refine pickL_congr fun x hx => ?_
  rw [Bool.eq_iff_iff, frm_iff hE (k + 1) k x (Nat.lt_succ_self _) hk]
  exact (hp x (by omega)).symm

theorem mem_bhL (hE : Elder n b) {k : Nat} (hk : k < n) {x : Int} : x ∈ bhL b k ↔ ∃ y : Nat, x = y ∧ Rea b k y := by
  unfold bhL
  rw [behL_pick, mem_pickL]
  constructor
  · rintro ⟨y, _, h2, e⟩
    exact ⟨y, e, (frm_iff hE (k + 1) k y (Nat.lt_succ_self _) hk).1 h2⟩
  · rintro ⟨y, e, h⟩
    exact ⟨y, by have := h.le hE hk; omega, (frm_iff hE (k + 1) k y (Nat.lt_succ_self _) hk).2 h, e⟩

end

theorem getD_mem {l : List Int} {x : Int} : hasB (fun j => l.getD j 0) l.length x = true ↔ x ∈ l := by
  rw [hasB_iff, List.mem_iff_getElem?]
  constructor
  · rintro ⟨j, hj, e⟩
    exact ⟨j, by rw [← e]; simp [List.getD_eq_getElem?_getD, hj]⟩
  · rintro ⟨j, e⟩
    have hj := (List.getElem?_eq_some_iff.1 e).1
    refine ⟨j, hj, ?_⟩
    show l.getD j 0 = x
    simp [List.getD_eq_getElem?_getD, e]

theorem pickL_rise (p : Nat → Bool) (j : Nat) : List.Pairwise (· < ·) (pickL p j) := by
  unfold pickL
  rw [List.pairwise_map]
  refine List.Pairwise.imp (fun h => ?_) (List.Pairwise.filter p List.pairwise_lt_range)
  omega

/-- one more of a set -/
theorem count_add (p : Nat → Bool) (x : Nat) (m : Nat) (hx : x < m) : ((List.range m).filter fun y => p y || decide (y = x)).length = if p x = true then ((List.range m).filter p).length else ((List.range m).filter p).length + 1 := by
  have key : ∀ m, ((List.range m).filter fun y => p y || decide (y = x)).length = ((List.range m).filter p).length + (if x < m ∧ p x = false then 1 else 0) := by
    intro m
    induction m with
    | zero => simp
    | succ m ih =>
      rw [List.range_succ, List.filter_append, List.filter_append, List.length_append, List.length_append, ih]
      by_cases e : m = x
      · subst e
        cases hp : p m with
        | true => simp [hp]
        | false => simp [hp]
      · cases hp : p m with
        | true =>
          cases hq : p x with
          | true => simp [hp]
          | false =>
            by_cases hl : x < m
            · simp [hp, hl, show x < m + 1 by omega]
            · simp [hp, hl, show ¬ x < m + 1 by omega]
        | false =>
          cases hq : p x with
          | true => simp [hp, e]
          | false =>
            by_cases hl : x < m
            · simp [hp, e, hl, show x < m + 1 by omega]
            · simp [hp, e, hl, show ¬ x < m + 1 by omega]
  rw [key m]
  cases hp : p x with
  | true => simp
  | false => simp [hx]

end Go.Proofs.Ytdhefajaekackaa
