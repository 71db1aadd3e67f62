/- Several texts of one proof, in their order. -/
import Derived.Test.YtdhefajaekackaaKnSum2
import Derived.Maps.AppendAt

/- A plan's error: what the reference answers, and what package share answers. -/
namespace Go.Proofs.Ytdhefajaekackaa

open Go.RowKit
set_option linter.unusedVariables false

theorem in_ok (n a b : Int) (h : a ≤ n ∧ n ≤ b) (w : World) :
    Calls Try.prog 83 #[.int .i64 n, .int .i64 a, .int .i64 b] w fun e w' => e = .returned (.bool true) ∧ w' = w := by
  have hd : decide (n ≤ b) = true := decide_eq_true h.2
  go_enter Try.func83, Try.ntmps83
  go_wp2
  go_ret
  exact ⟨rfl, rfl⟩

theorem in_any (n a b : Int) (w : World) :
    Calls Try.prog 83 #[.int .i64 n, .int .i64 a, .int .i64 b] w fun e w' => e = .returned (.bool (decide (a ≤ n ∧ n ≤ b))) ∧ w' = w := by
  by_cases h1 : a ≤ n
  · by_cases h2 : n ≤ b
    · rw [decide_eq_true ⟨h1, h2⟩]
      exact in_ok n a b ⟨h1, h2⟩ w
    · have hd : decide (n ≤ b) = false := decide_eq_false h2
      rw [decide_eq_false (fun h => h2 h.2)]
      go_enter Try.func83, Try.ntmps83
      go_wp2
      go_ret
      exact ⟨rfl, rfl⟩
  · rw [decide_eq_false (fun h => h1 h.1)]
    have hd : decide (a ≤ n) = false := decide_eq_false h1
    go_enter Try.func83, Try.ntmps83
    go_wp2
    go_ret
    exact ⟨rfl, rfl⟩

theorem checkPlan_any (nd of sz : Int) (w : World) : Calls Try.prog 59 #[planV nd of sz] w fun e w' => e = .returned (.int .i64 (chkP nd of sz)) ∧ Below w.heap.size w w' := by
  have hbx := below_alloc w (.cells #[.int .i64 nd, .int .i64 of, .int .i64 sz] 27)
  have HB := hid hbx
  clear hbx
  unfold planV chkP planOk
  by_cases h1 : 1 ≤ nd ∧ nd ≤ 4
  · have e1 : decide (1 ≤ nd ∧ nd ≤ 4) = true := decide_eq_true h1
    by_cases h2 : nd ≤ of ∧ of ≤ 8
    · have e2 : decide (nd ≤ of ∧ of ≤ 8) = true := decide_eq_true h2
      by_cases h3 : 1 ≤ sz ∧ sz ≤ 24
      · have e3 : decide (1 ≤ sz ∧ sz ≤ 24) = true := decide_eq_true h3
        rw [if_pos (decide_eq_true ⟨h1, h2, h3⟩)]
        clear h1 h2 h3
        go_enter Try.func59, Try.ntmps59
        go_wp2_with (go_at_call 83; go_must (refine (in_any _ _ _ _).mono ?_; rintro e wq ⟨rfl, hwq⟩; subst wq; first | rw [e1] | rw [e2] | rw [e3]))
        go_ret
        exact ⟨rfl, HB.out⟩
      · have e3 : decide (1 ≤ sz ∧ sz ≤ 24) = false := decide_eq_false h3
        rw [if_neg (by rw [decide_eq_true_iff]; exact fun h => h3 h.2.2)]
        clear h1 h2 h3
        go_enter Try.func59, Try.ntmps59
        go_wp2_with (go_at_call 83; go_must (refine (in_any _ _ _ _).mono ?_; rintro e wq ⟨rfl, hwq⟩; subst wq; first | rw [e1] | rw [e2] | rw [e3]))
        go_ret
        exact ⟨rfl, HB.out⟩
    · have e2 : decide (nd ≤ of ∧ of ≤ 8) = false := decide_eq_false h2
      rw [if_neg (by rw [decide_eq_true_iff]; exact fun h => h2 h.2.1)]
      clear h1 h2
      go_enter Try.func59, Try.ntmps59
      go_wp2_with (go_at_call 83; go_must (refine (in_any _ _ _ _).mono ?_; rintro e wq ⟨rfl, hwq⟩; subst wq; first | rw [e1] | rw [e2]))
      go_ret
      exact ⟨rfl, HB.out⟩
  · have e1 : decide (1 ≤ nd ∧ nd ≤ 4) = false := decide_eq_false h1
    rw [if_neg (by rw [decide_eq_true_iff]; exact fun h => h1 h.1)]
    clear h1
    go_enter Try.func59, Try.ntmps59
    go_wp2_with (go_at_call 83; go_must (refine (in_any _ _ _ _).mono ?_; rintro e wq ⟨rfl, hwq⟩; subst wq; rw [e1]))
    go_ret
    exact ⟨rfl, HB.out⟩

theorem shCheck (nd of sz : Int) (w : World) : Calls Try.prog 100 #[planV nd of sz] w fun e w' => e = .returned (.int .i64 (chkP nd of sz)) ∧ Below w.heap.size w w' := by
  have HB := hid (below_alloc w (.cells #[.int .i64 nd, .int .i64 of, .int .i64 sz] 27))
  obtain ⟨ans, hans⟩ : ∃ a, chkP nd of sz = a := ⟨_, rfl⟩
  rw [hans]
  unfold chkP planOk at hans
  unfold planV
  by_cases h1 : nd < 1
  · rw [if_neg (by rw [decide_eq_true_iff]; omega)] at hans
    subst hans
    go_enter Try.func100, Try.ntmps100
    go_wp2
    go_ret
    exact ⟨rfl, HB.out⟩
  by_cases h2 : 4 < nd
  · rw [if_neg (by rw [decide_eq_true_iff]; omega)] at hans
    subst hans
    go_enter Try.func100, Try.ntmps100
    go_wp2
    go_ret
    exact ⟨rfl, HB.out⟩
  by_cases h3 : of < nd
  · rw [if_neg (by rw [decide_eq_true_iff]; omega)] at hans
    subst hans
    go_enter Try.func100, Try.ntmps100
    go_wp2
    go_ret
    exact ⟨rfl, HB.out⟩
  by_cases h4 : 8 < of
  · rw [if_neg (by rw [decide_eq_true_iff]; omega)] at hans
    subst hans
    go_enter Try.func100, Try.ntmps100
    go_wp2
    go_ret
    exact ⟨rfl, HB.out⟩
  by_cases h5 : sz < 1
  · rw [if_neg (by rw [decide_eq_true_iff]; omega)] at hans
    subst hans
    go_enter Try.func100, Try.ntmps100
    go_wp2
    go_ret
    exact ⟨rfl, HB.out⟩
  by_cases h6 : 24 < sz
  · rw [if_neg (by rw [decide_eq_true_iff]; omega)] at hans
    subst hans
    go_enter Try.func100, Try.ntmps100
    go_wp2
    go_ret
    exact ⟨rfl, HB.out⟩
  rw [if_pos (by rw [decide_eq_true_iff]; omega)] at hans
  subst hans
  go_enter Try.func100, Try.ntmps100
  go_wp2
  go_ret
  exact ⟨rfl, HB.out⟩

end Go.Proofs.Ytdhefajaekackaa

/- Chapter 5 in plain words: books of versions, checked; what is behind a version. -/
namespace Go.Proofs.Ytdhefajaekackaa

open Go.RowKit
set_option linter.unusedVariables false

/-- the versions of a book: how many parents, which, and the plan -/
structure Bk where
  PL : Nat → Nat
  PX : Nat → Nat → Int
  nd : Nat → Int
  of : Nat → Int
  sz : Nat → Int

/-- the slice value v, of n versions, lies below block B of the world w -/
def VeSl (w : World) (B : Nat) (v : Value) (n : Nat) (PV : Nat → Value) (b : Bk) : Prop :=
  ∃ (ad : Option Addr) (cap : Nat), v = .slice ad n cap ∧ (n ≤ cap ∧ n * 48 ≤ 140737488351232) ∧ (n = 0 ∨ ∃ bl off, ad = some ⟨bl, off, none⟩ ∧ bl < B ∧ ∀ j, j < n →
    w.cell? ⟨bl, off + j * 4, none⟩ = some (PV j) ∧ w.cell? ⟨bl, off + j * 4 + 1, none⟩ = some (.int .i64 (b.nd j)) ∧ w.cell? ⟨bl, off + j * 4 + 2, none⟩ = some (.int .i64 (b.of j)) ∧ w.cell? ⟨bl, off + j * 4 + 3, none⟩ = some (.int .i64 (b.sz j)) ∧ IntSl w B (PV j) (b.PL j) (b.PX j))

theorem VeSl.below {w w' : World} {B : Nat} {v : Value} {n : Nat} {PV : Nat → Value} {b : Bk} (h : VeSl w B v n PV b) (hb : Below B w w') : VeSl w' B v n PV b := by
  obtain ⟨ad, cap, h1, h0, h2⟩ := h
  refine ⟨ad, cap, h1, h0, ?_⟩
  rcases h2 with h2 | ⟨bl, off, h3, h4, h5⟩
  · exact Or.inl h2
  · refine Or.inr ⟨bl, off, h3, h4, fun j hj => ?_⟩
    obtain ⟨g1, g2, g3, g4, g5⟩ := h5 j hj
    exact ⟨by rw [hb.cell h4]; exact g1, by rw [hb.cell h4]; exact g2, by rw [hb.cell h4]; exact g3, by rw [hb.cell h4]; exact g4, g5.below hb⟩

theorem VeSl.mono {w : World} {B B' : Nat} {v : Value} {n : Nat} {PV : Nat → Value} {b : Bk} (h : VeSl w B v n PV b) (hb : B ≤ B') : VeSl w B' v n PV b := by
  obtain ⟨ad, cap, h1, h0, h2⟩ := h
  refine ⟨ad, cap, h1, h0, ?_⟩
  rcases h2 with h2 | ⟨bl, off, h3, h4, h5⟩
  · exact Or.inl h2
  · refine Or.inr ⟨bl, off, h3, by omega, fun j hj => ?_⟩
    obtain ⟨g1, g2, g3, g4, g5⟩ := h5 j hj
    exact ⟨g1, g2, g3, g4, g5.mono hb⟩

theorem VeSl.up {w w' : World} {v : Value} {n : Nat} {PV : Nat → Value} {b : Bk} (h : VeSl w w.heap.size v n PV b) (hb : Below w.heap.size w w') : VeSl w' w'.heap.size v n PV b := (h.below hb).mono hb.size

/-- a version, as a value -/
def verV (pv : Value) (nd of sz : Int) : Value := .agg #[pv, .int .i64 nd, .int .i64 of, .int .i64 sz]
/-- a book, as a value -/
def bookV (v : Value) : Value := .agg #[v]

/-- parents of version k, one by one, from number i on, behind the one last: the first error -/
def parE (k : Int) (X : Nat → Int) : Nat → Nat → Int → Int
  | 0, _, _ => 0
  | f + 1, i, last => if X i < 0 ∨ k ≤ X i then 4 else if X i ≤ last then 5 else parE k X f (i + 1) (X i)

/-- a version's error -/
def verE (b : Bk) (k : Nat) : Int := if parE k (b.PX k) (b.PL k) 0 (-1) = 0 then chkP (b.nd k) (b.of k) (b.sz k) else parE k (b.PX k) (b.PL k) 0 (-1)

/-- versions from number k on, f of them: the first error -/
def scanV (b : Bk) : Nat → Nat → Int
  | 0, _ => 0
  | f + 1, k => if verE b k = 0 then scanV b f (k + 1) else verE b k

/-- a book's error -/
def bookE (n : Nat) (b : Bk) : Int := if n ≤ 12 then scanV b n 0 else 1

end Go.Proofs.Ytdhefajaekackaa

/- Two lists of ints that a call grows side by side, each in a row of its own. -/
namespace Go.Proofs.Ytdhefajaekackaa

open Go.RowKit
set_option linter.unusedVariables false

theorem grown_of_below {w w' : World} (h : Below w.heap.size w w') (row : Option Nat) : w.grownBy w' row := ⟨h.os, h.tape, h.output, h.size, fun k hk _ => h.block k hk⟩

theorem owns_below {w w' : World} {base : Nat} {e : TypeId} {size : Nat} {v : Value} {n : Nat} {xs : List Value} (h : w.ownsRow base e size v n xs) (hb : Below w.heap.size w w') : w'.ownsRow base e size v n xs := by
  cases hv : v.ownBlock with
  | none => exact h.kept (grown_of_below hb none) (Or.inl hv)
  | some g => exact h.kept (grown_of_below hb none) (Or.inr (by rw [hv]; intro h; cases h))

theorem OwnI.below {w0 wr w' : World} {v : Value} {n : Nat} {C : Nat → Int} (h : OwnI w0 wr v n C) (hb : Below wr.heap.size wr w') : OwnI w0 w' v n C :=
  ⟨owns_below h.1 hb, h.2.trans (hb.mono h.2.size)⟩

theorem OwnI.shape {w0 wr : World} {v : Value} {n : Nat} {C : Nat → Int} (h : OwnI w0 wr v n C) : ∃ ad cap, v = .slice ad n cap := by
  obtain ⟨_, h2⟩ := h.1
  rcases h2 with ⟨h1, h0⟩ | ⟨g, cap, cur, h1, _⟩
  · exact ⟨none, 0, by rw [h0]; exact h1⟩
  · exact ⟨_, _, h1⟩

theorem OwnI.congr {w0 wr : World} {v : Value} {n : Nat} {C D : Nat → Int} (h : OwnI w0 wr v n C) (e : ∀ j, j < n → C j = D j) : OwnI w0 wr v n D := by
  refine ⟨?_, h.2⟩
  have e2 : ((List.range n).map fun j => Value.int .i64 (D j)) = (List.range n).map fun j => Value.int .i64 (C j) := List.map_congr_left fun j hj => by rw [e j (List.mem_range.1 hj)]
  rw [e2]
  exact h.1

theorem OwnI.isl {w0 wr : World} {v : Value} {n : Nat} {C : Nat → Int} (h : OwnI w0 wr v n C) (hn : 1 ≤ n) (hr : n * 8 ≤ 140737488351232) : IntSl wr wr.heap.size v n C := by
  obtain ⟨g, cap, rfl, hc, hrow⟩ := h.row hn
  exact hrow.isl hc hr

/-- two own lists of one length, in rows of their own -/
structure Two (w0 wr : World) (va vb : Value) (r : Nat) (A B : Nat → Int) : Prop where
  a : OwnI w0 wr va r A
  b : OwnI w0 wr vb r B
  ne : va.ownBlock = none ∨ va.ownBlock ≠ vb.ownBlock

theorem Two.nil (w : World) (A B : Nat → Int) : Two w w (.slice none 0 0) (.slice none 0 0) 0 A B := ⟨OwnI.nil _ _, OwnI.nil _ _, Or.inl rfl⟩

theorem Two.below {w0 wr w' : World} {va vb : Value} {r : Nat} {A B : Nat → Int} (h : Two w0 wr va vb r A B) (hb : Below wr.heap.size wr w') : Two w0 w' va vb r A B := ⟨h.a.below hb, h.b.below hb, h.ne⟩

/-- the second list, behind the first one's growth -/
theorem Two.after {w0 wr w1 : World} {va vb va' : Value} {r : Nat} {A B : Nat → Int} {k : Int} (h : Two w0 wr va vb r A B) (o : Obj)
    (ho : w1.ownsRow w0.heap.size 3 1 va' (r + 1) (((List.range r).map fun j => Value.int .i64 (A j)) ++ [.int .i64 k])) (hg : (wr.alloc o).grownBy w1 va.ownBlock)
    (hat : va'.ownBlock = va.ownBlock ∨ va'.ownBlock = some (wr.alloc o).heap.size) :
    OwnI w0 w1 va' (r + 1) (fun j => if j = r then k else A j) ∧ OwnI w0 w1 vb r B ∧ (vb.ownBlock = none ∨ va'.ownBlock ≠ vb.ownBlock) := by
  have hbA : Below w0.heap.size w0 (wr.alloc o) := h.a.2.alloc h.a.2.size o
  have hlo : ∀ g, va.ownBlock = some g → w0.heap.size ≤ g := fun g hgg => (h.a.1.lt g hgg).1
  have hb1 : Below w0.heap.size w0 w1 := hbA.grown hg hbA.size hlo
  have hvb : w1.ownsRow w0.heap.size 3 1 vb r ((List.range r).map fun j => Value.int .i64 (B j)) := by
    refine (h.b.1.alloc o).kept hg ?_
    rcases h.ne with h1 | h1
    · rw [h1]
      cases hv : vb.ownBlock with
      | none => exact Or.inl rfl
      | some g => exact Or.inr (by intro h; cases h)
    · exact Or.inr (Ne.symm h1)
  refine ⟨⟨?_, hb1⟩, ⟨hvb, hb1⟩, ?_⟩
  · have e : ((List.range (r + 1)).map fun j => Value.int .i64 (if j = r then k else A j)) = ((List.range r).map fun j => Value.int .i64 (A j)) ++ [.int .i64 k] := by
      rw [List.range_succ, List.map_append]
      congr 1
      · exact List.map_congr_left fun j hj => by have := List.mem_range.1 hj; rw [if_neg (by omega)]
      · simp
    rw [e]
    exact ho
  · cases hv : vb.ownBlock with
    | none => exact Or.inl rfl
    | some g =>
      right
      have hlt := (h.b.1.lt g hv).2
      rcases hat with h1 | h1
      · rw [h1]
        rcases h.ne with h2 | h2
        · rw [h2]; intro h; cases h
        · rw [← hv]; exact h2
      · rw [h1]
        intro h2
        injection h2 with h2
        simp at h2
        omega

end Go.Proofs.Ytdhefajaekackaa
