/- The laws' own helper that picks some of a list of shares, each once, in an order that is handed in. -/
import Derived.Test.YtcdaknionmffgacShareOwn
import Derived.Maps.AppendAt
namespace Go.Proofs.Ytcdaknionmffgac
open Go.RowKit CurveMath
set_option linter.unusedVariables false

/-- places of n, each once: c that were picked, and those that are left -/
structure Pick (n c : Nat) (O Lf : Nat → Nat) : Prop where
  le : c ≤ n
  o : ∀ j, j < c → O j < n
  l : ∀ j, j < n - c → Lf j < n
  oinj : ∀ i j, i < c → j < c → O i = O j → i = j
  linj : ∀ i j, i < n - c → j < n - c → Lf i = Lf j → i = j
  apart : ∀ i j, i < c → j < n - c → O i ≠ Lf j

theorem Pick.start (n : Nat) (O : Nat → Nat) : Pick n 0 O id :=
  ⟨Nat.zero_le _, fun j hj => by omega, fun j hj => by simpa using hj, fun i j hi => by omega, fun i j _ _ e => e, fun i j hi => by omega⟩

/-- one more is picked: the one at place k of those left -/
theorem Pick.next {n c k : Nat} {O Lf : Nat → Nat} (h : Pick n c O Lf) (hk : k < n - c) : Pick n (c + 1) (fun j => if j < c then O j else Lf k) (without k Lf) := by
  have hw : ∀ j, j < n - (c + 1) → ∃ i, i < n - c ∧ i ≠ k ∧ without k Lf j = Lf i ∧ (i = if j < k then j else j + 1) := fun j hj => by
    unfold without
    by_cases h1 : j < k
    · exact ⟨j, by omega, by omega, by rw [if_pos h1], by rw [if_pos h1]⟩
    · exact ⟨j + 1, by omega, by omega, by rw [if_neg h1], by rw [if_neg h1]⟩
  refine ⟨by omega, fun j hj => ?_, fun j hj => ?_, fun i j hi hj e => ?_, fun i j hi hj e => ?_, fun i j hi hj e => ?_⟩
  · show (if j < c then O j else Lf k) < n
    split
    · exact h.o j (by assumption)
    · exact h.l k hk
  · obtain ⟨i, hi, _, e, _⟩ := hw j hj
    rw [e]
    exact h.l i hi
  · have e' : (if i < c then O i else Lf k) = (if j < c then O j else Lf k) := e
    by_cases h1 : i < c
    · by_cases h2 : j < c
      · rw [if_pos h1, if_pos h2] at e'
        exact h.oinj i j h1 h2 e'
      · rw [if_pos h1, if_neg h2] at e'
        exact absurd e' (h.apart i k h1 hk)
    · by_cases h2 : j < c
      · rw [if_neg h1, if_pos h2] at e'
        exact absurd e'.symm (h.apart j k h2 hk)
      · omega
  · obtain ⟨i', hi', _, ei, di⟩ := hw i hi
    obtain ⟨j', hj', _, ej, dj⟩ := hw j hj
    rw [ei, ej] at e
    have := h.linj i' j' hi' hj' e
    split at di <;> split at dj <;> omega
  · obtain ⟨j', hj', hne, ej, _⟩ := hw j hj
    have e' : (if i < c then O i else Lf k) = without k Lf j := e
    rw [ej] at e'
    by_cases h1 : i < c
    · rw [if_pos h1] at e'
      exact h.apart i j' h1 hj' e'
    · rw [if_neg h1] at e'
      exact hne (h.linj k j' hk hj' e').symm

theorem flatS_congr {n : Nat} {N N' : Nat → Int} {V V' : Nat → Value} (h : ∀ j, j < n → N j = N' j ∧ V j = V' j) : flatS n N V = flatS n N' V' := by
  apply List.ext_getElem?
  intro i
  rw [flatS_get, flatS_get]
  by_cases hi : i < n * 2
  · rw [if_pos hi, if_pos hi]
    unfold cellS
    obtain ⟨h1, h2⟩ := h (i / 2) (by omega)
    rw [h1, h2]
  · rw [if_neg hi, if_neg hi]

/-- what the loop holds: those left, those picked, each in a row of its own -/
structure Picks (w0 wr : World) (vl vo : Value) (n c : Nat) (N : Nat → Int) (V : Nat → Value) (O Lf : Nat → Nat) : Prop where
  l : OwnS w0 wr vl (n - c) (fun j => N (Lf j)) (fun j => V (Lf j))
  o : OwnS w0 wr vo c (fun j => N (O j)) (fun j => V (O j))
  ne : vl.ownBlock ≠ none ∧ vl.ownBlock ≠ vo.ownBlock
  pick : Pick n c O Lf

theorem Picks.next {w0 wr w2 w3 : World} {gl cap : Nat} {vo vo' : Value} {n c k : Nat} {N : Nat → Int} {V : Nat → Value} {O Lf : Nat → Nat} {ob : Obj} (h : Picks w0 wr (.slice (some ⟨gl, 0, none⟩) (n - c) cap) vo n c N V O Lf) (hk : k < n - c)
    (ho : w2.ownsRow w0.heap.size 32 2 vo' (c + 1) (flatS c (fun j => N (O j)) (fun j => V (O j)) ++ [.int .i64 (N (Lf k)), V (Lf k)])) (hg : (wr.alloc ob).grownBy w2 vo.ownBlock)
    (hat : vo'.ownBlock = vo.ownBlock ∨ vo'.ownBlock = some (wr.alloc ob).heap.size)
    (hd : w3.ownsRow w0.heap.size 32 2 (.slice (some ⟨gl, 0, none⟩) (n - c - 1) cap) (n - c - 1) (flatS (n - c - 1) (without k fun j => N (Lf j)) (without k fun j => V (Lf j)))) (hg3 : w2.grownBy w3 (some gl)) :
    Picks w0 w3 (.slice (some ⟨gl, 0, none⟩) (n - c - 1) cap) vo' n (c + 1) N V (fun j => if j < c then O j else Lf k) (without k Lf) := by
  have hle := h.pick.le
  have hbA : Below w0.heap.size w0 (wr.alloc ob) := h.o.2.alloc h.o.2.size ob
  have hlo : ∀ g, vo.ownBlock = some g → w0.heap.size ≤ g := fun g hgg => (h.o.1.lt g hgg).1
  have hb2 : Below w0.heap.size w0 w2 := hbA.grown hg hbA.size hlo
  have hgl := h.l.1.lt gl rfl
  have hb3 : Below w0.heap.size w0 w3 := hb2.grown hg3 hb2.size (fun g hgg => by injection hgg with e; rw [← e]; exact hgl.1)
  have hne : vo'.ownBlock ≠ some gl := by
    rcases hat with e | e
    · rw [e]; exact fun e2 => h.ne.2 e2.symm
    · rw [e]; intro e2; injection e2 with e2; simp at e2; omega
  refine ⟨⟨?_, hb3⟩, ⟨?_, hb3⟩, ⟨by simp [Value.ownBlock], fun e => hne e.symm⟩, h.pick.next hk⟩
  · have e1 : n - (c + 1) = n - c - 1 := by omega
    rw [e1]
    have e2 : flatS (n - c - 1) (fun j => N (without k Lf j)) (fun j => V (without k Lf j)) = flatS (n - c - 1) (without k fun j => N (Lf j)) (without k fun j => V (Lf j)) := flatS_congr fun j hj => by
      unfold without
      split <;> exact ⟨rfl, rfl⟩
    rw [e2]
    exact hd
  · rw [flatS_succ]
    have e1 : flatS c (fun j => N (if j < c then O j else Lf k)) (fun j => V (if j < c then O j else Lf k)) = flatS c (fun j => N (O j)) (fun j => V (O j)) := flatS_congr fun j hj => by rw [if_pos hj]; exact ⟨rfl, rfl⟩
    rw [e1, if_neg (Nat.lt_irrefl c)]
    exact ho.kept hg3 (Or.inr hne)

theorem OwnS.shape {w0 wr : World} {v : Value} {n : Nat} {N : Nat → Int} {V : Nat → Value} (h : OwnS w0 wr v n N V) : ∃ ad cap, v = .slice ad n cap := by
  obtain ⟨_, h2⟩ := h.1
  rcases h2 with ⟨h1, h0⟩ | ⟨g, cap, cur, h1, _⟩
  · exact ⟨none, 0, by rw [h0]; exact h1⟩
  · exact ⟨_, _, h1⟩

theorem OwnS.shape' {w0 wr : World} {v : Value} {n : Nat} {N : Nat → Int} {V : Nat → Value} (h : OwnS w0 wr v n N V) (hne : v.ownBlock ≠ none) : ∃ g cap, v = .slice (some ⟨g, 0, none⟩) n cap := by
  obtain ⟨_, h2⟩ := h.1
  rcases h2 with ⟨h1, h0⟩ | ⟨g, cap, cur, h1, _⟩
  · rw [h1] at hne; exact absurd rfl hne
  · exact ⟨g, cap, h1⟩

/-- what picked leaves -/
def PickPost (w : World) (n m : Nat) (N : Nat → Int) (V : Nat → Value) (e : Ending) (w' : World) : Prop := ∃ v' O Lf, e = .returned v' ∧ OwnS w w' v' m (fun j => N (O j)) (fun j => V (O j)) ∧ Pick n m O Lf

/-- how many are picked -/
def pickM (many : Int) (n : Nat) : Nat := if many ≤ 0 then 0 else min many.toNat n

theorem cells_two (w : World) (N : Int) (v : Value) (T : TypeId) : ∀ j u, ([.int .i64 N, v] : List Value)[j]? = some u → (w.alloc (.cells #[.int .i64 N, v] T)).cell? (Addr.add ⟨w.heap.size, 0, none⟩ j) = some u := by
  intro j u hj
  rw [Addr.add_lit]
  match j, hj with
  | 0, hj => simp at hj; subst hj; exact cell_at (heap_alloc_new _ _) rfl
  | 1, hj => simp at hj; subst hj; exact cell_at (heap_alloc_new _ _) rfl

end Go.Proofs.Ytcdaknionmffgac
