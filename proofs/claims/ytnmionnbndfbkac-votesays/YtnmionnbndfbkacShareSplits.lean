/- What chapter 3's reference splits: all shares of a content, errors too. -/
import Derived.Test.YtnmionnbndfbkacShareMake
import Derived.Test.YtnmionnbndfbkacPicked
namespace Go.Proofs.Ytnmionnbndfbkac
open Go.RowKit CurveMath
set_option linter.unusedVariables false

theorem OwnS.pushS {w0 wr w1 : World} {v v' : Value} {k : Nat} {N N' : Nat → Int} {V V' : Nat → Value} {x : Int} {u : Value} {o : Obj} (h : OwnS w0 wr v k N V)
    (ho : w1.ownsRow w0.heap.size 32 2 v' (k + 1) (flatS k N V ++ [.int .i64 x, u])) (hg : (wr.alloc o).grownBy w1 v.ownBlock) (hN : ∀ j, j < k → N' j = N j ∧ V' j = V j) (hx : N' k = x) (hu : V' k = u) : OwnS w0 w1 v' (k + 1) N' V' := by
  refine ⟨?_, ?_⟩
  · rw [flatS_succ, hx, hu, flatS_congr (N' := N) (V' := V) hN]
    exact ho
  · have hbA : Below w0.heap.size w0 (wr.alloc o) := h.2.alloc h.2.size o
    exact hbA.grown hg hbA.size (fun g hgg => (h.1.lt g hgg).1)

theorem OwnS.up {w0 wr w' : World} {v : Value} {k : Nat} {N : Nat → Int} {V : Nat → Value} (h : OwnS w0 wr v k N V) (hb : Below wr.heap.size wr w') : OwnS w0 w' v k N V :=
  ⟨owns_below h.1 hb, h.2.trans (hb.mono h.2.size)⟩

/-- a list that lies in another block -/
def Off (vo v : Value) : Prop := ∀ ad n c, v = .slice (some ad) n c → some ad.block ≠ vo.ownBlock

theorem IntSl.grown {w w' : World} {vo v : Value} {n : Nat} {X : Nat → Int} (h : IntSl w w.heap.size v n X) (hg : w.grownBy w' vo.ownBlock) (ho : Off vo v) : IntSl w' w'.heap.size v n X := by
  obtain ⟨ad, cap, rfl, h0, h2⟩ := h
  refine ⟨ad, cap, rfl, h0, ?_⟩
  rcases h2 with h2 | ⟨b, off, rfl, h4, h5⟩
  · exact Or.inl h2
  · exact Or.inr ⟨b, off, rfl, Nat.lt_of_lt_of_le h4 hg.size, fun j hj => hg.cell (h5 j hj) (ho ⟨b, off, none⟩ _ _ rfl)⟩

theorem IntSl.lt {w : World} {ad : Addr} {c n : Nat} {X : Nat → Int} (h : IntSl w w.heap.size (.slice (some ad) n c) n X) (hn : 1 ≤ n) : ad.block < w.heap.size := by
  obtain ⟨ad', cap, e, h0, h2⟩ := h
  injection e with e1
  rcases h2 with h2 | ⟨b, off, e2, h4, h5⟩
  · omega
  · rw [← e1] at e2
    injection e2 with e2
    rw [e2]
    exact h4

theorem off_step {w3 w4 : World} {vo v1 v : Value} {R : Nat} {X : Nat → Int} {o : Obj} (hR : 1 ≤ R) (hv : IntSl w3 w3.heap.size v R X) (hoff : Off vo v) (hg : (w3.alloc o).grownBy w4 vo.ownBlock) (hat : v1.ownBlock = vo.ownBlock ∨ v1.ownBlock = some (w3.alloc o).heap.size) : IntSl w4 w4.heap.size v R X ∧ Off v1 v := by
  refine ⟨(hv.alloc o).grown hg hoff, fun ad n' c' e' => ?_⟩
  rcases hat with e | e
  · rw [e]; exact hoff ad n' c' e'
  · rw [e]
    obtain ⟨ad2, cap, e2, h0, h2⟩ := hv
    rw [e'] at e2
    injection e2 with e3
    rcases h2 with h2 | ⟨b, off, e4, h4, h5⟩
    · omega
    · rw [← e3] at e4
      injection e4 with e4
      rw [e4]
      intro e5
      injection e5 with e5
      simp at e5
      omega

theorem off_new {w0 wr : World} {vo v : Value} {k : Nat} {N : Nat → Int} {V : Nat → Value} (h : OwnS w0 wr vo k N V) (ha : Above wr.heap.size v) : Off vo v := fun ad n c e e2 => by
  have h1 := ha ad n c e
  have h2 := (h.1.lt ad.block e2.symm).2
  omega

/-- what Splits leaves -/
def SplitPost (w : World) (nd of sz : Int) (n : Nat) (D : Nat → Int) (e : Ending) (w' : World) : Prop :=
  Below w.heap.size w w' ∧ ∃ (r : Value) (m : Nat) (V : Nat → Value), e = .returned (.tuple #[r, .int .i64 (splitE nd of sz n D)]) ∧ (m : Int) = (if splitE nd of sz n D = 0 then of else 0) ∧ ShSl w' w'.heap.size r m (fun k => (k : Int)) V (fun _ => rowsN nd sz) (fun k i => shv nd.toNat n D k i)

theorem split_err {w w' : World} {nd of sz : Int} {n : Nat} {D : Nat → Int} {c : Int} (hb : Below w.heap.size w w') (he : splitE nd of sz n D = c) (hc : c ≠ 0) : SplitPost w nd of sz n D (.returned (.tuple #[.slice none 0 0, .int .i64 c])) w' := by
  refine ⟨hb, _, 0, fun _ => .bool false, by rw [he], ?_, none, 0, rfl, ⟨Nat.le_refl _, by omega⟩, Or.inl rfl⟩
  rw [he, if_neg hc]
  rfl

end Go.Proofs.Ytnmionnbndfbkac
