/- What chapter 3's reference makes of shares that are in order: the content, if nothing is behind it. -/
import Derived.Test.YtcdaknionmffgacShareChecks
namespace Go.Proofs.Ytcdaknionmffgac
open Go.RowKit CurveMath
set_option linter.unusedVariables false

def madeB (d s R : Nat) (N : Nat → Int) (X : Nat → Nat → Int) : Bool := decide (∀ i, i < R * d → i < s ∨ joinD d N X i = 0)

/-- what made leaves -/
def MadePost (w : World) (d s R : Nat) (N : Nat → Int) (X : Nat → Nat → Int) (e : Ending) (w' : World) : Prop :=
  Below w.heap.size w w' ∧ ((madeB d s R N X = true ∧ ∃ v, e = .returned (.tuple #[v, .bool true]) ∧ IntSl w' w'.heap.size v s (joinD d N X)) ∨ (madeB d s R N X = false ∧ e = .returned (.tuple #[.slice none 0 0, .bool false])))

theorem OwnI.slice {w0 wr : World} {v : Value} {n : Nat} {C : Nat → Int} (h : OwnI w0 wr v n C) : ∃ ad cap, v = .slice ad n cap := h.shape

theorem joinD_row {d r t : Nat} {N : Nat → Int} {X : Nat → Nat → Int} (ht : t < d) : joinD d N X (r * d + t) = crv d N (fun j => X j r) (t : Int) := by
  unfold joinD
  have e1 : (r * d + t) / d = r := by rw [Nat.mul_comm, Nat.mul_add_div (by omega), Nat.div_eq_of_lt ht, Nat.add_zero]
  have e2 : (r * d + t) % d = t := by rw [Nat.mul_comm, Nat.mul_add_mod, Nat.mod_eq_of_lt ht]
  rw [e1, e2]

/-- one list that grows, one that stays, in another block -/
structure Beside (w2 wz : World) (vd vy : Value) (n k : Nat) (C Y : Nat → Int) : Prop where
  d : OwnI w2 wz vd n C
  y : IntSl wz wz.heap.size vy k Y
  off : Off vd vy

theorem Beside.start {w2 wr wz : World} {vd vy : Value} {n k : Nat} {C Y : Nat → Int} (hd : OwnI w2 wr vd n C) (hy : OwnI wr wz vy k Y) (hk : 1 ≤ k) (hk8 : k ≤ 100) : Beside w2 wz vd vy n k C Y := by
  refine ⟨hd.below hy.2, hy.isl hk (by omega), fun ad n' c' e e2 => ?_⟩
  have h1 := (hd.1.lt ad.block e2.symm).2
  have h2 := (hy.1.lt ad.block (by rw [e]; rfl)).1
  omega

theorem Beside.next {w2 wz w6 : World} {vd vd' vy : Value} {n k : Nat} {C Y : Nat → Int} {x : Int} {o : Obj} (h : Beside w2 wz vd vy n k C Y) (hk : 1 ≤ k)
    (ho : w6.ownsRow w2.heap.size 3 1 vd' (n + 1) (((List.range n).map fun j => Value.int .i64 (C j)) ++ [.int .i64 x])) (hg : (wz.alloc o).grownBy w6 vd.ownBlock) (hat : vd'.ownBlock = vd.ownBlock ∨ vd'.ownBlock = some (wz.alloc o).heap.size) (hx : C n = x) :
    Beside w2 w6 vd' vy (n + 1) k C Y := by
  obtain ⟨h1, h2⟩ := off_step hk h.y h.off hg hat
  exact ⟨h.d.pushA o ho hg hx, h1, h2⟩

theorem Beside.up {w2 wz w6 : World} {vd vy : Value} {n k : Nat} {C Y : Nat → Int} (h : Beside w2 wz vd vy n k C Y) (hb : Below wz.heap.size wz w6) : Beside w2 w6 vd vy n k C Y := ⟨h.d.below hb, h.y.up hb, h.off⟩

end Go.Proofs.Ytcdaknionmffgac
