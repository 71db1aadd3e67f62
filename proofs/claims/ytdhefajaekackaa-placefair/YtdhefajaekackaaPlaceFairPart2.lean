/- Several texts of one proof, in their order. -/
import Derived.Test.YtdhefajaekackaaPlSum14
import Derived.Test.YtdhefajaekackaaPlSum11
import Derived.Test.YtdhefajaekackaaPlaceFairPart1

/- Kit of chapter 8's second law: how much room is left, asked of a function value; what stays where a map changes. -/
namespace Go.Proofs.Ytdhefajaekackaa

open Go.RowKit Go.Maps
set_option linter.unusedVariables false

theorem placeRoom (bx : Nat) (al : Option Addr) (np cl : Nat) (KV : Nat → Value) (UV : Nat → Nat → Value) (P : Ps) (k : Nat) (w : World) (hk : k < np) (hr : (0 ≤ P.rm k ∧ P.rm k ≤ 20) ∧ (P.m k : Int) ≤ P.rm k) (hx : w.cell? ⟨bx, 0, none⟩ = some (.slice al np cl)) (hl : PsSl w w.heap.size (.slice al np cl) np KV UV P) :
    Calls Try.prog 51 #[.int .i64 (k : Int), .pointer (some ⟨bx, 0, none⟩)] w fun e w' => e = .returned (.int .i64 (leftK P k)) ∧ Below w.heap.size w w' := by
  obtain ⟨bl, off, rfl, hbl, g0, g1, g2, g3⟩ := hl.at hk
  obtain ⟨ak, ck, hke, _, _⟩ := g3
  rw [hke] at g2
  have hki : (k : Int) < (np : Int) := by omega
  unfold leftK
  obtain ⟨rm, hrm⟩ : ∃ x, P.rm k = x := ⟨_, rfl⟩
  obtain ⟨mk, hmk⟩ : ∃ x, P.m k = x := ⟨_, rfl⟩
  rw [hrm] at g1 hr ⊢
  rw [hmk] at g2 hr ⊢
  clear hke hrm hmk hl
  go_enter Try.func51, Try.ntmps51
  go_wp2_with fail
  go_quiet (fail)
  go_wp2
  go_ret
  exact ⟨rfl, drewK_below _ _⟩

theorem KeSl.grownM {w w' : World} {B g m n l : Nat} {S : Nat → Bool} {v : Value} {UV : Nat → Value} {t : Kt} (h : KeSl w B v l UV t) (hm : SetM w g m n S) (hg : w.grownBy w' (some g)) : KeSl w' B v l UV t := by
  obtain ⟨ad, cap, rfl, h0, h2⟩ := h
  refine ⟨ad, cap, rfl, h0, ?_⟩
  rcases h2 with h2 | ⟨bl, off, rfl, h4, h5⟩
  · exact Or.inl h2
  · have key : ∀ {a : Addr} {u : Value}, w.cell? a = some u → w'.cell? a = some u := fun ha => hg.cell ha (by intro e; injection e with e; exact hm.ne ha e)
    refine Or.inr ⟨bl, off, rfl, h4, fun j hj => ?_⟩
    obtain ⟨g1, g2, g3, g4⟩ := h5 j hj
    exact ⟨key g1, key g2, key g3, g4.grownM hm hg⟩

theorem PsSl.grownM {w w' : World} {B g m n l : Nat} {S : Nat → Bool} {v : Value} {KV : Nat → Value} {UV : Nat → Nat → Value} {P : Ps} (h : PsSl w B v l KV UV P) (hm : SetM w g m n S) (hg : w.grownBy w' (some g)) : PsSl w' B v l KV UV P := by
  obtain ⟨ad, cap, rfl, h0, h2⟩ := h
  refine ⟨ad, cap, rfl, h0, ?_⟩
  rcases h2 with h2 | ⟨bl, off, rfl, h4, h5⟩
  · exact Or.inl h2
  · have key : ∀ {a : Addr} {u : Value}, w.cell? a = some u → w'.cell? a = some u := fun ha => hg.cell ha (by intro e; injection e with e; exact hm.ne ha e)
    refine Or.inr ⟨bl, off, rfl, h4, fun j hj => ?_⟩
    obtain ⟨g1, g2, g3, g4⟩ := h5 j hj
    exact ⟨key g1, key g2, key g3, g4.grownM hm hg⟩

/-- the box, the peers, who gets a share, and who was seen -/
structure PfInv (w wr : World) (bx : Nat) (al : Option Addr) (np cl : Nat) (KV : Nat → Value) (UV : Nat → Nat → Value) (P : Ps) (va : Value) (la : Nat) (XA : Nat → Int) (gm mm : Nat) (S : Nat → Bool) : Prop where
  below : Below w.heap.size w wr
  box : wr.cell? ⟨bx, 0, none⟩ = some (.slice al np cl)
  ps : PsSl wr wr.heap.size (.slice al np cl) np KV UV P
  ia : IntSl wr wr.heap.size va la XA
  mp : SetM wr gm mm 8 S
  og : w.heap.size ≤ gm

section

variable {w wr w' : World} {bx : Nat} {al : Option Addr} {np cl : Nat} {KV : Nat → Value} {UV : Nat → Nat → Value} {P : Ps} {va : Value} {la : Nat} {XA : Nat → Int} {gm mm : Nat} {S : Nat → Bool}

theorem PfInv.up (h : PfInv w wr bx al np cl KV UV P va la XA gm mm S) (hb : Below wr.heap.size wr w') : PfInv w w' bx al np cl KV UV P va la XA gm mm S :=
  ⟨h.below.trans (hb.mono h.below.size), by rw [hb.cell (cell_lt h.box)]; exact h.box, h.ps.up hb, h.ia.up hb, h.mp.up hb, h.og⟩

theorem PfInv.grown (h : PfInv w wr bx al np cl KV UV P va la XA gm mm S) (hg : wr.grownBy w' (some gm)) {mm' : Nat} {S' : Nat → Bool} (hm : SetM w' gm mm' 8 S') : PfInv w w' bx al np cl KV UV P va la XA gm mm' S' :=
  ⟨h.below.grown hg h.below.size (fun k hk => by cases hk; exact h.og), hg.cell h.box (by intro e; injection e with e; exact h.mp.ne h.box e), (h.ps.grownM h.mp hg).mono hg.size, (h.ia.grownM h.mp hg).mono hg.size, hm, h.og⟩

end

end Go.Proofs.Ytdhefajaekackaa
