/- Several texts of one proof, in their order. -/
import Derived.Test.YtdhefajaekackaaBkSum14
import Derived.Test.YtdhefajaekackaaBookGrowsPart0

/- A map of bools that a call makes itself: a set of small numbers. -/
namespace Go.Proofs.Ytdhefajaekackaa

open Go.RowKit Go.Maps
set_option linter.unusedVariables false

theorem zeroBool (w : World) : (zeroValue 4).run Try.prog w = .ok (.bool false) w := by kernel_rfl

/-- block g is a map of at most m entries: a set of numbers, those up to n -/
def SetM (w : World) (g m n : Nat) (S : Nat → Bool) : Prop := ∃ D : DataW Empty, w.ownsMap Try.prog 3 (plainElem Try.prog 4) g m D ∧ (∀ x : Nat, D.atKey (.int .i64 (x : Int)) (.lit (.bool false)) = .lit (.bool (S x))) ∧ (∀ x : Nat, Maps.has D (.int .i64 (x : Int)) = S x) ∧ Maps.size D = ((List.range (n + 1)).filter S).length

theorem setM_put {w w' : World} {g m n : Nat} {S : Nat → Bool} {D : DataW Empty} {x : Nat} (hD : w.ownsMap Try.prog 3 (plainElem Try.prog 4) g m D) (h : ∀ x : Nat, D.atKey (.int .i64 (x : Int)) (.lit (.bool false)) = .lit (.bool (S x))) (hh : ∀ x : Nat, Maps.has D (.int .i64 (x : Int)) = S x) (hs : Maps.size D = ((List.range (n + 1)).filter S).length) (hx : x ≤ n)
    (ho : w'.ownsMap Try.prog 3 (plainElem Try.prog 4) g (m + 1) (D.put (.int .i64 (x : Int)) (.lit (.bool true)))) : SetM w' g (m + 1) n (fun y => S y || decide (y = x)) := by
  have hne : ∀ {y : Nat}, y ≠ x → Lit.int .i64 (y : Int) ≠ Lit.int .i64 (x : Int) := fun hyx e => hyx (by injection e with _ e2; omega)
  refine ⟨_, ho, fun y => ?_, fun y => ?_, ?_⟩
  · by_cases e : y = x
    · subst e
      rw [atKey_put_same hD.isMap (by simp [WideAt.IsKeyLit])]
      simp
    · rw [atKey_put_other (hne e), h y]
      simp [e]
  · by_cases e : y = x
    · subst e
      rw [has_put_same hD.isMap (by simp [WideAt.IsKeyLit])]
      simp
    · rw [has_put_other (hne e), hh y]
      simp [e]
  · rw [size_put (hD.tidy keyedInt), hh x, hs, count_add S x (n + 1) (by omega)]

theorem SetM.kept {w w' : World} {g m n : Nat} {S : Nat → Bool} {row : Option Nat} (h : SetM w g m n S) (hg : w.grownBy w' row) (hne : some g ≠ row) : SetM w' g m n S := by
  obtain ⟨D, h1, h2⟩ := h
  exact ⟨D, h1.kept hg hne, h2⟩

theorem SetM.up {w w' : World} {g m n : Nat} {S : Nat → Bool} (h : SetM w g m n S) (hb : Below w.heap.size w w') : SetM w' g m n S := h.kept (grown_of_below hb none) (by intro e; cases e)

theorem SetM.ne {w : World} {g m n : Nat} {S : Nat → Bool} (h : SetM w g m n S) {a : Addr} {u : Value} (ha : w.cell? a = some u) : a.block ≠ g := by
  obtain ⟨D, ⟨es, clock, hb, _⟩, _⟩ := h
  intro e
  rw [World.cell?, e, hb] at ha
  simp at ha

theorem SetM.mono {w : World} {g m m' n : Nat} {S : Nat → Bool} (h : SetM w g m n S) (hm : m ≤ m') : SetM w g m' n S := by
  obtain ⟨D, h1, h2⟩ := h
  exact ⟨D, h1.mono hm, h2⟩

theorem SetM.lt {w : World} {g m n : Nat} {S : Nat → Bool} (h : SetM w g m n S) : g < w.heap.size := by
  obtain ⟨D, h1, _⟩ := h
  exact h1.lt

/-- lists stay where a map changes -/
theorem IntSl.grownM {w w' : World} {B g m n l : Nat} {S : Nat → Bool} {v : Value} {X : Nat → Int} (h : IntSl w B v l X) (hm : SetM w g m n S) (hg : w.grownBy w' (some g)) : IntSl w' B v l X := by
  obtain ⟨ad, cap, rfl, h0, h2⟩ := h
  refine ⟨ad, cap, rfl, h0, ?_⟩
  rcases h2 with h2 | ⟨b, off, rfl, h4, h5⟩
  · exact Or.inl h2
  · exact Or.inr ⟨b, off, rfl, h4, fun j hj => hg.cell (h5 j hj) (by intro e; injection e with e; exact hm.ne (h5 j hj) e)⟩

theorem VeSl.grownM {w w' : World} {B g m n l : Nat} {S : Nat → Bool} {v : Value} {PV : Nat → Value} {b : Bk} (h : VeSl w B v l PV b) (hm : SetM w g m n S) (hg : w.grownBy w' (some g)) : VeSl w' B v l PV b := by
  obtain ⟨ad, cap, rfl, h0, h2⟩ := h
  refine ⟨ad, cap, rfl, h0, ?_⟩
  rcases h2 with h2 | ⟨bl, off, rfl, h4, h5⟩
  · exact Or.inl h2
  · have key : ∀ {a : Addr} {u : Value}, w.cell? a = some u → w'.cell? a = some u := fun ha => hg.cell ha (by intro e; injection e with e; exact hm.ne ha e)
    refine Or.inr ⟨bl, off, rfl, h4, fun j hj => ?_⟩
    obtain ⟨g1, g2, g3, g4, g5⟩ := h5 j hj
    exact ⟨key g1, key g2, key g3, key g4, g5.grownM hm hg⟩

set_option maxRecDepth 10000 in
/-- is it in the set? -/
theorem SetM.look {w : World} {g m n : Nat} {S : Nat → Bool} (h : SetM w g m n S) {k : Nat} (hk : k ≤ 1000) :
    (Instr.lookup 44 (.map (some g)) (.int .i64 (k : Int)) false).run Try.prog w = .ok (.bool (S k)) w := by
  obtain ⟨D, hD, hat, _⟩ := h
  obtain ⟨v, ps, hrun, hv⟩ := hD.lookup (t := 44) (e := 4) keyedInt Try.underlying44 (zeroBool w) (plainElem_bool Try.underlying4 false) (keyInt (x := (k : Int)) (by omega))
  rw [hat k] at hv
  have hvb : v = .bool (S k) := by
    unfold plainElem at hv
    rw [Try.underlying4] at hv
    cases v <;> simp at hv
    rw [hv.1]
  rw [hvb] at hrun
  exact hrun

/-- .. and the first j of a list -/
def InT (S : Nat → Bool) (L : Nat → Int) (j : Nat) (T : Nat → Bool) : Prop := ∀ x : Nat, T x = true ↔ S x = true ∨ ∃ j', j' < j ∧ L j' = (x : Int)

theorem inT_start (S : Nat → Bool) (L : Nat → Int) : InT S L 0 S := fun x => ⟨Or.inl, fun h => h.elim id (fun ⟨j', h, _⟩ => absurd h (Nat.not_lt_zero _))⟩

theorem inT_step {S T : Nat → Bool} {L : Nat → Int} {j y : Nat} (h : InT S L j T) (hy : L j = (y : Int)) : InT S L (j + 1) (fun z => T z || decide (z = y)) := by
  intro x
  rw [Bool.or_eq_true, decide_eq_true_eq, h x]
  constructor
  · rintro ((h | ⟨j', h3, h4⟩) | h)
    · exact Or.inl h
    · exact Or.inr ⟨j', by omega, h4⟩
    · exact Or.inr ⟨j, by omega, by rw [hy, h]⟩
  · rintro (h | ⟨j', h3, h4⟩)
    · exact Or.inl (Or.inl h)
    · by_cases ej : j' = j
      · subst ej; right; omega
      · exact Or.inl (Or.inr ⟨j', by omega, h4⟩)

end Go.Proofs.Ytdhefajaekackaa
