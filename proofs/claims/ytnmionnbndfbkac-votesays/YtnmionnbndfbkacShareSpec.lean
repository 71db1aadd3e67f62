/- Chapter 3 in plain words: plans, shares, what is split and what is joined; what package share owes. -/
import Derived.Test.YtnmionnbndfbkacOwn
import Derived.Test.YtnmionnbndfbkacCurveUp
namespace Go.Proofs.Ytnmionnbndfbkac
open Go.RowKit CurveMath
set_option linter.unusedVariables false

/-- a plan, as a value -/
def planV (nd of sz : Int) : Value := .agg #[.int .i64 nd, .int .i64 of, .int .i64 sz]
/-- a share, as a value -/
def shareV (N : Int) (V : Value) : Value := .agg #[.int .i64 N, V]

def planOk (nd of sz : Int) : Bool := decide ((1 ≤ nd ∧ nd ≤ 4) ∧ (nd ≤ of ∧ of ≤ 8) ∧ (1 ≤ sz ∧ sz ≤ 24))
def chkP (nd of sz : Int) : Int := if planOk nd of sz = true then 0 else 2
/-- size by need, made whole upwards -/
def rowsN (nd sz : Int) : Nat := ((sz + nd - 1) / nd).toNat
def longP (nd of sz : Int) : Int := if planOk nd of sz = true then (rowsN nd sz : Int) else 0

/-- are the first n all numbers? -/
def numsB (n : Nat) (X : Nat → Int) : Bool := decide (∀ j, j < n → isNum (X j) = true)
/-- a share's error -/
def oneE (nd of sz N : Int) (L : Nat) (X : Nat → Int) : Int :=
  if planOk nd of sz = true then (if 0 ≤ N ∧ N < of then (if (L : Int) = rowsN nd sz then (if numsB L X = true then 0 else 2) else 3) else 4) else 2
/-- are two lists alike? -/
def eqB (n m : Nat) (X Y : Nat → Int) : Bool := decide (n = m ∧ ∀ j, j < n → X j = Y j)
def sameB (N1 N2 : Int) (n m : Nat) (X Y : Nat → Int) : Bool := decide (N1 = N2) && eqB n m X Y

/-- a content, with noughts behind it -/
def padD (n : Nat) (D : Nat → Int) (j : Nat) : Int := if j < n then D j else 0
/-- the number of row r in share k -/
def shv (nd : Nat) (n : Nat) (D : Nat → Int) (k r : Nat) : Int := crv nd (fun i => (i : Int)) (fun i => padD n D (r * nd + i)) k

/-- what keeps a content from being split -/
def splitE (nd of sz : Int) (n : Nat) (D : Nat → Int) : Int :=
  if planOk nd of sz = true then (if (n : Int) = sz then (if numsB n D = true then 0 else 2) else 3) else 2

/-- shares from number k on, m of them: the first error -/
def scanS (nd of sz : Int) (N : Nat → Int) (L : Nat → Nat) (X : Nat → Nat → Int) : Nat → Nat → Int
  | 0, _ => 0
  | m + 1, k => if oneE nd of sz (N k) (L k) (X k) = 0 then (if hasB N k (N k) = true then 5 else scanS nd of sz N L X m (k + 1)) else oneE nd of sz (N k) (L k) (X k)

/-- what is joined of the first shares -/
def joinD (nd : Nat) (N : Nat → Int) (X : Nat → Nat → Int) (i : Nat) : Int := crv nd N (fun j => X j (i / nd)) ((i % nd : Nat) : Int)
/-- do things not fit together? -/
def tornB (nd sz : Nat) (rows n : Nat) (N : Nat → Int) (X : Nat → Nat → Int) : Bool :=
  !(decide (∀ r, r < rows → ∀ j, j < n → crv nd N (fun i => X i r) (N j) = X j r) && decide (∀ i, i < rows * nd → i < sz ∨ joinD nd N X i = 0))
def joinE (nd of sz : Int) (n : Nat) (N : Nat → Int) (L : Nat → Nat) (X : Nat → Nat → Int) : Int :=
  if planOk nd of sz = true then
    (if n ≤ 8 then
      (if scanS nd of sz N L X n 0 = 0 then
        (if nd ≤ (n : Int) then (if tornB nd.toNat sz.toNat (rowsN nd sz) n N X = true then 9 else 0) else 7)
      else scanS nd of sz N L X n 0)
    else 1)
  else 2

/-- the slice value v, of n shares, lies below block B of the world w: numbers N, lists V, of L numbers X each -/
def ShSl (w : World) (B : Nat) (v : Value) (n : Nat) (N : Nat → Int) (V : Nat → Value) (L : Nat → Nat) (X : Nat → Nat → Int) : Prop :=
  ∃ (ad : Option Addr) (cap : Nat), v = .slice ad n cap ∧ (n ≤ cap ∧ n * 32 ≤ 140737488351232) ∧ (n = 0 ∨ ∃ b off, ad = some ⟨b, off, none⟩ ∧ b < B ∧ ∀ j, j < n →
    w.cell? ⟨b, off + j * 2, none⟩ = some (.int .i64 (N j)) ∧ w.cell? ⟨b, off + j * 2 + 1, none⟩ = some (V j) ∧ IntSl w B (V j) (L j) (X j))

theorem ShSl.below {w w' : World} {B : Nat} {v : Value} {n : Nat} {N : Nat → Int} {V : Nat → Value} {L : Nat → Nat} {X : Nat → Nat → Int} (h : ShSl w B v n N V L X) (hb : Below B w w') : ShSl w' B v n N V L X := by
  obtain ⟨ad, cap, h1, h0, h2⟩ := h
  refine ⟨ad, cap, h1, h0, ?_⟩
  rcases h2 with h2 | ⟨b, off, h3, h4, h5⟩
  · exact Or.inl h2
  · refine Or.inr ⟨b, off, h3, h4, fun j hj => ?_⟩
    obtain ⟨g1, g2, g3⟩ := h5 j hj
    exact ⟨by rw [hb.cell h4]; exact g1, by rw [hb.cell h4]; exact g2, g3.below hb⟩

theorem ShSl.mono {w : World} {B B' : Nat} {v : Value} {n : Nat} {N : Nat → Int} {V : Nat → Value} {L : Nat → Nat} {X : Nat → Nat → Int} (h : ShSl w B v n N V L X) (hb : B ≤ B') : ShSl w B' v n N V L X := by
  obtain ⟨ad, cap, h1, h0, h2⟩ := h
  refine ⟨ad, cap, h1, h0, ?_⟩
  rcases h2 with h2 | ⟨b, off, h3, h4, h5⟩
  · exact Or.inl h2
  · exact Or.inr ⟨b, off, h3, by omega, fun j hj => ⟨(h5 j hj).1, (h5 j hj).2.1, (h5 j hj).2.2.mono hb⟩⟩

theorem ShSl.up {w w' : World} {v : Value} {n : Nat} {N : Nat → Int} {V : Nat → Value} {L : Nat → Nat} {X : Nat → Nat → Int} (h : ShSl w w.heap.size v n N V L X) (hb : Below w.heap.size w w') : ShSl w' w'.heap.size v n N V L X :=
  (h.below hb).mono hb.size

/-- a list that lies at block B or above -/
def Above (B : Nat) (v : Value) : Prop := ∀ ad n c, v = .slice (some ad) n c → B ≤ ad.block

theorem Above.mono' {B B' : Nat} {v : Value} (h : Above B v) (hb : B' ≤ B) : Above B' v := fun ad n c e => Nat.le_trans hb (h ad n c e)

/-- what package share owes -/
structure Owes : Prop where
  check : ∀ (nd of sz : Int) (w : World), Calls Try.prog 23 #[planV nd of sz] w fun e w' => e = .returned (.int .i64 (chkP nd of sz)) ∧ Below w.heap.size w w'
  long : ∀ (nd of sz : Int) (w : World), Calls Try.prog 10 #[planV nd of sz] w fun e w' => e = .returned (.int .i64 (longP nd of sz)) ∧ Below w.heap.size w w'
  one : ∀ (nd of sz N : Int) (V : Value) (L : Nat) (X : Nat → Int) (w : World), IntSl w w.heap.size V L X →
    Calls Try.prog 27 #[planV nd of sz, shareV N V] w fun e w' => e = .returned (.int .i64 (oneE nd of sz N L X)) ∧ Below w.heap.size w w'
  same : ∀ (N1 N2 : Int) (V1 V2 : Value) (n m : Nat) (X Y : Nat → Int) (w : World), IntSl w w.heap.size V1 n X → IntSl w w.heap.size V2 m Y →
    Calls Try.prog 17 #[shareV N1 V1, shareV N2 V2] w fun e w' => e = .returned (.bool (sameB N1 N2 n m X Y)) ∧ Below w.heap.size w w'
  split : ∀ (nd of sz : Int) (v : Value) (n : Nat) (D : Nat → Int) (w : World), IntSl w w.heap.size v n D →
    Calls Try.prog 8 #[planV nd of sz, v] w fun e w' => Below w.heap.size w w' ∧ ∃ (r : Value) (m : Nat) (V : Nat → Value), e = .returned (.tuple #[r, .int .i64 (splitE nd of sz n D)]) ∧
      (m : Int) = (if splitE nd of sz n D = 0 then of else 0) ∧ ShSl w' w'.heap.size r m (fun k => (k : Int)) V (fun _ => rowsN nd sz) (fun k i => shv nd.toNat n D k i) ∧
      Above w.heap.size r ∧ ∀ k, k < m → Above w.heap.size (V k)
  join : ∀ (nd of sz : Int) (v : Value) (n : Nat) (N : Nat → Int) (V : Nat → Value) (L : Nat → Nat) (X : Nat → Nat → Int) (w : World), ShSl w w.heap.size v n N V L X →
    Calls Try.prog 20 #[planV nd of sz, v] w fun e w' => Below w.heap.size w w' ∧ ∃ (r : Value) (m : Nat), e = .returned (.tuple #[r, .int .i64 (joinE nd of sz n N L X)]) ∧
      (m : Int) = (if joinE nd of sz n N L X = 0 then sz else 0) ∧ IntSl w' w'.heap.size r m (joinD nd.toNat N X)

theorem IntSl.set {w : World} {B bs : Nat} {v : Value} {n : Nat} {X : Nat → Int} (h : IntSl w B v n X) (ha : Above (bs + 1) v) (o : Nat) (u : Value) : IntSl (w.setCell ⟨bs, o, none⟩ u) B v n X := by
  obtain ⟨ad, cap, rfl, h0, h2⟩ := h
  refine ⟨ad, cap, rfl, h0, ?_⟩
  rcases h2 with h2 | ⟨b, off, rfl, h4, h5⟩
  · exact Or.inl h2
  · have hb : bs + 1 ≤ b := ha _ _ _ rfl
    exact Or.inr ⟨b, off, rfl, h4, fun j hj => by rw [World.cell?_setCell_other _ _ _ _ (by intro e; injection e with e1; omega)]; exact h5 j hj⟩

theorem ShSl.set {w : World} {B bs : Nat} {v : Value} {n : Nat} {N : Nat → Int} {V : Nat → Value} {L : Nat → Nat} {X : Nat → Nat → Int} (h : ShSl w B v n N V L X) (ha : Above (bs + 1) v) (hV : ∀ k, k < n → Above (bs + 1) (V k)) (o : Nat) (u : Value) : ShSl (w.setCell ⟨bs, o, none⟩ u) B v n N V L X := by
  obtain ⟨ad, cap, rfl, h0, h2⟩ := h
  refine ⟨ad, cap, rfl, h0, ?_⟩
  rcases h2 with h2 | ⟨b, off, rfl, h4, h5⟩
  · exact Or.inl h2
  · have hb : bs + 1 ≤ b := ha _ _ _ rfl
    refine Or.inr ⟨b, off, rfl, h4, fun j hj => ?_⟩
    obtain ⟨g1, g2, g3⟩ := h5 j hj
    exact ⟨by rw [World.cell?_setCell_other _ _ _ _ (by intro e; injection e with e1; omega)]; exact g1, by rw [World.cell?_setCell_other _ _ _ _ (by intro e; injection e with e1; omega)]; exact g2, g3.set (hV j hj) o u⟩

theorem ShSl.congr {w : World} {B : Nat} {v : Value} {n : Nat} {N N' : Nat → Int} {V : Nat → Value} {L L' : Nat → Nat} {X X' : Nat → Nat → Int} (h : ShSl w B v n N V L X) (h1 : ∀ j, j < n → N j = N' j) (h2 : ∀ j, j < n → L j = L' j) (h3 : ∀ j, j < n → ∀ i, i < L j → X j i = X' j i) : ShSl w B v n N' V L' X' := by
  obtain ⟨ad, cap, rfl, h0, hh⟩ := h
  refine ⟨ad, cap, rfl, h0, ?_⟩
  rcases hh with hh | ⟨b, off, rfl, h4, h5⟩
  · exact Or.inl hh
  · refine Or.inr ⟨b, off, rfl, h4, fun j hj => ?_⟩
    obtain ⟨g1, g2, g3⟩ := h5 j hj
    refine ⟨by rw [g1, h1 j hj], g2, ?_⟩
    rw [← h2 j hj]
    exact g3.congr (h3 j hj)

/-- the first m of n shares -/
theorem ShSl.take {w : World} {B : Nat} {a : Option Addr} {cap n m : Nat} {N : Nat → Int} {V : Nat → Value} {L : Nat → Nat} {X : Nat → Nat → Int} (h : ShSl w B (.slice a n cap) n N V L X) (hm : m ≤ n) : ShSl w B (.slice a m cap) m N V L X := by
  obtain ⟨ad, cp, e, h0, hh⟩ := h
  injection e with e1 _ e3
  subst e1 e3
  refine ⟨a, cap, rfl, ⟨by omega, by omega⟩, ?_⟩
  rcases hh with hh | ⟨b, off, rfl, h4, h5⟩
  · exact Or.inl (by omega)
  · exact Or.inr ⟨b, off, rfl, h4, fun j hj => h5 j (by omega)⟩

/-- slices.Equal of two lists of ints -/
theorem equal_isl {w : World} {v1 v2 : Value} {n m : Nat} {X Y : Nat → Int} {B : Nat} (h1 : IntSl w B v1 n X) (h2 : IntSl w B v2 m Y) :
    Calls Try.prog 14 #[v1, v2] w fun e w' => e = .returned (.bool (eqB n m X Y)) ∧ ∃ k, w' = w.drewN k := by
  obtain ⟨a1, c1, rfl, ⟨hc1, hr1⟩, hx⟩ := h1
  obtain ⟨a2, c2, rfl, ⟨hc2, hr2⟩, hy⟩ := h2
  by_cases hnm : n = m
  · subst hnm
    rcases hx with h0 | ⟨b1, o1, rfl, _, hx⟩
    · subst h0
      have e : eqB 0 0 X Y = true := decide_eq_true ⟨rfl, fun j hj => by omega⟩
      rw [e]
      refine (Try.slices_Equal_int_empty a1 a2 c1 0 c2 w (by omega)).mono ?_
      rintro e w' ⟨he, hw⟩
      exact ⟨by rw [he]; rfl, 0, by rw [hw]; rfl⟩
    · rcases hy with h0 | ⟨b2, o2, rfl, _, hy⟩
      · subst h0
        have e : eqB 0 0 X Y = true := decide_eq_true ⟨rfl, fun j hj => by omega⟩
        rw [e]
        refine (Try.slices_Equal_int_empty (some ⟨b1, o1, none⟩) a2 c1 0 c2 w (by omega)).mono ?_
        rintro e w' ⟨he, hw⟩
        exact ⟨by rw [he]; rfl, 0, by rw [hw]; rfl⟩
      · refine (Try.slices_Equal_int b1 o1 n c1 b2 o2 n c2 ((List.range n).map X) ((List.range n).map Y) w (by simp) (by simp) (by omega) (by omega) (fun j hj => ?_) (fun j hj => ?_)).mono ?_
        · have hj' : j < n := by simpa using hj
          rw [hx j hj']
          simp [hj']
        · have hj' : j < n := by simpa using hj
          rw [hy j hj']
          simp [hj']
        · rintro e w' ⟨he, hw⟩
          refine ⟨?_, hw⟩
          rw [he]
          have e2 : (((List.range n).map X).take n == ((List.range n).map Y).take n) = eqB n n X Y := by
            have h1 : ((List.range n).map X).take n = (List.range n).map X := List.take_of_length_le (by simp)
            have h2 : ((List.range n).map Y).take n = (List.range n).map Y := List.take_of_length_le (by simp)
            rw [h1, h2, Bool.eq_iff_iff]
            simp only [beq_iff_eq, eqB, decide_eq_true_eq, true_and]
            constructor
            · intro h j hj
              have h3 := congrArg (fun l => l[j]?) h
              simpa [hj] using h3
            · intro h
              exact List.map_congr_left fun j hj => h j (List.mem_range.1 hj)
          rw [e2]
  · have e : eqB n m X Y = false := decide_eq_false (fun h => hnm h.1)
    rw [e]
    refine (Try.slices_Equal_int_lens a1 a2 n c1 m c2 w hnm).mono ?_
    rintro e w' ⟨he, hw⟩
    exact ⟨he, 0, by rw [hw]; rfl⟩

end Go.Proofs.Ytnmionnbndfbkac
