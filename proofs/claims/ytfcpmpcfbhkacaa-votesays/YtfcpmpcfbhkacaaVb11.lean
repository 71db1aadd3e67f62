/- Several texts of one proof, in their order. -/
import Derived.Test.YtfcpmpcfbhkacaaVb5
import Derived.Lib.SliceRun
import Derived.Test.YtfcpmpcfbhkacaaVb8
import Derived.Test.YtfcpmpcfbhkacaaVb10
import Derived.Test.YtfcpmpcfbhkacaaVb9
import Derived.Deep.RegionWith
import Derived.Deep.Cut
import Derived.Deep.CutRange

/- Lists of shares in memory; those that a call makes itself. -/
namespace Go.Proofs.Ytfcpmpcfbhkacaa

open Go.RowKit
set_option linter.unusedVariables false

/-- the slice value v, of n shares, lies below block B of the world w: numbers N, lists V, of L numbers X each -/
def ShSl (w : World) (B : Nat) (v : Value) (n : Nat) (N : Nat → Int) (V : Nat → Value) (L : Nat → Nat) (X : Nat → Nat → Int) : Prop :=
  ∃ (ad : Option Addr) (cap : Nat), v = .slice ad n cap ∧ (n ≤ cap ∧ n * 32 ≤ 140737488351232) ∧ (n = 0 ∨ ∃ b off, ad = some ⟨b, off, none⟩ ∧ b < B ∧ ∀ j, j < n →
    w.cell? ⟨b, off + j * 2, none⟩ = some (.int .i64 (N j)) ∧ w.cell? ⟨b, off + j * 2 + 1, none⟩ = some (V j) ∧ IntSl w B (V j) (L j) (X j))

theorem ShSl.below {w w' : World} {B : Nat} {v : Value} {n : Nat} {N : Nat → Int} {V : Nat → Value} {L : Nat → Nat} {X : Nat → Nat → Int} (h : ShSl w B v n N V L X) (hb : Below B w w') : ShSl w' B v n N V L X := by
  obtain ⟨ad, cap, h1, h0, h2⟩ := h
  refine ⟨ad, cap, h1, h0, ?_⟩
  rcases h2 with h2 | ⟨b, off, h3, h4, h5⟩
  · exact Or.inl h2
  · refine Or.inr ⟨b, off, h3, h4, fun j hj => ?_⟩
    obtain ⟨g1, g2, g3⟩ := h5 j hj
    exact ⟨by rw [hb.cell h4]; exact g1, by rw [hb.cell h4]; exact g2, g3.below hb⟩

theorem ShSl.mono {w : World} {B B' : Nat} {v : Value} {n : Nat} {N : Nat → Int} {V : Nat → Value} {L : Nat → Nat} {X : Nat → Nat → Int} (h : ShSl w B v n N V L X) (hb : B ≤ B') : ShSl w B' v n N V L X := by
  obtain ⟨ad, cap, h1, h0, h2⟩ := h
  refine ⟨ad, cap, h1, h0, ?_⟩
  rcases h2 with h2 | ⟨b, off, h3, h4, h5⟩
  · exact Or.inl h2
  · exact Or.inr ⟨b, off, h3, by omega, fun j hj => ⟨(h5 j hj).1, (h5 j hj).2.1, (h5 j hj).2.2.mono hb⟩⟩

theorem ShSl.up {w w' : World} {v : Value} {n : Nat} {N : Nat → Int} {V : Nat → Value} {L : Nat → Nat} {X : Nat → Nat → Int} (h : ShSl w w.heap.size v n N V L X) (hb : Below w.heap.size w w') : ShSl w' w'.heap.size v n N V L X :=
  (h.below hb).mono hb.size

/-- cell number i of a list of shares -/
def cellS (N : Nat → Int) (V : Nat → Value) (i : Nat) : Value := if i % 2 = 0 then .int .i64 (N (i / 2)) else V (i / 2)
def flatS (n : Nat) (N : Nat → Int) (V : Nat → Value) : List Value := (List.range (n * 2)).map (cellS N V)

theorem flatS_len (n : Nat) (N : Nat → Int) (V : Nat → Value) : (flatS n N V).length = n * 2 := by simp [flatS]

theorem flatS_get (n : Nat) (N : Nat → Int) (V : Nat → Value) (i : Nat) : (flatS n N V)[i]? = if i < n * 2 then some (cellS N V i) else none := by
  unfold flatS
  by_cases h : i < n * 2
  · simp [h]
  · simp [h]

/-- without number k -/
def without {α : Type} (k : Nat) (f : Nat → α) (j : Nat) : α := if j < k then f j else f (j + 1)

theorem flatS_without {n k : Nat} (N : Nat → Int) (V : Nat → Value) (hk : k < n) : (flatS n N V).take (k * 2) ++ (flatS n N V).drop ((k + 1) * 2) = flatS (n - 1) (without k N) (without k V) := by
  apply List.ext_getElem?
  intro i
  rw [flatS_get, List.getElem?_append, List.length_take, flatS_len]
  by_cases h1 : i < min (k * 2) (n * 2)
  · rw [if_pos h1, List.getElem?_take, if_pos (by omega), flatS_get, if_pos (by omega), if_pos (by omega)]
    unfold cellS without
    have h2 : i / 2 < k := by omega
    rw [if_pos h2, if_pos h2]
  · rw [if_neg h1, List.getElem?_drop, flatS_get]
    have e : (k + 1) * 2 + (i - min (k * 2) (n * 2)) = i + 2 := by omega
    rw [e]
    by_cases h2 : i + 2 < n * 2
    · rw [if_pos h2, if_pos (by omega)]
      unfold cellS without
      have h3 : ¬ i / 2 < k := by omega
      have e2 : (i + 2) % 2 = i % 2 := by omega
      have e3 : (i + 2) / 2 = i / 2 + 1 := by omega
      rw [if_neg h3, if_neg h3, e2, e3]
    · rw [if_neg h2, if_neg (by omega)]

theorem flatS_succ (n : Nat) (N : Nat → Int) (V : Nat → Value) : flatS (n + 1) N V = flatS n N V ++ [.int .i64 (N n), V n] := by
  apply List.ext_getElem?
  intro i
  rw [List.getElem?_append, flatS_len, flatS_get, flatS_get]
  by_cases h1 : i < n * 2
  · rw [if_pos (by omega), if_pos h1, if_pos h1]
  · rw [if_neg h1]
    by_cases h2 : i = n * 2
    · subst h2
      rw [if_pos (by omega), Nat.sub_self]
      unfold cellS
      rw [if_pos (by omega), show n * 2 / 2 = n by omega]
      rfl
    · by_cases h3 : i = n * 2 + 1
      · subst h3
        rw [if_pos (by omega), show n * 2 + 1 - n * 2 = 1 by omega]
        unfold cellS
        rw [if_neg (by omega), show (n * 2 + 1) / 2 = n by omega]
        rfl
      · rw [if_neg (by omega)]
        rw [List.getElem?_eq_none (by simp; omega)]

theorem flatS_one {n : Nat} {N : Nat → Int} {V : Nat → Value} (hV : ∀ j, j < n → (V j).oneCell' = true) : ∀ u ∈ flatS n N V, u.oneCell' = true := by
  intro u hu
  obtain ⟨i, hi, rfl⟩ := List.mem_map.1 hu
  have hi' := List.mem_range.1 hi
  unfold cellS
  split
  · rfl
  · exact hV _ (by omega)

/-- a list of shares of the call's own -/
def OwnS (w0 wr : World) (v : Value) (n : Nat) (N : Nat → Int) (V : Nat → Value) : Prop := wr.ownsRow w0.heap.size 27 2 v n (flatS n N V) ∧ Below w0.heap.size w0 wr

theorem OwnS.nil (w : World) (N : Nat → Int) (V : Nat → Value) : OwnS w w (.slice none 0 0) 0 N V := ⟨World.ownsRow_nil _ _ _ _, Below.refl _ _⟩

theorem OwnS.at {w0 wr : World} {v : Value} {n : Nat} {N : Nat → Int} {V : Nat → Value} (h : OwnS w0 wr v n N V) (hn : 1 ≤ n) : ∃ g cap cur, v = .slice (some ⟨g, 0, none⟩) n cap ∧ w0.heap.size ≤ g ∧ wr.heap[g]? = some (.cells cur 27 (0, 0)) ∧ n ≤ cap ∧ cap ≤ maxLen ∧ cur.size = cap * 2 ∧
    ∀ j, j < n → wr.cell? ⟨g, j * 2, none⟩ = some (.int .i64 (N j)) ∧ wr.cell? ⟨g, j * 2 + 1, none⟩ = some (V j) := by
  obtain ⟨⟨hl, h2⟩, hb⟩ := h
  rcases h2 with ⟨_, h0⟩ | ⟨g, cap, cur, hv, hg, hh, hc1, hc2, hsz, hcur⟩
  · omega
  · refine ⟨g, cap, cur, hv, hg, hh, hc1, hc2, hsz, fun j hj => ?_⟩
    have key : ∀ i, i < n * 2 → wr.cell? ⟨g, i, none⟩ = some (cellS N V i) := fun i hi => by
      have h3 := flatS_get n N V i
      rw [if_pos hi, ← hcur, List.getElem?_take, if_pos hi] at h3
      exact cell_at hh (by simpa using h3)
    refine ⟨?_, ?_⟩
    · rw [key (j * 2) (by omega)]
      unfold cellS
      rw [if_pos (by omega), show j * 2 / 2 = j by omega]
    · rw [key (j * 2 + 1) (by omega)]
      unfold cellS
      rw [if_neg (by omega), show (j * 2 + 1) / 2 = j by omega]

theorem OwnS.shl {w0 wr : World} {v : Value} {n : Nat} {N : Nat → Int} {V : Nat → Value} {L : Nat → Nat} {X : Nat → Nat → Int} (h : OwnS w0 wr v n N V) (hr : n * 32 ≤ 140737488351232) (hi : ∀ j, j < n → IntSl wr wr.heap.size (V j) (L j) (X j)) : ShSl wr wr.heap.size v n N V L X := by
  by_cases h0 : n = 0
  · subst h0
    rcases h.1.2 with ⟨rfl, _⟩ | ⟨g, cap, cur, rfl, _, _, hc, _⟩
    · exact ⟨none, 0, rfl, ⟨Nat.le_refl _, by omega⟩, Or.inl rfl⟩
    · exact ⟨_, cap, rfl, ⟨hc, by omega⟩, Or.inl rfl⟩
  · obtain ⟨g, cap, cur, rfl, hg, hh, hc, _, _, hcell⟩ := h.at (by omega)
    refine ⟨_, cap, rfl, ⟨hc, hr⟩, Or.inr ⟨g, 0, rfl, cell_lt (hcell 0 (by omega)).1, fun j hj => ?_⟩⟩
    obtain ⟨c1, c2⟩ := hcell j hj
    rw [Nat.zero_add]
    exact ⟨c1, c2, hi j hj⟩

theorem Try.infoShare : (Try.prog.info? 27).map (fun i => (i.zero, i.size, i.bytes)) = some (some (.agg #[.int .i64 0, .slice none 0 0]), 2, 32) := by kernel_rfl

theorem Try.zeroShare (w : World) : (zeroValue 27).run Try.prog w = .ok (.agg #[.int .i64 0, .slice none 0 0]) w := by kernel_rfl

theorem slice_one {w : World} {B : Nat} {v : Value} {n : Nat} {X : Nat → Int} (h : IntSl w B v n X) : v.oneCell' = true := by
  obtain ⟨ad, cap, rfl, _⟩ := h
  rfl

end Go.Proofs.Ytfcpmpcfbhkacaa

/- Chapter 3 in plain words: plans, shares, what is split and what is joined; what package share owes. -/
namespace Go.Proofs.Ytfcpmpcfbhkacaa

open Go.RowKit CurveMath
set_option linter.unusedVariables false

/-- a content, with noughts behind it -/
def padD (n : Nat) (D : Nat → Int) (j : Nat) : Int := if j < n then D j else 0
/-- the number of row r in share k -/
def shv (nd : Nat) (n : Nat) (D : Nat → Int) (k r : Nat) : Int := crv nd (fun i => (i : Int)) (fun i => padD n D (r * nd + i)) k

/-- what keeps a content from being split -/
def splitE (nd of sz : Int) (n : Nat) (D : Nat → Int) : Int :=
  if planOk nd of sz = true then (if (n : Int) = sz then (if numsB n D = true then 0 else 2) else 3) else 2

/-- shares from number k on, m of them: the first error -/
def scanS (nd of sz : Int) (N : Nat → Int) (L : Nat → Nat) (X : Nat → Nat → Int) : Nat → Nat → Int
  | 0, _ => 0
  | m + 1, k => if oneE nd of sz (N k) (L k) (X k) = 0 then (if hasB N k (N k) = true then 5 else scanS nd of sz N L X m (k + 1)) else oneE nd of sz (N k) (L k) (X k)

/-- what is joined of the first shares -/
def joinD (nd : Nat) (N : Nat → Int) (X : Nat → Nat → Int) (i : Nat) : Int := crv nd N (fun j => X j (i / nd)) ((i % nd : Nat) : Int)
/-- do things not fit together? -/
def tornB (nd sz : Nat) (rows n : Nat) (N : Nat → Int) (X : Nat → Nat → Int) : Bool :=
  !(decide (∀ r, r < rows → ∀ j, j < n → crv nd N (fun i => X i r) (N j) = X j r) && decide (∀ i, i < rows * nd → i < sz ∨ joinD nd N X i = 0))
def joinE (nd of sz : Int) (n : Nat) (N : Nat → Int) (L : Nat → Nat) (X : Nat → Nat → Int) : Int :=
  if planOk nd of sz = true then
    (if n ≤ 8 then
      (if scanS nd of sz N L X n 0 = 0 then
        (if nd ≤ (n : Int) then (if tornB nd.toNat sz.toNat (rowsN nd sz) n N X = true then 9 else 0) else 7)
      else scanS nd of sz N L X n 0)
    else 1)
  else 2

/-- what package share owes -/
structure Owes : Prop where
  check : ∀ (nd of sz : Int) (w : World), Calls Try.prog 17 #[planV nd of sz] w fun e w' => e = .returned (.int .i64 (chkP nd of sz)) ∧ Below w.heap.size w w'
  long : ∀ (nd of sz : Int) (w : World), Calls Try.prog 19 #[planV nd of sz] w fun e w' => e = .returned (.int .i64 (longP nd of sz)) ∧ Below w.heap.size w w'
  one : ∀ (nd of sz N : Int) (V : Value) (L : Nat) (X : Nat → Int) (w : World), IntSl w w.heap.size V L X →
    Calls Try.prog 21 #[planV nd of sz, shareV N V] w fun e w' => e = .returned (.int .i64 (oneE nd of sz N L X)) ∧ Below w.heap.size w w'
  same : ∀ (N1 N2 : Int) (V1 V2 : Value) (n m : Nat) (X Y : Nat → Int) (w : World), IntSl w w.heap.size V1 n X → IntSl w w.heap.size V2 m Y →
    Calls Try.prog 23 #[shareV N1 V1, shareV N2 V2] w fun e w' => e = .returned (.bool (sameB N1 N2 n m X Y)) ∧ Below w.heap.size w w'
  split : ∀ (nd of sz : Int) (v : Value) (n : Nat) (D : Nat → Int) (w : World), IntSl w w.heap.size v n D →
    Calls Try.prog 12 #[planV nd of sz, v] w fun e w' => Below w.heap.size w w' ∧ ∃ (r : Value) (m : Nat) (V : Nat → Value), e = .returned (.tuple #[r, .int .i64 (splitE nd of sz n D)]) ∧
      (m : Int) = (if splitE nd of sz n D = 0 then of else 0) ∧ ShSl w' w'.heap.size r m (fun k => (k : Int)) V (fun _ => rowsN nd sz) (fun k i => shv nd.toNat n D k i) ∧
      Above w.heap.size r ∧ ∀ k, k < m → Above w.heap.size (V k)
  join : ∀ (nd of sz : Int) (v : Value) (n : Nat) (N : Nat → Int) (V : Nat → Value) (L : Nat → Nat) (X : Nat → Nat → Int) (w : World), ShSl w w.heap.size v n N V L X →
    Calls Try.prog 13 #[planV nd of sz, v] w fun e w' => Below w.heap.size w w' ∧ ∃ (r : Value) (m : Nat), e = .returned (.tuple #[r, .int .i64 (joinE nd of sz n N L X)]) ∧
      (m : Int) = (if joinE nd of sz n N L X = 0 then sz else 0) ∧ IntSl w' w'.heap.size r m (joinD nd.toNat N X)

theorem ShSl.set {w : World} {B bs : Nat} {v : Value} {n : Nat} {N : Nat → Int} {V : Nat → Value} {L : Nat → Nat} {X : Nat → Nat → Int} (h : ShSl w B v n N V L X) (ha : Above (bs + 1) v) (hV : ∀ k, k < n → Above (bs + 1) (V k)) (o : Nat) (u : Value) : ShSl (w.setCell ⟨bs, o, none⟩ u) B v n N V L X := by
  obtain ⟨ad, cap, rfl, h0, h2⟩ := h
  refine ⟨ad, cap, rfl, h0, ?_⟩
  rcases h2 with h2 | ⟨b, off, rfl, h4, h5⟩
  · exact Or.inl h2
  · have hb : bs + 1 ≤ b := ha _ _ _ rfl
    refine Or.inr ⟨b, off, rfl, h4, fun j hj => ?_⟩
    obtain ⟨g1, g2, g3⟩ := h5 j hj
    exact ⟨by rw [World.cell?_setCell_other _ _ _ _ (by intro e; injection e with e1; omega)]; exact g1, by rw [World.cell?_setCell_other _ _ _ _ (by intro e; injection e with e1; omega)]; exact g2, g3.set (hV j hj) o u⟩

theorem ShSl.congr {w : World} {B : Nat} {v : Value} {n : Nat} {N N' : Nat → Int} {V : Nat → Value} {L L' : Nat → Nat} {X X' : Nat → Nat → Int} (h : ShSl w B v n N V L X) (h1 : ∀ j, j < n → N j = N' j) (h2 : ∀ j, j < n → L j = L' j) (h3 : ∀ j, j < n → ∀ i, i < L j → X j i = X' j i) : ShSl w B v n N' V L' X' := by
  obtain ⟨ad, cap, rfl, h0, hh⟩ := h
  refine ⟨ad, cap, rfl, h0, ?_⟩
  rcases hh with hh | ⟨b, off, rfl, h4, h5⟩
  · exact Or.inl hh
  · refine Or.inr ⟨b, off, rfl, h4, fun j hj => ?_⟩
    obtain ⟨g1, g2, g3⟩ := h5 j hj
    refine ⟨by rw [g1, h1 j hj], g2, ?_⟩
    rw [← h2 j hj]
    exact g3.congr (h3 j hj)

/-- the first m of n shares -/
theorem ShSl.take {w : World} {B : Nat} {a : Option Addr} {cap n m : Nat} {N : Nat → Int} {V : Nat → Value} {L : Nat → Nat} {X : Nat → Nat → Int} (h : ShSl w B (.slice a n cap) n N V L X) (hm : m ≤ n) : ShSl w B (.slice a m cap) m N V L X := by
  obtain ⟨ad, cp, e, h0, hh⟩ := h
  injection e with e1 _ e3
  subst e1 e3
  refine ⟨a, cap, rfl, ⟨by omega, by omega⟩, ?_⟩
  rcases hh with hh | ⟨b, off, rfl, h4, h5⟩
  · exact Or.inl (by omega)
  · exact Or.inr ⟨b, off, rfl, h4, fun j hj => h5 j (by omega)⟩

end Go.Proofs.Ytfcpmpcfbhkacaa

/- The closed fact that chapter 3's laws ask first, of a package that does what it owes. -/
namespace Go.Proofs.Ytfcpmpcfbhkacaa

open Go.RowKit CurveMath
set_option linter.unusedVariables false

end Go.Proofs.Ytfcpmpcfbhkacaa
