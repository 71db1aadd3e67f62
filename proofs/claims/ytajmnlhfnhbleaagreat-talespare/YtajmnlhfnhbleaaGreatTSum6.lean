/- Several texts of one proof, in their order. -/
import Derived.Test.YtajmnlhfnhbleaaGreatTSum1
import Derived.Lib.SliceRun
import Derived.Test.YtajmnlhfnhbleaaGreatTSum5
import Derived.Test.YtajmnlhfnhbleaaGreatTSum2
import Derived.Deep.RegionWith
import Derived.Deep.Cut
import Derived.Deep.CutRange
import Derived.Test.YtajmnlhfnhbleaaGreatTSum3
import Derived.Maps.AppendAt

namespace Go.Proofs.YtajmnlhfnhbleaaGreat

open Go.RowKit
set_option linter.unusedVariables false

def ShSl (w : World) (B : Nat) (v : Value) (n : Nat) (N : Nat → Int) (V : Nat → Value) (L : Nat → Nat) (X : Nat → Nat → Int) : Prop :=
  ∃ (ad : Option Addr) (cap : Nat), v = .slice ad n cap ∧ (n ≤ cap ∧ n * 32 ≤ 140737488351232) ∧ (n = 0 ∨ ∃ b off, ad = some ⟨b, off, none⟩ ∧ b < B ∧ ∀ j, j < n →
    w.cell? ⟨b, off + j * 2, none⟩ = some (.int .i64 (N j)) ∧ w.cell? ⟨b, off + j * 2 + 1, none⟩ = some (V j) ∧ IntSl w B (V j) (L j) (X j))

theorem ShSl.below {w w' : World} {B : Nat} {v : Value} {n : Nat} {N : Nat → Int} {V : Nat → Value} {L : Nat → Nat} {X : Nat → Nat → Int} (h : ShSl w B v n N V L X) (hb : Below B w w') : ShSl w' B v n N V L X := by
  obtain ⟨ad, cap, h1, h0, h2⟩ := h
  refine ⟨ad, cap, h1, h0, ?_⟩
  rcases h2 with h2 | ⟨b, off, h3, h4, h5⟩
  · exact Or.inl h2
  · refine Or.inr ⟨b, off, h3, h4, fun j hj => ?_⟩
    obtain ⟨g1, g2, g3⟩ := h5 j hj
    exact ⟨by rw [hb.cell h4]; exact g1, by rw [hb.cell h4]; exact g2, g3.below hb⟩

theorem ShSl.mono {w : World} {B B' : Nat} {v : Value} {n : Nat} {N : Nat → Int} {V : Nat → Value} {L : Nat → Nat} {X : Nat → Nat → Int} (h : ShSl w B v n N V L X) (hb : B ≤ B') : ShSl w B' v n N V L X := by
  obtain ⟨ad, cap, h1, h0, h2⟩ := h
  refine ⟨ad, cap, h1, h0, ?_⟩
  rcases h2 with h2 | ⟨b, off, h3, h4, h5⟩
  · exact Or.inl h2
  · exact Or.inr ⟨b, off, h3, by omega, fun j hj => ⟨(h5 j hj).1, (h5 j hj).2.1, (h5 j hj).2.2.mono hb⟩⟩

theorem ShSl.up {w w' : World} {v : Value} {n : Nat} {N : Nat → Int} {V : Nat → Value} {L : Nat → Nat} {X : Nat → Nat → Int} (h : ShSl w w.heap.size v n N V L X) (hb : Below w.heap.size w w') : ShSl w' w'.heap.size v n N V L X :=
  (h.below hb).mono hb.size

def cellS (N : Nat → Int) (V : Nat → Value) (i : Nat) : Value := if i % 2 = 0 then .int .i64 (N (i / 2)) else V (i / 2)
def flatS (n : Nat) (N : Nat → Int) (V : Nat → Value) : List Value := (List.range (n * 2)).map (cellS N V)

theorem flatS_len (n : Nat) (N : Nat → Int) (V : Nat → Value) : (flatS n N V).length = n * 2 := by simp [flatS]

theorem flatS_get (n : Nat) (N : Nat → Int) (V : Nat → Value) (i : Nat) : (flatS n N V)[i]? = if i < n * 2 then some (cellS N V i) else none := by
  unfold flatS
  by_cases h : i < n * 2
  · simp [h]
  · simp [h]

theorem flatS_succ (n : Nat) (N : Nat → Int) (V : Nat → Value) : flatS (n + 1) N V = flatS n N V ++ [.int .i64 (N n), V n] := by
  apply List.ext_getElem?
  intro i
  rw [List.getElem?_append, flatS_len, flatS_get, flatS_get]
  by_cases h1 : i < n * 2
  · rw [if_pos (by omega), if_pos h1, if_pos h1]
  · rw [if_neg h1]
    by_cases h2 : i = n * 2
    · subst h2
      rw [if_pos (by omega), Nat.sub_self]
      unfold cellS
      rw [if_pos (by omega), show n * 2 / 2 = n by omega]
      rfl
    · by_cases h3 : i = n * 2 + 1
      · subst h3
        rw [if_pos (by omega), show n * 2 + 1 - n * 2 = 1 by omega]
        unfold cellS
        rw [if_neg (by omega), show (n * 2 + 1) / 2 = n by omega]
        rfl
      · rw [if_neg (by omega)]
        rw [List.getElem?_eq_none (by simp; omega)]

theorem flatS_one {n : Nat} {N : Nat → Int} {V : Nat → Value} (hV : ∀ j, j < n → (V j).oneCell' = true) : ∀ u ∈ flatS n N V, u.oneCell' = true := by
  intro u hu
  obtain ⟨i, hi, rfl⟩ := List.mem_map.1 hu
  have hi' := List.mem_range.1 hi
  unfold cellS
  split
  · rfl
  · exact hV _ (by omega)

def OwnS (w0 wr : World) (v : Value) (n : Nat) (N : Nat → Int) (V : Nat → Value) : Prop := wr.ownsRow w0.heap.size 81 2 v n (flatS n N V) ∧ Below w0.heap.size w0 wr

theorem OwnS.nil (w : World) (N : Nat → Int) (V : Nat → Value) : OwnS w w (.slice none 0 0) 0 N V := ⟨World.ownsRow_nil _ _ _ _, Below.refl _ _⟩

theorem OwnS.at {w0 wr : World} {v : Value} {n : Nat} {N : Nat → Int} {V : Nat → Value} (h : OwnS w0 wr v n N V) (hn : 1 ≤ n) : ∃ g cap cur, v = .slice (some ⟨g, 0, none⟩) n cap ∧ w0.heap.size ≤ g ∧ wr.heap[g]? = some (.cells cur 81 (0, 0)) ∧ n ≤ cap ∧ cap ≤ maxLen ∧ cur.size = cap * 2 ∧
    ∀ j, j < n → wr.cell? ⟨g, j * 2, none⟩ = some (.int .i64 (N j)) ∧ wr.cell? ⟨g, j * 2 + 1, none⟩ = some (V j) := by
  obtain ⟨⟨hl, h2⟩, hb⟩ := h
  rcases h2 with ⟨_, h0⟩ | ⟨g, cap, cur, hv, hg, hh, hc1, hc2, hsz, hcur⟩
  · omega
  · refine ⟨g, cap, cur, hv, hg, hh, hc1, hc2, hsz, fun j hj => ?_⟩
    have key : ∀ i, i < n * 2 → wr.cell? ⟨g, i, none⟩ = some (cellS N V i) := fun i hi => by
      have h3 := flatS_get n N V i
      rw [if_pos hi, ← hcur, List.getElem?_take, if_pos hi] at h3
      exact cell_at hh (by simpa using h3)
    refine ⟨?_, ?_⟩
    · rw [key (j * 2) (by omega)]
      unfold cellS
      rw [if_pos (by omega), show j * 2 / 2 = j by omega]
    · rw [key (j * 2 + 1) (by omega)]
      unfold cellS
      rw [if_neg (by omega), show (j * 2 + 1) / 2 = j by omega]

theorem OwnS.shl {w0 wr : World} {v : Value} {n : Nat} {N : Nat → Int} {V : Nat → Value} {L : Nat → Nat} {X : Nat → Nat → Int} (h : OwnS w0 wr v n N V) (hr : n * 32 ≤ 140737488351232) (hi : ∀ j, j < n → IntSl wr wr.heap.size (V j) (L j) (X j)) : ShSl wr wr.heap.size v n N V L X := by
  by_cases h0 : n = 0
  · subst h0
    rcases h.1.2 with ⟨rfl, _⟩ | ⟨g, cap, cur, rfl, _, _, hc, _⟩
    · exact ⟨none, 0, rfl, ⟨Nat.le_refl _, by omega⟩, Or.inl rfl⟩
    · exact ⟨_, cap, rfl, ⟨hc, by omega⟩, Or.inl rfl⟩
  · obtain ⟨g, cap, cur, rfl, hg, hh, hc, _, _, hcell⟩ := h.at (by omega)
    refine ⟨_, cap, rfl, ⟨hc, hr⟩, Or.inr ⟨g, 0, rfl, cell_lt (hcell 0 (by omega)).1, fun j hj => ?_⟩⟩
    obtain ⟨c1, c2⟩ := hcell j hj
    rw [Nat.zero_add]
    exact ⟨c1, c2, hi j hj⟩

theorem Tryz.infoShare : (Tryz.prog.info? 81).map (fun i => (i.zero, i.size, i.bytes)) = some (some (.agg #[.int .i64 0, .slice none 0 0]), 2, 32) := by kernel_rfl

theorem slice_one {w : World} {B : Nat} {v : Value} {n : Nat} {X : Nat → Int} (h : IntSl w B v n X) : v.oneCell' = true := by
  obtain ⟨ad, cap, rfl, _⟩ := h
  rfl

end Go.Proofs.YtajmnlhfnhbleaaGreat

namespace Go.Proofs.YtajmnlhfnhbleaaGreat

open Go.RowKit CurveMath
set_option linter.unusedVariables false

def padD (n : Nat) (D : Nat → Int) (j : Nat) : Int := if j < n then D j else 0
def shv (nd : Nat) (n : Nat) (D : Nat → Int) (k r : Nat) : Int := crv nd (fun i => (i : Int)) (fun i => padD n D (r * nd + i)) k

def splitE (nd of sz : Int) (n : Nat) (D : Nat → Int) : Int :=
  if planOk nd of sz = true then (if (n : Int) = sz then (if numsB n D = true then 0 else 2) else 3) else 2

def scanS (nd of sz : Int) (N : Nat → Int) (L : Nat → Nat) (X : Nat → Nat → Int) : Nat → Nat → Int
  | 0, _ => 0
  | m + 1, k => if oneE nd of sz (N k) (L k) (X k) = 0 then (if hasB N k (N k) = true then 5 else scanS nd of sz N L X m (k + 1)) else oneE nd of sz (N k) (L k) (X k)

def joinD (nd : Nat) (N : Nat → Int) (X : Nat → Nat → Int) (i : Nat) : Int := crv nd N (fun j => X j (i / nd)) ((i % nd : Nat) : Int)
def tornB (nd sz : Nat) (rows n : Nat) (N : Nat → Int) (X : Nat → Nat → Int) : Bool :=
  !(decide (∀ r, r < rows → ∀ j, j < n → crv nd N (fun i => X i r) (N j) = X j r) && decide (∀ i, i < rows * nd → i < sz ∨ joinD nd N X i = 0))
def joinE (nd of sz : Int) (n : Nat) (N : Nat → Int) (L : Nat → Nat) (X : Nat → Nat → Int) : Int :=
  if planOk nd of sz = true then
    (if n ≤ 8 then
      (if scanS nd of sz N L X n 0 = 0 then
        (if nd ≤ (n : Int) then (if tornB nd.toNat sz.toNat (rowsN nd sz) n N X = true then 9 else 0) else 7)
      else scanS nd of sz N L X n 0)
    else 1)
  else 2

structure Owes : Prop where
  check : ∀ (nd of sz : Int) (w : World), Calls Tryz.prog 110 #[planV nd of sz] w fun e w' => e = .returned (.int .i64 (chkP nd of sz)) ∧ Below w.heap.size w w'
  long : ∀ (nd of sz : Int) (w : World), Calls Tryz.prog 112 #[planV nd of sz] w fun e w' => e = .returned (.int .i64 (longP nd of sz)) ∧ Below w.heap.size w w'
  one : ∀ (nd of sz N : Int) (V : Value) (L : Nat) (X : Nat → Int) (w : World), IntSl w w.heap.size V L X →
    Calls Tryz.prog 164 #[planV nd of sz, shareV N V] w fun e w' => e = .returned (.int .i64 (oneE nd of sz N L X)) ∧ Below w.heap.size w w'
  same : ∀ (N1 N2 : Int) (V1 V2 : Value) (n m : Nat) (X Y : Nat → Int) (w : World), IntSl w w.heap.size V1 n X → IntSl w w.heap.size V2 m Y →
    Calls Tryz.prog 67 #[shareV N1 V1, shareV N2 V2] w fun e w' => e = .returned (.bool (sameB N1 N2 n m X Y)) ∧ Below w.heap.size w w'
  split : ∀ (nd of sz : Int) (v : Value) (n : Nat) (D : Nat → Int) (w : World), IntSl w w.heap.size v n D →
    Calls Tryz.prog 79 #[planV nd of sz, v] w fun e w' => Below w.heap.size w w' ∧ ∃ (r : Value) (m : Nat) (V : Nat → Value), e = .returned (.tuple #[r, .int .i64 (splitE nd of sz n D)]) ∧
      (m : Int) = (if splitE nd of sz n D = 0 then of else 0) ∧ ShSl w' w'.heap.size r m (fun k => (k : Int)) V (fun _ => rowsN nd sz) (fun k i => shv nd.toNat n D k i) ∧
      Above w.heap.size r ∧ ∀ k, k < m → Above w.heap.size (V k)
  join : ∀ (nd of sz : Int) (v : Value) (n : Nat) (N : Nat → Int) (V : Nat → Value) (L : Nat → Nat) (X : Nat → Nat → Int) (w : World), ShSl w w.heap.size v n N V L X →
    Calls Tryz.prog 104 #[planV nd of sz, v] w fun e w' => Below w.heap.size w w' ∧ ∃ (r : Value) (m : Nat), e = .returned (.tuple #[r, .int .i64 (joinE nd of sz n N L X)]) ∧
      (m : Int) = (if joinE nd of sz n N L X = 0 then sz else 0) ∧ IntSl w' w'.heap.size r m (joinD nd.toNat N X)

theorem ShSl.take {w : World} {B : Nat} {a : Option Addr} {cap n m : Nat} {N : Nat → Int} {V : Nat → Value} {L : Nat → Nat} {X : Nat → Nat → Int} (h : ShSl w B (.slice a n cap) n N V L X) (hm : m ≤ n) : ShSl w B (.slice a m cap) m N V L X := by
  obtain ⟨ad, cp, e, h0, hh⟩ := h
  injection e with e1 _ e3
  subst e1 e3
  refine ⟨a, cap, rfl, ⟨by omega, by omega⟩, ?_⟩
  rcases hh with hh | ⟨b, off, rfl, h4, h5⟩
  · exact Or.inl (by omega)
  · exact Or.inr ⟨b, off, rfl, h4, fun j hj => h5 j (by omega)⟩

end Go.Proofs.YtajmnlhfnhbleaaGreat

namespace Go.Proofs.YtajmnlhfnhbleaaGreat

open Go.RowKit CurveMath
set_option linter.unusedVariables false

end Go.Proofs.YtajmnlhfnhbleaaGreat

namespace Go.Proofs.YtajmnlhfnhbleaaGreat

open Go.RowKit CurveMath
set_option linter.unusedVariables false

theorem splitE_ok {nd of sz : Int} {n : Nat} {D : Nat → Int} (h : splitE nd of sz n D = 0) : planOk nd of sz = true ∧ (n : Int) = sz ∧ ∀ j, j < n → 0 ≤ D j ∧ D j ≤ 30 := by
  unfold splitE at h
  by_cases h1 : planOk nd of sz = true
  · rw [if_pos h1] at h
    by_cases h2 : (n : Int) = sz
    · rw [if_pos h2] at h
      by_cases h3 : numsB n D = true
      · refine ⟨h1, h2, fun j hj => ?_⟩
        exact (isNum_iff _).1 ((of_decide_eq_true h3) j hj)
      · rw [if_neg h3] at h; omega
    · rw [if_neg h2] at h; omega
  · rw [if_neg h1] at h; omega

theorem crv_own {n m : Nat} {X Y : Nat → Int} (h : Good n m X Y) (j : Nat) (hj : j < n) : crv n X Y (X j) = Y j := by
  have hm := h.same
  refine (crv_of n X Y (X j) (Y j) (h.ys j hj) ?_).symm
  unfold crvF
  exact (newt_at (fun i => toF (X i)) (fun i => toF (Y i)) n h.injF j hj).symm

theorem padD_num {n : Nat} {D : Nat → Int} (hD : ∀ j, j < n → 0 ≤ D j ∧ D j ≤ 30) (j : Nat) : 0 ≤ padD n D j ∧ padD n D j ≤ 30 := by
  unfold padD
  split
  · rename_i h; exact hD j h
  · omega

theorem good_row {d n : Nat} {D : Nat → Int} (hd : 1 ≤ d ∧ d ≤ 8) (hD : ∀ j, j < n → 0 ≤ D j ∧ D j ≤ 30) (r : Nat) : Good d d (fun i => (i : Int)) (fun i => padD n D (r * d + i)) :=
  ⟨rfl, hd, fun j hj => by omega, fun j hj => padD_num hD _, fun i j _ _ e => by have e2 : (i : Int) = (j : Int) := e; omega⟩

theorem shv_num (d n : Nat) (D : Nat → Int) (k r : Nat) : 0 ≤ shv d n D k r ∧ shv d n D k r ≤ 30 := crv_num _ _ _ _

end Go.Proofs.YtajmnlhfnhbleaaGreat

namespace Go.Proofs.YtajmnlhfnhbleaaGreat

open Go.RowKit CurveMath
set_option linter.unusedVariables false

end Go.Proofs.YtajmnlhfnhbleaaGreat

namespace Go.Proofs.YtajmnlhfnhbleaaGreat

open Go.RowKit CurveMath
set_option linter.unusedVariables false

theorem cloneS {w : World} {v : Value} {n : Nat} {N : Nat → Int} {V : Nat → Value} {L : Nat → Nat} {X : Nat → Nat → Int} (h : ShSl w w.heap.size v n N V L X) (hn : 1 ≤ n ∧ n ≤ 1000) :
    Calls Tryz.prog 142 #[v] w fun e w' => ∃ v', e = .returned v' ∧ OwnS w w' v' n N V := by
  obtain ⟨ad, cap, rfl, ⟨hc, hr⟩, hx⟩ := h
  rcases hx with h0 | ⟨b, off, rfl, hb, hx⟩
  · omega
  have hnews : ∀ j u, (flatS n N V)[j]? = some u → w.cell? ⟨b, off + j, none⟩ = some u := by
    intro j u hu
    rw [flatS_get] at hu
    by_cases h : j < n * 2
    · rw [if_pos h] at hu
      injection hu with hu
      rw [← hu]
      obtain ⟨c1, c2, _⟩ := hx (j / 2) (by omega)
      unfold cellS
      by_cases h2 : j % 2 = 0
      · rw [if_pos h2, ← c1]
        rw [show off + j / 2 * 2 = off + j by omega]
      · rw [if_neg h2, ← c2]
        rw [show off + j / 2 * 2 + 1 = off + j by omega]
    · rw [if_neg h] at hu; cases hu
  have h1 : ∀ u ∈ flatS n N V, u.oneCell' = true := flatS_one fun j hj => slice_one (hx j hj).2.2
  have HNw := hid hnews
  have H1 := hid h1
  clear hx hnews h1
  have q25 : ∀ (w : World) (a : Option Addr) (n c : Nat), (binOp .eql 103 (.slice a n c) (.slice none 0 0)).run Tryz.prog w = .ok (.bool a.isNone) w := fun w a n c => Lib.run_eql_slice_nil w _ _ a n c 0 0 Tryz.underlying103
  obtain ⟨ii, hi, hz0, hz1, hz2⟩ := info_parts Tryz.infoShare
  go_enter Tryz.func142, Tryz.ntmps142
  go_wp2_with (at_builtin; go_must (refine wpList_append_own _ rfl _ _ 103 rfl w.heap.size 81 ii (.agg #[.int .i64 0, .slice none 0 0]) 2 32 Tryz.underlying103 hi hz0 hz1 hz2 rfl (by decide) _ _ _ rfl (World.ownsRow_made w #[] 0 (Nat.le_refl _) (Nat.zero_le _) (by simp)) ⟨b, off, none⟩ n cap (flatS n N V) rfl (flatS_len _ _ _) (fun j u hu => by rw [Addr.add_lit]; exact Lib.cell?_alloc_some _ (HNw.out j u hu)) H1.out (by unfold maxLen; omega) (by omega) (by simp) ?_; intro v1 w2 ho hg _; have HO := hid ho; have HG := hid hg; clear ho hg))
  go_ret
  refine ⟨_, rfl, ?_, ?_⟩
  · have h := HO.out
    rw [Nat.zero_add, List.nil_append] at h
    exact h
  · exact ((Below.refl _ _).alloc (Nat.le_refl _) _).grown HG.out (by simp) (fun k hk => by cases hk; exact Nat.le_refl _)

theorem owns_room {w : World} {base g n cap : Nat} {e : TypeId} {ys : List Value} (h : w.ownsRow base e 2 (.slice (some ⟨g, 0, none⟩) n cap) n ys) (i : Nat) (hi : i < cap * 2) : (∃ u, w.cell? ⟨g, i, none⟩ = some u) ∧ w.frozen? ⟨g, i, none⟩ = false := by
  obtain ⟨hl, h2⟩ := h
  rcases h2 with ⟨h0, _⟩ | ⟨g', cap', cur, hv, hg, hh, hc1, hc2, hsz, hcur⟩
  · cases h0
  · injection hv with e1 _ e3
    injection e1 with e1
    injection e1 with e1
    subst e1 e3
    exact ⟨⟨_, cell_at hh (Array.getElem?_eq_getElem (by omega))⟩, frozen_at hh⟩

end Go.Proofs.YtajmnlhfnhbleaaGreat

namespace Go.Proofs.YtajmnlhfnhbleaaGreat

open Go.RowKit CurveMath
set_option linter.unusedVariables false

theorem OwnI.pushA {w0 wr w1 : World} {v v' : Value} {k : Nat} {C : Nat → Int} {x : Int} (h : OwnI w0 wr v k C) (o : Obj)
    (ho : w1.ownsRow w0.heap.size 3 1 v' (k + 1) (((List.range k).map fun j => Value.int .i64 (C j)) ++ [.int .i64 x])) (hg : (wr.alloc o).grownBy w1 v.ownBlock) (hx : C k = x) : OwnI w0 w1 v' (k + 1) C :=
  h.push o 0 ho hg hx

end Go.Proofs.YtajmnlhfnhbleaaGreat

namespace Go.Proofs.YtajmnlhfnhbleaaGreat

open Go.RowKit CurveMath
set_option linter.unusedVariables false

theorem flatS_congr {n : Nat} {N N' : Nat → Int} {V V' : Nat → Value} (h : ∀ j, j < n → N j = N' j ∧ V j = V' j) : flatS n N V = flatS n N' V' := by
  apply List.ext_getElem?
  intro i
  rw [flatS_get, flatS_get]
  by_cases hi : i < n * 2
  · rw [if_pos hi, if_pos hi]
    unfold cellS
    obtain ⟨h1, h2⟩ := h (i / 2) (by omega)
    rw [h1, h2]
  · rw [if_neg hi, if_neg hi]

theorem cells_two (w : World) (N : Int) (v : Value) (T : TypeId) : ∀ j u, ([.int .i64 N, v] : List Value)[j]? = some u → (w.alloc (.cells #[.int .i64 N, v] T)).cell? (Addr.add ⟨w.heap.size, 0, none⟩ j) = some u := by
  intro j u hj
  rw [Addr.add_lit]
  match j, hj with
  | 0, hj => simp at hj; subst hj; exact cell_at (heap_alloc_new _ _) rfl
  | 1, hj => simp at hj; subst hj; exact cell_at (heap_alloc_new _ _) rfl

end Go.Proofs.YtajmnlhfnhbleaaGreat

namespace Go.Proofs.YtajmnlhfnhbleaaGreat

open Go.RowKit CurveMath
set_option linter.unusedVariables false

theorem OwnS.pushS {w0 wr w1 : World} {v v' : Value} {k : Nat} {N N' : Nat → Int} {V V' : Nat → Value} {x : Int} {u : Value} {o : Obj} (h : OwnS w0 wr v k N V)
    (ho : w1.ownsRow w0.heap.size 81 2 v' (k + 1) (flatS k N V ++ [.int .i64 x, u])) (hg : (wr.alloc o).grownBy w1 v.ownBlock) (hN : ∀ j, j < k → N' j = N j ∧ V' j = V j) (hx : N' k = x) (hu : V' k = u) : OwnS w0 w1 v' (k + 1) N' V' := by
  refine ⟨?_, ?_⟩
  · rw [flatS_succ, hx, hu, flatS_congr (N' := N) (V' := V) hN]
    exact ho
  · have hbA : Below w0.heap.size w0 (wr.alloc o) := h.2.alloc h.2.size o
    exact hbA.grown hg hbA.size (fun g hgg => (h.1.lt g hgg).1)

theorem OwnS.up {w0 wr w' : World} {v : Value} {k : Nat} {N : Nat → Int} {V : Nat → Value} (h : OwnS w0 wr v k N V) (hb : Below wr.heap.size wr w') : OwnS w0 w' v k N V :=
  ⟨owns_below h.1 hb, h.2.trans (hb.mono h.2.size)⟩

end Go.Proofs.YtajmnlhfnhbleaaGreat

namespace Go.Proofs.YtajmnlhfnhbleaaGreat

open Go.RowKit CurveMath
set_option linter.unusedVariables false

section

variable {nd of sz : Int} {N : Nat → Int} {L : Nat → Nat} {X : Nat → Nat → Int} {n k : Nat} {e : Int}

theorem scanS_bad (hk : k < n) (h : scanS nd of sz N L X (n - k) k = e) (hb : oneE nd of sz (N k) (L k) (X k) ≠ 0) : e = oneE nd of sz (N k) (L k) (X k) := by
  rw [show n - k = (n - k - 1) + 1 by omega] at h
  simp only [scanS] at h
  rw [if_neg hb] at h
  exact h.symm

theorem scanS_dup (hk : k < n) (h : scanS nd of sz N L X (n - k) k = e) (hb : oneE nd of sz (N k) (L k) (X k) = 0) (hd : hasB N k (N k) = true) : e = 5 := by
  rw [show n - k = (n - k - 1) + 1 by omega] at h
  simp only [scanS] at h
  rw [if_pos hb, if_pos hd] at h
  exact h.symm

theorem scanS_next (hk : k < n) (h : scanS nd of sz N L X (n - k) k = e) (hb : oneE nd of sz (N k) (L k) (X k) = 0) (hd : hasB N k (N k) = false) : scanS nd of sz N L X (n - (k + 1)) (k + 1) = e := by
  rw [show n - k = (n - (k + 1)) + 1 by omega] at h
  simp only [scanS] at h
  rw [if_pos hb, if_neg (by rw [hd]; decide)] at h
  exact h

theorem oneE_who (h : oneE nd of sz (N k) (L k) (X k) = 0) : planOk nd of sz = true ∧ (0 ≤ N k ∧ N k < of) ∧ (L k : Int) = rowsN nd sz ∧ ∀ j, j < L k → 0 ≤ X k j ∧ X k j ≤ 30 := by
  unfold oneE at h
  by_cases h1 : planOk nd of sz = true
  · rw [if_pos h1] at h
    by_cases h2 : 0 ≤ N k ∧ N k < of
    · rw [if_pos h2] at h
      by_cases h3 : (L k : Int) = rowsN nd sz
      · rw [if_pos h3] at h
        by_cases h4 : numsB (L k) (X k) = true
        · exact ⟨h1, h2, h3, fun j hj => (isNum_iff _).1 ((of_decide_eq_true h4) j hj)⟩
        · rw [if_neg h4] at h; omega
      · rw [if_neg h3] at h; omega
    · rw [if_neg h2] at h; omega
  · rw [if_neg h1] at h; omega

end

def checksE (nd of sz : Int) (n : Nat) (N : Nat → Int) (L : Nat → Nat) (X : Nat → Nat → Int) : Int :=
  if planOk nd of sz = true then (if n ≤ 8 then (if scanS nd of sz N L X n 0 = 0 then (if nd ≤ (n : Int) then 0 else 7) else scanS nd of sz N L X n 0) else 1) else 2

end Go.Proofs.YtajmnlhfnhbleaaGreat

namespace Go.Proofs.YtajmnlhfnhbleaaGreat

open Go.RowKit CurveMath
set_option linter.unusedVariables false

def madeB (d s R : Nat) (N : Nat → Int) (X : Nat → Nat → Int) : Bool := decide (∀ i, i < R * d → i < s ∨ joinD d N X i = 0)

theorem joinD_row {d r t : Nat} {N : Nat → Int} {X : Nat → Nat → Int} (ht : t < d) : joinD d N X (r * d + t) = crv d N (fun j => X j r) (t : Int) := by
  unfold joinD
  have e1 : (r * d + t) / d = r := by rw [Nat.mul_comm, Nat.mul_add_div (by omega), Nat.div_eq_of_lt ht, Nat.add_zero]
  have e2 : (r * d + t) % d = t := by rw [Nat.mul_comm, Nat.mul_add_mod, Nat.mod_eq_of_lt ht]
  rw [e1, e2]

end Go.Proofs.YtajmnlhfnhbleaaGreat

namespace Go.Proofs.YtajmnlhfnhbleaaGreat

open Go.RowKit CurveMath
set_option linter.unusedVariables false

theorem crv_alike {n n' m : Nat} {X Y A B : Nat → Int} (h : Good n n' X Y) (hg : Good m m A B) (hm : n ≤ m) (hAB : ∀ j, j < m → B j = crv n X Y (A j)) (t : Int) : crv m A B t = crv n X Y t := by
  refine crv_uniq hg (fun u => newt (fun i => toF (X i)) (fun i => dd (fun i => toF (X i)) (fun i => toF (Y i)) i i) n u) ((newt_deg _ _ n h.injF).mono hm) ?_ t _ (crv_num n X Y t) (toF_crv n X Y t)
  intro j hj
  rw [hAB j hj, toF_crv]
  rfl

theorem scanS_mk {nd of sz : Int} {N : Nat → Int} {L : Nat → Nat} {X : Nat → Nat → Int} (m : Nat) : ∀ k, (∀ j, k ≤ j → j < k + m → oneE nd of sz (N j) (L j) (X j) = 0 ∧ hasB N j (N j) = false) → scanS nd of sz N L X m k = 0 := by
  induction m with
  | zero => intro k _; rfl
  | succ m ih =>
    intro k h
    obtain ⟨h1, h2⟩ := h k (by omega) (by omega)
    simp only [scanS]
    rw [if_pos h1, if_neg (by rw [h2]; decide)]
    exact ih (k + 1) (fun j a b => h j (by omega) (by omega))

theorem oneE_mk {nd of sz N : Int} {L : Nat} {X : Nat → Int} (hp : planOk nd of sz = true) (hN : 0 ≤ N ∧ N < of) (hL : (L : Int) = rowsN nd sz) (hX : ∀ j, j < L → 0 ≤ X j ∧ X j ≤ 30) : oneE nd of sz N L X = 0 := by
  unfold oneE
  have h4 : numsB L X = true := decide_eq_true fun j hj => (isNum_iff _).2 (hX j hj)
  rw [if_pos hp, if_pos hN, if_pos hL, if_pos h4]

section

variable {d m n c : Nat} {D : Nat → Int} {O : Nat → Nat}

theorem good_pick (hd : 1 ≤ d ∧ d ≤ 8) (ho : ∀ j, j < d → O j < 8) (hi : ∀ i j, i < d → j < d → O i = O j → i = j) (r : Nat) : Good d d (fun j => (O j : Int)) (fun j => shv d n D (O j) r) :=
  ⟨rfl, hd, fun j hj => by have := ho j hj; show 0 ≤ (O j : Int) ∧ (O j : Int) ≤ 30; omega, fun j hj => shv_num _ _ _ _ _, fun i j h1 h2 e => hi i j h1 h2 (by have e2 : (O i : Int) = (O j : Int) := e; omega)⟩

theorem crv_pick (hd : 1 ≤ d ∧ d ≤ 8) (hD : ∀ j, j < n → 0 ≤ D j ∧ D j ≤ 30) (ho : ∀ j, j < d → O j < 8) (hi : ∀ i j, i < d → j < d → O i = O j → i = j) (r : Nat) (t : Int) :
    crv d (fun j => (O j : Int)) (fun j => shv d n D (O j) r) t = crv d (fun i => (i : Int)) (fun i => padD n D (r * d + i)) t :=
  crv_alike (good_row hd hD r) (good_pick hd ho hi r) (Nat.le_refl _) (fun j hj => rfl) t

theorem joinD_pick (hd : 1 ≤ d ∧ d ≤ 8) (hD : ∀ j, j < n → 0 ≤ D j ∧ D j ≤ 30) (ho : ∀ j, j < d → O j < 8) (hi : ∀ i j, i < d → j < d → O i = O j → i = j) (i : Nat) :
    joinD d (fun j => (O j : Int)) (fun j r => shv d n D (O j) r) i = padD n D i := by
  unfold joinD
  rw [crv_pick hd hD ho hi]
  have h := crv_own (good_row hd hD (i / d)) (i % d) (Nat.mod_lt i (by omega))
  have e : i / d * d + i % d = i := by rw [Nat.mul_comm]; exact Nat.div_add_mod i d
  rw [e] at h
  exact h

end

end Go.Proofs.YtajmnlhfnhbleaaGreat

namespace Go.Proofs.YtajmnlhfnhbleaaGreat

open Go.RowKit CurveMath
set_option linter.unusedVariables false

def JoinPost (w : World) (nd of sz : Int) (n : Nat) (N : Nat → Int) (L : Nat → Nat) (X : Nat → Nat → Int) (e : Ending) (w' : World) : Prop :=
  Below w.heap.size w w' ∧ ∃ (r : Value) (m : Nat), e = .returned (.tuple #[r, .int .i64 (joinE nd of sz n N L X)]) ∧ (m : Int) = (if joinE nd of sz n N L X = 0 then sz else 0) ∧ IntSl w' w'.heap.size r m (joinD nd.toNat N X)

theorem join_err {w w' : World} {nd of sz : Int} {n : Nat} {N : Nat → Int} {L : Nat → Nat} {X : Nat → Nat → Int} {c : Int} (hb : Below w.heap.size w w') (he : joinE nd of sz n N L X = c) (hc : c ≠ 0) : JoinPost w nd of sz n N L X (.returned (.tuple #[.slice none 0 0, .int .i64 c])) w' := by
  refine ⟨hb, _, 0, by rw [he], ?_, none, 0, rfl, ⟨Nat.le_refl _, by omega⟩, Or.inl rfl⟩
  rw [he, if_neg hc]
  rfl

theorem joinE_checks {nd of sz : Int} {n : Nat} {N : Nat → Int} {L : Nat → Nat} {X : Nat → Nat → Int} : joinE nd of sz n N L X = if checksE nd of sz n N L X = 0 then (if tornB nd.toNat sz.toNat (rowsN nd sz) n N X = true then 9 else 0) else checksE nd of sz n N L X := by
  unfold joinE checksE
  by_cases h1 : planOk nd of sz = true
  · rw [if_pos h1, if_pos h1]
    by_cases h2 : n ≤ 8
    · rw [if_pos h2, if_pos h2]
      by_cases h3 : scanS nd of sz N L X n 0 = 0
      · rw [if_pos h3, if_pos h3]
        by_cases h4 : nd ≤ (n : Int)
        · rw [if_pos h4, if_pos h4, if_pos rfl]
        · rw [if_neg h4, if_neg h4, if_neg (by decide)]
      · rw [if_neg h3, if_neg h3, if_neg h3]
    · rw [if_neg h2, if_neg h2, if_neg (by decide)]
  · rw [if_neg h1, if_neg h1, if_neg (by decide)]

theorem scanS_all {nd of sz : Int} {N : Nat → Int} {L : Nat → Nat} {X : Nat → Nat → Int} (m : Nat) : ∀ k, scanS nd of sz N L X m k = 0 → ∀ j, k ≤ j → j < k + m → oneE nd of sz (N j) (L j) (X j) = 0 ∧ hasB N j (N j) = false := by
  induction m with
  | zero => intro k _ j h1 h2; omega
  | succ m ih =>
    intro k h j h1 h2
    simp only [scanS] at h
    by_cases hb : oneE nd of sz (N k) (L k) (X k) = 0
    · rw [if_pos hb] at h
      by_cases hd : hasB N k (N k) = true
      · rw [if_pos hd] at h; omega
      · rw [if_neg hd] at h
        by_cases hjk : j = k
        · subst hjk; exact ⟨hb, by simpa using hd⟩
        · exact ih (k + 1) h j (by omega) (by omega)
    · rw [if_neg hb] at h; exact absurd h hb

structure Shares (d m s R n : Nat) (N : Nat → Int) (L : Nat → Nat) (X : Nat → Nat → Int) : Prop where
  plan : planOk (d : Int) (m : Int) (s : Int) = true
  rows : rowsN (d : Int) (s : Int) = R
  le : d ≤ n ∧ n ≤ 8
  who : ∀ j, j < n → 0 ≤ N j ∧ N j < (m : Int)
  len : ∀ j, j < n → L j = R
  num : ∀ j, j < n → ∀ r, r < R → 0 ≤ X j r ∧ X j r ≤ 30
  inj : ∀ i j, i < n → j < n → N i = N j → i = j

theorem checks_ok {nd of sz : Int} {n : Nat} {N : Nat → Int} {L : Nat → Nat} {X : Nat → Nat → Int} (h : checksE nd of sz n N L X = 0) : ∃ d m s R : Nat, nd = d ∧ of = m ∧ sz = s ∧ Shares d m s R n N L X := by
  unfold checksE at h
  by_cases h1 : planOk nd of sz = true
  · rw [if_pos h1] at h
    by_cases h2 : n ≤ 8
    · rw [if_pos h2] at h
      by_cases h3 : scanS nd of sz N L X n 0 = 0
      · rw [if_pos h3] at h
        by_cases h4 : nd ≤ (n : Int)
        · obtain ⟨a1, a2, a3⟩ := planOk_spec h1
          have hall := scanS_all n 0 h3
          obtain ⟨d, rfl⟩ : ∃ d : Nat, nd = d := ⟨nd.toNat, by omega⟩
          obtain ⟨m, rfl⟩ : ∃ m : Nat, of = m := ⟨of.toNat, by omega⟩
          obtain ⟨s, rfl⟩ : ∃ s : Nat, sz = s := ⟨sz.toNat, by omega⟩
          have key : ∀ i j, i < j → j < n → N i ≠ N j := fun i j hij hj e => by
            have h5 := (hall j (by omega) (by omega)).2
            have h6 : hasB N j (N j) = true := (hasB_iff N j (N j)).2 ⟨i, hij, e⟩
            rw [h6] at h5
            cases h5
          refine ⟨d, m, s, rowsN (d : Int) (s : Int), rfl, rfl, rfl, h1, rfl, ⟨by omega, h2⟩, fun j hj => (oneE_who (hall j (by omega) (by omega)).1).2.1, fun j hj => ?_, fun j hj r hr => ?_, fun i j hi hj e => ?_⟩
          · have := (oneE_who (hall j (by omega) (by omega)).1).2.2.1; omega
          · have h5 := oneE_who (hall j (by omega) (by omega)).1
            exact h5.2.2.2 r (by have := h5.2.2.1; omega)
          · rcases Nat.lt_trichotomy i j with hlt | heq | hgt
            · exact absurd e (key i j hlt hj)
            · exact heq
            · exact absurd e.symm (key j i hgt hi)
        · rw [if_neg h4] at h; omega
      · rw [if_neg h3] at h; exact absurd h h3
    · rw [if_neg h2] at h; omega
  · rw [if_neg h1] at h; omega

section

variable {d m s R n : Nat} {N : Nat → Int} {L : Nat → Nat} {X : Nat → Nat → Int}

theorem Shares.good (h : Shares d m s R n N L X) (r : Nat) (hr : r < R) : Good d d N (fun j => X j r) := by
  obtain ⟨h1, h2, h3⟩ := planOk_spec h.plan
  have hle := h.le
  exact ⟨rfl, ⟨by omega, by omega⟩, fun j hj => by have := h.who j (by omega); omega, fun j hj => h.num j (by omega) r hr, fun i j hi hj => h.inj i j (by omega) (by omega)⟩

theorem Shares.again (h : Shares d m s R n N L X) (hm : madeB d s R N X = true) (ν r : Nat) (hr : r < R) : shv d s (joinD d N X) ν r = crv d N (fun i => X i r) (ν : Int) := by
  obtain ⟨h1, h2, h3⟩ := planOk_spec h.plan
  have hm := of_decide_eq_true hm
  unfold shv
  have hrow : ∀ t, t < d → padD s (joinD d N X) (r * d + t) = crv d N (fun i => X i r) (t : Int) := fun t ht => by
    rw [← joinD_row ht]
    have hlt : r * d + t < R * d := by
      have : (r + 1) * d ≤ R * d := Nat.mul_le_mul_right d hr
      rw [Nat.add_mul, Nat.one_mul] at this
      omega
    unfold padD
    by_cases hs : r * d + t < s
    · rw [if_pos hs]
    · rw [if_neg hs]
      rcases hm _ hlt with h5 | h5
      · exact absurd h5 hs
      · exact h5.symm
  have hgr : Good d d (fun i => (i : Int)) (fun t => padD s (joinD d N X) (r * d + t)) := good_row ⟨by omega, by omega⟩ (fun j _ => by unfold joinD; exact crv_num _ _ _ _) r
  exact crv_alike (h.good r hr) hgr (Nat.le_refl _) hrow (ν : Int)

end

theorem torn_iff {d s R n : Nat} {N : Nat → Int} {X : Nat → Nat → Int} (hm : madeB d s R N X = true) (hall : ∀ j, j < n → decide (∀ r, r < R → crv d N (fun i => X i r) (N j) = X j r) = true) : tornB d s R n N X = false := by
  unfold tornB
  have e1 : decide (∀ r, r < R → ∀ j, j < n → crv d N (fun i => X i r) (N j) = X j r) = true := decide_eq_true fun r hr j hj => of_decide_eq_true (hall j hj) r hr
  have e2 : decide (∀ i, i < R * d → i < s ∨ joinD d N X i = 0) = true := hm
  rw [e1, e2]
  rfl

theorem torn_made {d s R n : Nat} {N : Nat → Int} {X : Nat → Nat → Int} (h : madeB d s R N X = false) : tornB d s R n N X = true := by
  unfold tornB
  rw [Bool.not_eq_true']
  exact Bool.and_eq_false_iff.2 (Or.inr h)

end Go.Proofs.YtajmnlhfnhbleaaGreat
