/- Several texts of one proof, in their order. -/
import Derived.Test.YtjfnpjmhippdoafGreatBundle14
import Derived.Test.YtjfnpjmhippdoafGreatBundle13
import Derived.Test.YtjfnpjmhippdoafGreatBundle5
import Derived.Test.YtjfnpjmhippdoafGreatBundle4
import Derived.Maps.Own
import Derived.Maps.OwnOps
import Derived.Maps.OwnSet
import Derived.Maps.AppendAt
import Derived.Laws.CopyOwn
import Derived.Laws.ResultCell
import Derived.Test.YtjfnpjmhippdoafGreatBundle6
import Derived.Sort.Grow
import Derived.Sort.LotA
import Derived.Shelf.SlLaysF
import Derived.Test.YtjfnpjmhippdoafGreatProg

/- Rows of cells that a call makes and fills from the front; lists of versions, peers and kept ones read off them. -/
namespace Go.Proofs.YtjfnpjmhippdoafGreat

open Go.RowKit
set_option linter.unusedVariables false

/-- block g is a row of sz cells, the first k of them these -/
def CRow (w : World) (g : Nat) (T : TypeId) (sz k : Nat) (C : Nat → Value) : Prop :=
  ∃ cs : Array Value, w.heap[g]? = some (.cells cs T (0, 0)) ∧ cs.size = sz ∧ ∀ i, i < k → cs[i]? = some (C i)

section

variable {w w' : World} {g : Nat} {T : TypeId} {sz k : Nat} {C : Nat → Value}

theorem CRow.lt (h : CRow w g T sz k C) : g < w.heap.size := by
  obtain ⟨cs, h1, _⟩ := h
  exact (Array.getElem?_eq_some_iff.1 h1).1

theorem CRow.up (h : CRow w g T sz k C) (hb : Below w.heap.size w w') : CRow w' g T sz k C := by
  obtain ⟨cs, h1, h2⟩ := h
  exact ⟨cs, stayB h1 hb, h2⟩

theorem CRow.below {B : Nat} (h : CRow w g T sz k C) (hb : Below B w w') (hg : g < B) : CRow w' g T sz k C := by
  obtain ⟨cs, h1, h2⟩ := h
  exact ⟨cs, by rw [hb.block _ hg]; exact h1, h2⟩

theorem CRow.room (h : CRow w g T sz k C) {i : Nat} (hi : i < sz) : (∃ u, w.cell? ⟨g, i, none⟩ = some u) ∧ w.frozen? ⟨g, i, none⟩ = false := by
  obtain ⟨cs, h1, h2, h3⟩ := h
  exact ⟨⟨cs[i]'(by omega), cell_at h1 (by simp [show i < cs.size by omega])⟩, frozen_at h1⟩

theorem CRow.free (h : CRow w g T sz k C) (i : Nat) : w.frozen? ⟨g, i, none⟩ = false := by
  obtain ⟨cs, h1, h2, h3⟩ := h
  exact frozen_at h1

theorem CRow.cell (h : CRow w g T sz k C) {i : Nat} (hi : i < k) : w.cell? ⟨g, i, none⟩ = some (C i) := by
  obtain ⟨cs, h1, h2, h3⟩ := h
  exact cell_at h1 (h3 i hi)

theorem CRow.put (h : CRow w g T sz k C) (hk : k < sz) {u : Value} (hu : u = C k) : CRow (w.setCell ⟨g, k, none⟩ u) g T sz (k + 1) C := by
  obtain ⟨cs, h1, h2, h3⟩ := h
  refine ⟨cs.setIfInBounds k u, by simp [World.setCell, Array.getElem?_modify, h1], by simpa using h2, fun i hi => ?_⟩
  rw [Array.getElem?_setIfInBounds]
  by_cases e : k = i
  · subst e
    rw [if_pos rfl, if_pos (by omega), hu]
  · rw [if_neg e]
    exact h3 i (by omega)

theorem CRow.other (h : CRow w g T sz k C) {g' o : Nat} (hg : g ≠ g') (u : Value) : CRow (w.setCell ⟨g', o, none⟩ u) g T sz k C := by
  obtain ⟨cs, h1, h2⟩ := h
  exact ⟨cs, by rw [Below.heap_setCell _ _ _ _ (by show g ≠ g'; exact hg)]; exact h1, h2⟩

theorem CRow.congr (h : CRow w g T sz k C) {C' : Nat → Value} (e : ∀ i, i < k → C i = C' i) : CRow w g T sz k C' := by
  obtain ⟨cs, h1, h2, h3⟩ := h
  exact ⟨cs, h1, h2, fun i hi => by rw [h3 i hi, e i hi]⟩

theorem CRow.made {B n size : Nat} {z : Value} (ho : w.ownsRow B T size (.slice (some ⟨g, 0, none⟩) n n) n (madeCells z.cells (n * size)).toList) (C : Nat → Value) : CRow w g T (n * size) 0 C := by
  obtain ⟨hl, h2⟩ := ho
  rcases h2 with ⟨h1, _⟩ | ⟨g', cap, cur, hv, _, hh, hc1, hc2, hsz, hcur⟩
  · cases h1
  · injection hv with e1 _ e3
    injection e1 with e1
    injection e1 with e1
    subst e1 e3
    exact ⟨cur, hh, hsz, fun i hi => by omega⟩

theorem CRow.three (h : CRow w g T sz (k * 3) C) (hk : k * 3 + 3 ≤ sz) {u0 u1 u2 : Value} (e0 : u0 = C (k * 3)) (e1 : u1 = C (k * 3 + 1)) (e2 : u2 = C (k * 3 + 2)) : CRow (((w.setCell ⟨g, k * 3, none⟩ u0).setCell ⟨g, k * 3 + 1, none⟩ u1).setCell ⟨g, k * 3 + 2, none⟩ u2) g T sz ((k + 1) * 3) C := by
  have h1 := ((h.put (by omega) e0).put (by omega) e1).put (by omega) e2
  rw [show (k + 1) * 3 = k * 3 + 1 + 1 + 1 by omega]
  exact h1

theorem CRow.four (h : CRow w g T sz (k * 4) C) (hk : k * 4 + 4 ≤ sz) {u0 u1 u2 u3 : Value} (e0 : u0 = C (k * 4)) (e1 : u1 = C (k * 4 + 1)) (e2 : u2 = C (k * 4 + 2)) (e3 : u3 = C (k * 4 + 3)) : CRow ((((w.setCell ⟨g, k * 4, none⟩ u0).setCell ⟨g, k * 4 + 1, none⟩ u1).setCell ⟨g, k * 4 + 2, none⟩ u2).setCell ⟨g, k * 4 + 3, none⟩ u3) g T sz ((k + 1) * 4) C := by
  have h1 := (((h.put (by omega) e0).put (by omega) e1).put (by omega) e2).put (by omega) e3
  rw [show (k + 1) * 4 = k * 4 + 1 + 1 + 1 + 1 by omega]
  exact h1

end

/-- cell number i of a list of peers -/
def cellP (KV : Nat → Value) (P : Ps) (i : Nat) : Value := if i % 3 = 0 then .bool (P.th (i / 3)) else if i % 3 = 1 then .int .i64 (P.rm (i / 3)) else KV (i / 3)
/-- cell number i of a list of kept ones -/
def cellK (UV : Nat → Value) (t : Kt) (i : Nat) : Value := if i % 3 = 0 then .int .i64 (t.V (i / 3)) else if i % 3 = 1 then .int .i64 (t.N (i / 3)) else UV (i / 3)

section

variable {KV : Nat → Value} {P : Ps} {UV PV : Nat → Value} {t : Kt} {b : Bk} {k : Nat}

theorem cellP_at : cellP KV P (k * 3) = .bool (P.th k) ∧ cellP KV P (k * 3 + 1) = .int .i64 (P.rm k) ∧ cellP KV P (k * 3 + 2) = KV k := by
  unfold cellP
  refine ⟨?_, ?_, ?_⟩
  · rw [if_pos (by omega), show k * 3 / 3 = k by omega]
  · rw [if_neg (by omega), if_pos (by omega), show (k * 3 + 1) / 3 = k by omega]
  · rw [if_neg (by omega), if_neg (by omega), show (k * 3 + 2) / 3 = k by omega]

theorem cellK_at : cellK UV t (k * 3) = .int .i64 (t.V k) ∧ cellK UV t (k * 3 + 1) = .int .i64 (t.N k) ∧ cellK UV t (k * 3 + 2) = UV k := by
  unfold cellK
  refine ⟨?_, ?_, ?_⟩
  · rw [if_pos (by omega), show k * 3 / 3 = k by omega]
  · rw [if_neg (by omega), if_pos (by omega), show (k * 3 + 1) / 3 = k by omega]
  · rw [if_neg (by omega), if_neg (by omega), show (k * 3 + 2) / 3 = k by omega]

theorem cellV_at : cellV PV b (k * 4) = PV k ∧ cellV PV b (k * 4 + 1) = .int .i64 (b.nd k) ∧ cellV PV b (k * 4 + 2) = .int .i64 (b.of k) ∧ cellV PV b (k * 4 + 3) = .int .i64 (b.sz k) := by
  unfold cellV
  refine ⟨?_, ?_, ?_, ?_⟩
  · rw [if_pos (by omega), show k * 4 / 4 = k by omega]
  · rw [if_neg (by omega), if_pos (by omega), show (k * 4 + 1) / 4 = k by omega]
  · rw [if_neg (by omega), if_neg (by omega), if_pos (by omega), show (k * 4 + 2) / 4 = k by omega]
  · rw [if_neg (by omega), if_neg (by omega), if_neg (by omega), show (k * 4 + 3) / 4 = k by omega]

theorem cellP_cong {KV' : Nat → Value} (h : ∀ j, j < k → KV j = KV' j) : ∀ i, i < k * 3 → cellP KV P i = cellP KV' P i := fun i hi => by
  unfold cellP
  rw [h (i / 3) (by omega)]

theorem cellK_cong {UV' : Nat → Value} (h : ∀ j, j < k → UV j = UV' j) : ∀ i, i < k * 3 → cellK UV t i = cellK UV' t i := fun i hi => by
  unfold cellK
  rw [h (i / 3) (by omega)]

theorem cellV_cong {PV' : Nat → Value} (h : ∀ j, j < k → PV j = PV' j) : ∀ i, i < k * 4 → cellV PV b i = cellV PV' b i := fun i hi => by
  unfold cellV
  rw [h (i / 4) (by omega)]

end

section

variable {w : World} {g n m : Nat} {KV : Nat → Value} {P : Ps} {UV PV : Nat → Value} {t : Kt} {b : Bk}

theorem CRow.rowP {sz : Nat} (h : CRow w g 45 sz (n * 3) (cellP KV P)) : RowP w g n KV P :=
  ⟨fun k hk => by
    obtain ⟨e0, e1, e2⟩ := cellP_at (KV := KV) (P := P) (k := k)
    exact ⟨by rw [h.cell (by omega), e0], by rw [h.cell (by omega), e1], by rw [h.cell (by omega), e2]⟩, fun i _ => h.free i, h.lt⟩

theorem CRow.kel {sz : Nat} (h : CRow w g 50 sz (m * 3) (cellK UV t)) (hr : m * 40 ≤ 140737488351232) (hi : ∀ j, j < m → IntSl w w.heap.size (UV j) (t.L j) (t.X j)) : KeSl w w.heap.size (.slice (some ⟨g, 0, none⟩) m m) m UV t := by
  refine ⟨_, _, rfl, ⟨Nat.le_refl _, hr⟩, Or.inr ⟨g, 0, rfl, h.lt, fun j hj => ?_⟩⟩
  obtain ⟨e0, e1, e2⟩ := cellK_at (UV := UV) (t := t) (k := j)
  rw [Nat.zero_add]
  exact ⟨by rw [h.cell (by omega), e0], by rw [h.cell (by omega), e1], by rw [h.cell (by omega), e2], hi j hj⟩

theorem CRow.vel {sz : Nat} (h : CRow w g 60 sz (n * 4) (cellV PV b)) (hr : n * 48 ≤ 140737488351232) (hi : ∀ j, j < n → IntSl w w.heap.size (PV j) (b.PL j) (b.PX j)) : VeSl w w.heap.size (.slice (some ⟨g, 0, none⟩) n n) n PV b := by
  refine ⟨_, _, rfl, ⟨Nat.le_refl _, hr⟩, Or.inr ⟨g, 0, rfl, h.lt, fun j hj => ?_⟩⟩
  obtain ⟨e0, e1, e2, e3⟩ := cellV_at (PV := PV) (b := b) (k := j)
  rw [Nat.zero_add]
  exact ⟨by rw [h.cell (by omega), e0], by rw [h.cell (by omega), e1], by rw [h.cell (by omega), e2], by rw [h.cell (by omega), e3], hi j hj⟩

theorem CRow.newV {T : TypeId} {sz k n c : Nat} {C : Nat → Value} {B : Nat} (h : CRow w g T sz k C) (hB : B ≤ g) : NewV B w (.slice (some ⟨g, 0, none⟩) n c) := by
  obtain ⟨cs, h1, _⟩ := h
  exact newV_block h1 hB

/-- a write into a block ahead leaves a list alone -/
theorem KeSl.ahead {w : World} {g o B : Nat} {v : Value} {m : Nat} {UV : Nat → Value} {t : Kt} (h : KeSl w B v m UV t) (ha : Above (g + 1) v) (hu : ∀ j, j < m → Above (g + 1) (UV j)) (u : Value) : KeSl (w.setCell ⟨g, o, none⟩ u) B v m UV t := by
  obtain ⟨ad, cap, rfl, h0, h2⟩ := h
  refine ⟨ad, cap, rfl, h0, ?_⟩
  rcases h2 with h2 | ⟨bl, off, rfl, h4, h5⟩
  · exact Or.inl h2
  · have hg : g + 1 ≤ bl := ha _ _ _ rfl
    refine Or.inr ⟨bl, off, rfl, h4, fun j hj => ?_⟩
    obtain ⟨g1, g2, g3, g4⟩ := h5 j hj
    exact ⟨by rw [cell_set_lit (Or.inl (by omega))]; exact g1, by rw [cell_set_lit (Or.inl (by omega))]; exact g2, by rw [cell_set_lit (Or.inl (by omega))]; exact g3, g4.set (hu j hj) o u⟩

/-- a write into another block leaves a list of versions alone whose parents lie behind that block -/
theorem VeSl.ahead {w : World} {g gv o B : Nat} {n c : Nat} {PV : Nat → Value} {b : Bk} (h : VeSl w B (.slice (some ⟨gv, 0, none⟩) n c) n PV b) (hg : gv ≠ g) (hu : ∀ j, j < n → Above (g + 1) (PV j)) (u : Value) : VeSl (w.setCell ⟨g, o, none⟩ u) B (.slice (some ⟨gv, 0, none⟩) n c) n PV b := by
  obtain ⟨ad, cap, e, h0, h2⟩ := h
  injection e with e1 _ e3
  subst e1 e3
  refine ⟨_, _, rfl, h0, ?_⟩
  rcases h2 with h2 | ⟨bl, off, e, h4, h5⟩
  · exact Or.inl h2
  · injection e with e
    injection e with e5 e6
    subst e5 e6
    refine Or.inr ⟨_, _, rfl, h4, fun j hj => ?_⟩
    obtain ⟨x0, x1, x2, x3, x4⟩ := h5 j hj
    exact ⟨by rw [cell_set_lit (Or.inl hg)]; exact x0, by rw [cell_set_lit (Or.inl hg)]; exact x1, by rw [cell_set_lit (Or.inl hg)]; exact x2, by rw [cell_set_lit (Or.inl hg)]; exact x3, x4.set (hu j hj) o u⟩

/-- the list v lies at or above block B and below block C, in memory that may be written to -/
def NewB (B C : Nat) (w : World) (v : Value) : Prop := ∀ ad n c, v = .slice (some ad) n c → B ≤ ad.block ∧ ad.block < C ∧ ∀ i, w.frozen? ⟨ad.block, i, none⟩ = false

theorem NewB.below {B C : Nat} {w w' : World} {v : Value} (h : NewB B C w v) (hb : Below C w w') : NewB B C w' v := fun ad n c e => by
  obtain ⟨h1, h2, h3⟩ := h ad n c e
  exact ⟨h1, h2, fun i => by rw [← h3 i]; exact World.frozen?_of_block (hb.block _ h2)⟩
theorem NewB.mono {B C C' : Nat} {w : World} {v : Value} (h : NewB B C w v) (hc : C ≤ C') : NewB B C' w v := fun ad n c e => by
  obtain ⟨h1, h2, h3⟩ := h ad n c e
  exact ⟨h1, by omega, h3⟩
theorem NewB.set {B C : Nat} {w : World} {v : Value} (h : NewB B C w v) (a : Addr) (u : Value) : NewB B C (w.setCell a u) v := fun ad n c e => by
  obtain ⟨h1, h2, h3⟩ := h ad n c e
  exact ⟨h1, h2, fun i => by rw [frozen_setN]; exact h3 i⟩
theorem NewB.above {B C : Nat} {w : World} {v : Value} (h : NewB B C w v) : Above B v := fun ad n c e => (h ad n c e).1
theorem NewB.newV {B B' C : Nat} {w : World} {v : Value} (h : NewB B C w v) (hc : C ≤ w.heap.size) (hb : B' ≤ B) : NewV B' w v := fun ad n c e => by
  obtain ⟨h1, h2, h3⟩ := h ad n c e
  exact ⟨by omega, by omega, h3⟩
theorem NewV.newB {B : Nat} {w : World} {v : Value} (h : NewV B w v) : NewB B w.heap.size w v := fun ad n c e => h ad n c e

end

end Go.Proofs.YtjfnpjmhippdoafGreat

/- A map of ints that a call makes itself and counts in. -/
namespace Go.Proofs.YtjfnpjmhippdoafGreat

open Go.RowKit Go.Maps
set_option linter.unusedVariables false

theorem keyedInt : Keyed Tryz.prog 3 := int_keyed Tryz.underlying3

theorem zeroInt (w : World) : (zeroValue 3).run Tryz.prog w = .ok (.int .i64 0) w := by kernel_rfl

/-- block g is a map of at most m entries that tells c of each number -/
def CntM (w : World) (g m : Nat) (c : Int → Int) : Prop := ∃ D : DataW Empty, w.ownsMap Tryz.prog 3 (plainElem Tryz.prog 3) g m D ∧ ∀ x : Int, D.atKey (.int .i64 x) (.lit (.int .i64 0)) = .lit (.int .i64 (c x))

theorem cntM_made (w : World) : CntM (w.alloc (.map #[] 0)) w.heap.size 0 (fun _ => 0) := ⟨_, World.ownsMap_made _ _ _ _, fun x => rfl⟩

theorem cnt_val {D : DataW Empty} {c : Int → Int} (h : ∀ x : Int, D.atKey (.int .i64 x) (.lit (.int .i64 0)) = .lit (.int .i64 (c x))) {x v : Int} (hat : D.atKey (.int .i64 x) (.lit (.int .i64 0)) = .lit (.int .i64 v)) : v = c x := by
  rw [h x] at hat
  injection hat with h1
  injection h1 with _ h2
  exact h2.symm

theorem cntM_put {w w' : World} {g m : Nat} {c : Int → Int} {D : DataW Empty} {x v : Int} (hD : w.ownsMap Tryz.prog 3 (plainElem Tryz.prog 3) g m D) (h : ∀ x : Int, D.atKey (.int .i64 x) (.lit (.int .i64 0)) = .lit (.int .i64 (c x)))
    (ho : w'.ownsMap Tryz.prog 3 (plainElem Tryz.prog 3) g (m + 1) (D.put (.int .i64 x) (.lit (.int .i64 v)))) : CntM w' g (m + 1) (fun y => if y = x then v else c y) := by
  refine ⟨_, ho, fun y => ?_⟩
  by_cases e : y = x
  · subst e
    rw [atKey_put_same hD.isMap (by simp [WideAt.IsKeyLit])]
    simp only [if_true]
  · rw [atKey_put_other (fun h => e (by injection h)), h y]
    simp only [if_neg e]

theorem CntM.kept {w w' : World} {g m : Nat} {c : Int → Int} {row : Option Nat} (h : CntM w g m c) (hg : w.grownBy w' row) (hne : some g ≠ row) : CntM w' g m c := by
  obtain ⟨D, h1, h2⟩ := h
  exact ⟨D, h1.kept hg hne, h2⟩

theorem CntM.up {w w' : World} {g m : Nat} {c : Int → Int} (h : CntM w g m c) (hb : Below w.heap.size w w') : CntM w' g m c := h.kept (grown_of_below hb none) (by intro e; cases e)

theorem CntM.lt {w : World} {g m : Nat} {c : Int → Int} (h : CntM w g m c) : g < w.heap.size := by
  obtain ⟨D, h1, _⟩ := h
  exact h1.lt

/-- a cell lies in no map -/
theorem CntM.ne {w : World} {g m : Nat} {c : Int → Int} (h : CntM w g m c) {a : Addr} {u : Value} (ha : w.cell? a = some u) : a.block ≠ g := by
  obtain ⟨D, ⟨es, clock, hb, _⟩, _⟩ := h
  intro e
  rw [World.cell?, e, hb] at ha
  simp at ha

theorem keyInt {x : Int} (h : 0 ≤ x ∧ x ≤ 1000) : keyOf Tryz.prog 3 (.int .i64 x) = some (.int .i64 x) := keyOf_int_mk Tryz.underlying3 (WalkArith.wf_i64 (by omega))

/-- what 'count' has done to the map behind i of the numbers -/
def Cnted (c ci : Int → Int) (X : Nat → Int) (M i : Nat) : Prop := (∀ x, 0 ≤ ci x ∧ ci x ≤ (M : Int) + i) ∧ ∀ x, ci x = 0 ↔ c x = 0 ∧ ∀ j, j < i → X j ≠ x

theorem Cnted.step {c ci : Int → Int} {X : Nat → Int} {M i : Nat} (h : Cnted c ci X M i) {x : Int} (hx : X i = x) : Cnted c (fun y => if y = x then ci x + 1 else ci y) X M (i + 1) := by
  obtain ⟨h1, h2⟩ := h
  have h3 := h1 x
  refine ⟨fun y => ?_, fun y => ?_⟩
  · have h4 := h1 y
    by_cases e : y = x
    · simp only [if_pos e]; omega
    · simp only [if_neg e]; omega
  · by_cases e : y = x
    · simp only [if_pos e]
      constructor
      · intro h; omega
      · rintro ⟨_, hh⟩; exact absurd (by rw [hx, e]) (hh i (by omega))
    · simp only [if_neg e]
      rw [h2 y]
      constructor
      · rintro ⟨g1, g2⟩
        refine ⟨g1, fun j hj => ?_⟩
        by_cases ej : j = i
        · subst ej; rw [hx]; exact fun h => e h.symm
        · exact g2 j (by omega)
      · rintro ⟨g1, g2⟩; exact ⟨g1, fun j hj => g2 j (by omega)⟩

end Go.Proofs.YtjfnpjmhippdoafGreat

/- What package book answers of a book: its error. -/
namespace Go.Proofs.YtjfnpjmhippdoafGreat

open Go.RowKit
set_option linter.unusedVariables false

/-- the parent ahead of number i; -1: there is none -/
def lastP (X : Nat → Int) (i : Nat) : Int := if i = 0 then -1 else X (i - 1)

/-- the error of version k with these parents, of this plan -/
def oneV (k : Int) (m : Nat) (X : Nat → Int) (nd of sz : Int) : Int := if parE k X m 0 (-1) = 0 then chkP nd of sz else parE k X m 0 (-1)

set_option maxHeartbeats 2000000 in
theorem bkOne (k : Nat) (pv : Value) (m : Nat) (X : Nat → Int) (nd of sz : Int) (w : World) (h : IntSl w w.heap.size pv m X) :
    Calls Tryz.prog 90 #[.int .i64 (k : Int), verV pv nd of sz] w fun e w' => e = .returned (.int .i64 (oneV k m X nd of sz)) ∧ Below w.heap.size w w' := by
  have hbA := below_alloc w (.cells #[pv, .int .i64 nd, .int .i64 of, .int .i64 sz] 60)
  obtain ⟨ap, cp, rfl, ⟨hcap, hbig⟩, hpc⟩ := h
  obtain ⟨W, hW⟩ : ∃ W, w.alloc (.cells #[.slice ap m cp, .int .i64 nd, .int .i64 of, .int .i64 sz] 60) = W := ⟨_, rfl⟩
  rw [hW] at hbA
  have s0 : W.cell? ⟨w.heap.size, 0, none⟩ = some (.slice ap m cp) := by rw [← hW]; exact cell_at (heap_alloc_new _ _) rfl
  have s1 : W.cell? ⟨w.heap.size, 1, none⟩ = some (.int .i64 nd) := by rw [← hW]; exact cell_at (heap_alloc_new _ _) rfl
  have s2 : W.cell? ⟨w.heap.size, 2, none⟩ = some (.int .i64 of) := by rw [← hW]; exact cell_at (heap_alloc_new _ _) rfl
  have s3 : W.cell? ⟨w.heap.size, 3, none⟩ = some (.int .i64 sz) := by rw [← hW]; exact cell_at (heap_alloc_new _ _) rfl
  have HBW := hid hbA
  have HPc := hid hpc
  obtain ⟨ans, hans⟩ : ∃ a, oneV k m X nd of sz = a := ⟨_, rfl⟩
  rw [hans]
  unfold oneV at hans
  have HA := hid hans
  clear hbA hpc hans
  unfold verV
  go_enter Tryz.func90, Tryz.ntmps90
  go_wp2
  go_loopw [10] (fun iv wz => ∃ i : Nat, i ≤ m ∧ iv = .int .i64 i ∧ wz = W ∧ Hid (parE k X (m - i) i (lastP X i) = parE k X m 0 (-1))) (fun iv _ => m - (intOf iv).toNat)
  case atStart => exact ⟨0, Nat.zero_le _, rfl, rfl, rfl⟩
  case round =>
    obtain ⟨i, hi, rfl, hwz, HP⟩ := hrel
    subst hwz
    by_cases him : i < m
    · have himi : (i : Int) < (m : Int) := by omega
      rcases HPc.out with h0 | ⟨bp, op, rfl, hbp, hpx⟩
      · omega
      have e0 : wr.cell? ⟨bp, op + i, none⟩ = some (.int .i64 (X i)) := by rw [HBW.out.cell hbp]; exact hpx i him
      have hp := HP.out
      rw [show m - i = (m - (i + 1)) + 1 by omega] at hp
      simp only [parE] at hp
      obtain ⟨x, hxx⟩ : ∃ x, X i = x := ⟨_, rfl⟩
      have hlast : lastP X (i + 1) = x := by unfold lastP; rw [if_neg (by omega)]; exact hxx
      rw [hxx] at e0 hp
      have HLx := hid hlast
      clear hxx hlast
      by_cases c1 : x < 0 ∨ (k : Int) ≤ x
      · rw [if_pos c1] at hp
        have hst := HA.out
        rw [← hp, if_neg (by decide)] at hst
        have HFin := hid hst
        clear hp hst hpx
        by_cases c2 : x < 0
        · go_wp2
          go_ret
          exact ⟨by rw [← HFin.out]; rfl, HBW.out⟩
        · have c3 : (k : Int) ≤ x := by omega
          go_wp2
          go_ret
          exact ⟨by rw [← HFin.out]; rfl, HBW.out⟩
      · rw [if_neg c1] at hp
        have c2 : ¬ x < 0 := fun h => c1 (Or.inl h)
        have c3 : ¬ (k : Int) ≤ x := fun h => c1 (Or.inr h)
        by_cases h0 : i = 0
        · have hz : ¬ 0 < (i : Int) := by omega
          rw [show lastP X i = -1 from if_pos h0, if_neg (by omega)] at hp
          have HP2 := hid hp
          clear hp c1 hpx h0
          go_wp2
          go_roundw
          case rel => exact ⟨i + 1, by omega, by go_num, trivial, by rw [HLx.out]; exact HP2.out⟩
          case measure => simp only [intOf]; omega
        · have hpos : 0 < (i : Int) := by omega
          obtain ⟨j, rfl⟩ : ∃ j, i = j + 1 := ⟨i - 1, by omega⟩
          have e1 : wr.cell? ⟨bp, op + j, none⟩ = some (.int .i64 (X j)) := by rw [HBW.out.cell hbp]; exact hpx j (by omega)
          have hjm : (j : Int) < (m : Int) := by omega
          rw [show lastP X (j + 1) = X j from rfl] at hp
          obtain ⟨y, hyy⟩ : ∃ y, X j = y := ⟨_, rfl⟩
          rw [hyy] at e1 hp
          clear hpx hyy
          by_cases c4 : x ≤ y
          · rw [if_pos c4] at hp
            have hst := HA.out
            rw [← hp, if_neg (by decide)] at hst
            have HFin := hid hst
            clear hp hst c1
            go_wp2
            go_ret
            exact ⟨by rw [← HFin.out]; rfl, HBW.out⟩
          · rw [if_neg c4] at hp
            have HP2 := hid hp
            clear hp c1
            go_wp2
            go_roundw
            case rel => exact ⟨j + 1 + 1, by omega, by go_num, trivial, by rw [HLx.out]; exact HP2.out⟩
            case measure => simp only [intOf]; omega
    · have hie : m = i := by omega
      subst hie
      have hp := HP.out
      rw [Nat.sub_self] at hp
      have hp0 : parE k X m 0 (-1) = 0 := hp.symm
      have hst := HA.out
      rw [hp0, if_pos rfl] at hst
      have HCk := hid (shCheck nd of sz wr)
      rw [hst] at HCk
      clear hp hp0 hst
      unfold planV at HCk
      go_wp2_with fail
      refine Calls.mono HCk.out ?_
      rintro e w5 ⟨rfl, hb5⟩
      have HB5 := hid (HBW.out.trans (hb5.mono HBW.out.size))
      clear hb5
      go_wp2
      go_ret
      exact ⟨rfl, HB5.out⟩

set_option maxHeartbeats 2000000 in
theorem bkCheck (v : Value) (n : Nat) (PV : Nat → Value) (b : Bk) (w : World) (h : VeSl w w.heap.size v n PV b) :
    Calls Tryz.prog 53 #[bookV v] w fun e w' => e = .returned (.int .i64 (bookE n b)) ∧ Below w.heap.size w w' := by
  obtain ⟨ad, cap, rfl, ⟨hcap, hbig⟩, hx⟩ := h
  have hbx := below_alloc w (.cells #[.slice ad n cap] 24)
  have HBx := hid hbx
  have HX := hid hx
  obtain ⟨ans, hans⟩ : ∃ a, bookE n b = a := ⟨_, rfl⟩
  rw [hans]
  unfold bookE at hans
  clear hbx hx
  unfold bookV
  by_cases hn : n ≤ 12
  · rw [if_pos hn] at hans
    have HA := hid hans
    have hni : (n : Int) ≤ 12 := by omega
    clear hans
    go_enter Tryz.func53, Tryz.ntmps53
    go_wp2
    go_loopw [13] (fun iv wr => ∃ k : Nat, k ≤ n ∧ iv = .int .i64 k ∧ Hid (Below w.heap.size w wr) ∧ Hid (scanV b (n - k) k = ans)) (fun iv _ => n - (intOf iv).toNat)
    case atStart => exact ⟨0, Nat.zero_le _, rfl, HBx, HA⟩
    case round =>
      obtain ⟨k, hk, rfl, HB, HS⟩ := hrel
      by_cases hlt : k < n
      · have hki : (k : Int) < (n : Int) := by omega
        rcases HX.out with h0 | ⟨bl, off, rfl, hbl, hx⟩
        · omega
        obtain ⟨x0, x1, x2, x3, x4⟩ := hx k hlt
        have hstep := HS.out
        rw [show n - k = (n - (k + 1)) + 1 by omega] at hstep
        simp only [scanV] at hstep
        have HI : Hid (∀ w', Below w.heap.size w w' → IntSl w' w'.heap.size (PV k) (b.PL k) (b.PX k)) := fun w' hb => x4.up hb
        obtain ⟨ap, cp, hpe, _, _⟩ := x4
        rw [hpe] at x0 HI
        have g0 : wr.cell? ⟨bl, off + k * 4, none⟩ = some (.slice ap (b.PL k) cp) := by rw [HB.out.cell hbl]; exact x0
        have g1 : wr.cell? ⟨bl, off + k * 4 + 1, none⟩ = some (.int .i64 (b.nd k)) := by rw [HB.out.cell hbl]; exact x1
        have g2 : wr.cell? ⟨bl, off + k * 4 + 2, none⟩ = some (.int .i64 (b.of k)) := by rw [HB.out.cell hbl]; exact x2
        have g3 : wr.cell? ⟨bl, off + k * 4 + 3, none⟩ = some (.int .i64 (b.sz k)) := by rw [HB.out.cell hbl]; exact x3
        have hbA := below_alloc wr (.cells #[.slice ap (b.PL k) cp, .int .i64 (b.nd k), .int .i64 (b.of k), .int .i64 (b.sz k)] 60)
        have HBW := hid (HB.out.trans (hbA.mono HB.out.size))
        have HC := hid (bkOne k _ _ _ (b.nd k) (b.of k) (b.sz k) _ (HI.out _ HBW.out))
        rw [show oneV k (b.PL k) (b.PX k) (b.nd k) (b.of k) (b.sz k) = verE b k from rfl] at HC
        obtain ⟨c, hcc⟩ : ∃ c, verE b k = c := ⟨_, rfl⟩
        rw [hcc] at HC hstep
        clear x0 x1 x2 x3 hx hpe hbA hcc
        unfold verV at HC
        by_cases hc0 : c = 0
        · subst hc0
          rw [if_pos rfl] at hstep
          have HNx := hid hstep
          clear hstep
          go_wp2_with fail
          refine Calls.mono HC.out ?_
          rintro e w5 ⟨rfl, hb5⟩
          have HB5 := hid (HBW.out.trans (hb5.mono HBW.out.size))
          clear hb5
          go_wp2
          go_roundw
          case rel => exact ⟨k + 1, by omega, by go_num, HB5, HNx⟩
          case measure => simp only [intOf]; omega
        · rw [if_neg hc0] at hstep
          have HFin := hid hstep
          have hcb : (c != 0) = true := by simpa using hc0
          clear hstep hc0
          go_wp2_with fail
          refine Calls.mono HC.out ?_
          rintro e w5 ⟨rfl, hb5⟩
          have HB5 := hid (HBW.out.trans (hb5.mono HBW.out.size))
          clear hb5
          go_wp2
          go_ret
          exact ⟨by rw [← HFin.out]; rfl, HB5.out⟩
      · have hke : n = k := by omega
        subst hke
        have hst := HS.out
        rw [Nat.sub_self] at hst
        have HFin : Hid ((0 : Int) = ans) := hst
        clear hst
        go_wp2
        go_ret
        exact ⟨by rw [← HFin.out]; rfl, HB.out⟩
  · rw [if_neg hn] at hans
    have HA := hid hans
    have hni : ¬ (n : Int) ≤ 12 := by omega
    clear hans
    go_enter Tryz.func53, Tryz.ntmps53
    go_wp2
    go_ret
    exact ⟨by rw [← HA.out]; rfl, HBx.out⟩

end Go.Proofs.YtjfnpjmhippdoafGreat

/- What package book makes of its own: a version, a book, copied whole. -/
namespace Go.Proofs.YtjfnpjmhippdoafGreat

open Go.RowKit
set_option linter.unusedVariables false

theorem splice_all {n : Nat} (D : Nat → Int) (j : Nat) (hj : j < n) :
    (splice (List.replicate n (Value.int .i64 0)) 0 ((List.range n).map fun j => Value.int .i64 (D j)))[j]? = some (.int .i64 (D j)) := by
  unfold splice
  simp only [List.take_zero, List.nil_append]
  rw [List.getElem?_append_left (by simpa using hj)]
  simp [hj]

/-- a list copied over as many noughts -/
theorem copy_all2 {w0 w : World} {g m cp : Nat} {a : Option Addr} {D : Nat → Int} (hg : w.heap[g]? = some (.cells (List.replicate m (Value.int .i64 0)).toArray 3 (0, 0))) (h : IntSl w w.heap.size (.slice a m cp) m D) (hb0 : Below g w0 w) :
    ∃ w', (Builtin.copy_ #[28, 28] 3 #[.slice (some ⟨g, 0, none⟩) m m, .slice a m cp]).run Tryz.prog w = .ok (.int .i64 (m : Int)) w' ∧ (∀ j, j < m → w'.cell? ⟨g, j, none⟩ = some (.int .i64 (D j))) ∧ Below g w0 w' ∧ ∃ cs : Array Value, w'.heap[g]? = some (.cells cs 3 (0, 0)) := by
  obtain ⟨ad, cp', e, _, hx⟩ := h
  injection e with e1
  subst e1
  by_cases hm : m = 0
  · subst hm
    exact ⟨w, run_copy_none (P := Tryz.prog) w 28 28 3 3 _ _ 0 0 0 cp Tryz.underlying28 Tryz.sizeInt rfl, fun j hj => by omega, hb0, _, hg⟩
  rcases hx with h0 | ⟨b, o, rfl, hb, hx⟩
  · omega
  have hsrc : ∀ j v, ((List.range m).map fun j => Value.int .i64 (D j))[j]? = some v → w.cell? (Addr.add ⟨b, o, none⟩ j) = some v := fun j v hj => by
    have hjs : j < m := by
      rcases Nat.lt_or_ge j m with h | h
      · exact h
      · rw [List.getElem?_eq_none (by simpa using h)] at hj; cases hj
    simp only [List.getElem?_map, List.getElem?_range hjs, Option.map_some, Option.some.injEq] at hj
    rw [Addr.add_lit, hx j hjs, hj]
  have hrun := run_copy_row (P := Tryz.prog) w 28 28 3 3 g 0 m m ⟨b, o, none⟩ m cp (List.replicate m (Value.int .i64 0)).toArray 3 ((List.range m).map fun j => Value.int .i64 (D j)) Tryz.underlying28 Tryz.sizeInt hg (by simp) hsrc (by simp) (fun v hv => by obtain ⟨j, _, rfl⟩ := List.mem_map.1 hv; rfl)
  have hl : (((List.range m).map fun j => Value.int .i64 (D j)).length : Int) = (m : Int) := by simp
  refine ⟨_, by rw [hrun, hl]; rfl, fun j hj => ?_, below_setRow hb0 (Nat.le_refl _) _, _, setRow_heap w g _ _ _ _ hg⟩
  refine cell_at (setRow_heap w g _ _ _ _ hg) ?_
  have h1 := splice_all D j hj
  unfold splice at h1
  simpa using h1

theorem copy_all {w0 w : World} {g m cp : Nat} {a : Option Addr} {D : Nat → Int} (hg : w.heap[g]? = some (.cells (List.replicate m (Value.int .i64 0)).toArray 3 (0, 0))) (h : IntSl w w.heap.size (.slice a m cp) m D) (hb0 : Below g w0 w) :
    ∃ w', (Builtin.copy_ #[28, 28] 3 #[.slice (some ⟨g, 0, none⟩) m m, .slice a m cp]).run Tryz.prog w = .ok (.int .i64 (m : Int)) w' ∧ (∀ j, j < m → w'.cell? ⟨g, j, none⟩ = some (.int .i64 (D j))) ∧ Below g w0 w' := by
  obtain ⟨w', h1, h2, h3, _⟩ := copy_all2 hg h hb0
  exact ⟨w', h1, h2, h3⟩

theorem four_at {w : World} {g : Nat} {T : TypeId} {u0 u1 u2 u3 : Value} (h : w.heap[g]? = some (.cells #[u0, u1, u2, u3] T (0, 0))) :
    w.cell? ⟨g, 0, none⟩ = some u0 ∧ w.cell? ⟨g, 1, none⟩ = some u1 ∧ w.cell? ⟨g, 2, none⟩ = some u2 ∧ w.cell? ⟨g, 3, none⟩ = some u3 := ⟨cell_at h rfl, cell_at h rfl, cell_at h rfl, cell_at h rfl⟩

theorem four_free {w : World} {g : Nat} {T : TypeId} {u0 u1 u2 u3 : Value} (h : w.heap[g]? = some (.cells #[u0, u1, u2, u3] T (0, 0))) :
    w.frozen? ⟨g, 0, none⟩ = false ∧ w.frozen? ⟨g, 1, none⟩ = false ∧ w.frozen? ⟨g, 2, none⟩ = false ∧ w.frozen? ⟨g, 3, none⟩ = false := ⟨frozen_at h, frozen_at h, frozen_at h, frozen_at h⟩

/-- a version put into its cells -/
def put4 (w : World) (g o : Nat) (u0 u1 u2 u3 : Value) : World := (((w.setCell ⟨g, o, none⟩ u0).setCell ⟨g, o + 1, none⟩ u1).setCell ⟨g, o + 2, none⟩ u2).setCell ⟨g, o + 3, none⟩ u3

theorem put4_whole {w : World} {g : Nat} {T : TypeId} {v0 v1 v2 v3 : Value} (h : w.heap[g]? = some (.cells #[v0, v1, v2, v3] T (0, 0))) (u0 u1 u2 u3 : Value) : (put4 w g 0 u0 u1 u2 u3).heap[g]? = some (.cells #[u0, u1, u2, u3] T (0, 0)) := by
  simp [put4, World.setCell, Array.getElem?_modify, h]

theorem below_put4 {B : Nat} {w0 w : World} (h : Below B w0 w) {g : Nat} (hg : B ≤ g) (o : Nat) (u0 u1 u2 u3 : Value) : Below B w0 (put4 w g o u0 u1 u2 u3) :=
  (((h.setCell (p := ⟨g, o, none⟩) hg _).setCell (p := ⟨g, o + 1, none⟩) hg _).setCell (p := ⟨g, o + 2, none⟩) hg _).setCell (p := ⟨g, o + 3, none⟩) hg _

theorem put4_other {w : World} {g o : Nat} {u0 u1 u2 u3 : Value} {a : Addr} (h : a.block ≠ g) : (put4 w g o u0 u1 u2 u3).cell? a = w.cell? a := by
  unfold put4
  rw [World.cell?_setCell_other _ _ _ _ (by intro e; rw [← e] at h; exact h rfl), World.cell?_setCell_other _ _ _ _ (by intro e; rw [← e] at h; exact h rfl), World.cell?_setCell_other _ _ _ _ (by intro e; rw [← e] at h; exact h rfl), World.cell?_setCell_other _ _ _ _ (by intro e; rw [← e] at h; exact h rfl)]

set_option maxHeartbeats 1000000 in
theorem bkOwn (pv : Value) (m : Nat) (X : Nat → Int) (nd of sz : Int) (w : World) (h : IntSl w w.heap.size pv m X) :
    Calls Tryz.prog 55 #[verV pv nd of sz] w fun e w' => Below w.heap.size w w' ∧ ∃ pv', e = .returned (verV pv' nd of sz) ∧ IntSl w' w'.heap.size pv' m X ∧ Above w.heap.size pv' := by
  have hbA := ((Below.refl w.heap.size w).alloc (Nat.le_refl _) (.cells #[pv, .int .i64 nd, .int .i64 of, .int .i64 sz] 60)).alloc (by simp) (.cells #[.slice none 0 0, .int .i64 0, .int .i64 0, .int .i64 0] 60)
  have HI := hid h
  obtain ⟨ap, cp, rfl, ⟨hcap, hbig⟩, hpc⟩ := h
  obtain ⟨W, hW⟩ : ∃ W, (w.alloc (.cells #[.slice ap m cp, .int .i64 nd, .int .i64 of, .int .i64 sz] 60)).alloc (.cells #[.slice none 0 0, .int .i64 0, .int .i64 0, .int .i64 0] 60) = W := ⟨_, rfl⟩
  rw [hW] at hbA
  have k0 : W.heap[w.heap.size]? = some (.cells #[.slice ap m cp, .int .i64 nd, .int .i64 of, .int .i64 sz] 60 (0, 0)) := by rw [← hW]; exact heap_two_old w _ _
  have k1 : W.heap[w.heap.size + 1]? = some (.cells #[.slice none 0 0, .int .i64 0, .int .i64 0, .int .i64 0] 60 (0, 0)) := by rw [← hW]; exact heap_two_new w _ _
  have hsz : w.heap.size + 1 < W.heap.size := (Array.getElem?_eq_some_iff.1 k1).1
  have s0 : W.cell? ⟨w.heap.size, 0, none⟩ = some (.slice ap m cp) := cell_at k0 rfl
  obtain ⟨ii, hii, hz0, hz1, hz2⟩ := info_parts Tryz.infoInt
  have HBW := hid hbA
  have HK0 := hid k0
  have HK1 := hid k1
  have HSz := hid hsz
  clear hbA hpc k0 k1 hsz
  unfold verV
  go_enter Tryz.func55, Tryz.ntmps55
  go_wp2_with (at_make; refine wpList_make_full _ rfl (.tmp 6) (.tmp 6) 28 rfl _ 3 ii (.int .i64 0) 1 Tryz.underlying28 hii hz0 hz1 _ _ _ _ m rfl rfl rfl rfl (by rw [hz2]; omega) (by unfold maxLen; omega) (Nat.le_refl _) ?_; intro w1 ho1 hg1; have HB1 := hid (below_of_grown hg1); have t0 : w1.cell? ⟨w.heap.size, 0, none⟩ = some (.slice ap m cp) := (HB1.out.cell (cell_lt s0)).trans s0; obtain ⟨w2, hrun, hm2, hb2⟩ := copy_all (made_block ho1) ((HI.out.up HBW.out).up HB1.out) HB1.out; have HM2 := hid hm2; have HB2 := hid hb2; obtain ⟨c0, c1, c2, c3⟩ := four_at ((hb2.block _ (Nat.lt_of_succ_lt HSz.out)).trans HK0.out); obtain ⟨d0, d1, d2, d3⟩ := four_at ((hb2.block _ HSz.out).trans HK1.out); obtain ⟨f0, f1, f2, f3⟩ := four_free ((hb2.block _ HSz.out).trans HK1.out); clear ho1 hg1 hm2 hb2)
  have hB3 : Below w.heap.size w (put4 w2 (w.heap.size + 1) 0 (.slice (some ⟨W.heap.size, 0, none⟩) m m) (.int .i64 nd) (.int .i64 of) (.int .i64 sz)) := below_put4 (HBW.out.trans (HB2.out.mono HBW.out.size)) (by omega) _ _ _ _ _
  have hH := put4_whole ((HB2.out.block _ HSz.out).trans HK1.out) (.slice (some ⟨W.heap.size, 0, none⟩) m m) (.int .i64 nd) (.int .i64 of) (.int .i64 sz)
  refine bodyPost_ret (results_cell_row rfl _ _ (w.heap.size + 1) 60 #[.slice (some ⟨W.heap.size, 0, none⟩) m m, .int .i64 nd, .int .i64 of, .int .i64 sz] (0, 0) _ rfl hH Tryz.underlying60 rfl (by kernel_rfl)) rfl ?_
  refine ⟨hB3, _, rfl, ⟨_, _, rfl, ⟨Nat.le_refl _, by omega⟩, ?_⟩, fun ad n' c' e' => by injection e' with e1; injection e1 with e1; subst e1; exact HBW.out.size⟩
  by_cases hm : m = 0
  · exact Or.inl hm
  · have hsz := HSz.out
    have hc : ∀ j, j < m → (put4 w2 (w.heap.size + 1) 0 (.slice (some ⟨W.heap.size, 0, none⟩) m m) (.int .i64 nd) (.int .i64 of) (.int .i64 sz)).cell? ⟨W.heap.size, 0 + j, none⟩ = some (.int .i64 (X j)) := fun j hj => by
      rw [put4_other (by show W.heap.size ≠ w.heap.size + 1; omega), Nat.zero_add]
      exact HM2.out j hj
    exact Or.inr ⟨_, 0, rfl, cell_lt (hc 0 (by omega)), hc⟩

end Go.Proofs.YtjfnpjmhippdoafGreat

/- What package place owes, and the closed fact that chapter 8's laws ask first. -/
namespace Go.Proofs.YtjfnpjmhippdoafGreat

open Go.RowKit
set_option linter.unusedVariables false

theorem kel_nil (w : World) (B : Nat) (UV : Nat → Value) (t : Kt) : KeSl w B (.slice none 0 0) 0 UV t := ⟨none, 0, rfl, ⟨Nat.le_refl _, by omega⟩, Or.inl rfl⟩

end Go.Proofs.YtjfnpjmhippdoafGreat

/- How package place holds two peers against each other: by how much room is left. -/
namespace Go.Proofs.YtjfnpjmhippdoafGreat

open Go.RowKit Go.Lib Go.Sort
set_option linter.unusedVariables false

/-- which of two numbers is greater -/
def cmpZ (a c : Int) : Int := if a < c then -1 else if c < a then 1 else 0

/-- a world that has drawn, and holds more -/
def GrO (w u : World) : Prop := ∃ q os, u = grow (w.drewN q) os

theorem GrO.refl (w : World) : GrO w w := ⟨0, #[], by rw [grow_empty]; rfl⟩
theorem GrO.alloc {w u : World} (h : GrO w u) (o : Obj) : GrO w (u.alloc o) := by
  obtain ⟨q, os, rfl⟩ := h
  exact ⟨q, os ++ #[o], by rw [alloc_eq_grow, grow_grow]⟩
theorem GrO.drew {w u : World} (h : GrO w u) : GrO w u.drew := by
  obtain ⟨q, os, rfl⟩ := h
  exact ⟨q + 1, os, rfl⟩
theorem GrO.below {w u : World} (h : GrO w u) : Below w.heap.size w u := by
  obtain ⟨q, os, rfl⟩ := h
  refine ⟨rfl, rfl, rfl, by simp [grow], fun k hk => ?_⟩
  show (w.heap ++ os)[k]? = w.heap[k]?
  rw [Array.getElem?_append_left hk]

theorem isNaN_int (x : Int) (w : World) : Calls Tryz.prog 107 #[.int .i64 x] w fun e w' => e = .returned (.bool false) ∧ w' = w := by
  have hx : (x != x) = false := by simp
  go_enter Tryz.func107, Tryz.ntmps107
  go_wp2
  go_ret
  exact ⟨by first | rfl | rw [hx], rfl⟩

theorem compare_int (x y : Int) (w : World) : Calls Tryz.prog 96 #[.int .i64 x, .int .i64 y] w fun e w' => e = .returned (.int .i64 (cmpZ x y)) ∧ w' = w := by
  unfold cmpZ
  by_cases h1 : x < y
  · rw [if_pos h1]
    go_enter Tryz.func96, Tryz.ntmps96
    go_wp2_with (go_at_call 107; go_must (refine (isNaN_int _ _).mono ?_; rintro e w1 ⟨rfl, hw1⟩; subst w1))
    go_ret
    exact ⟨rfl, rfl⟩
  · rw [if_neg h1]
    by_cases h2 : y < x
    · rw [if_pos h2]
      go_enter Tryz.func96, Tryz.ntmps96
      go_wp2_with (go_at_call 107; go_must (refine (isNaN_int _ _).mono ?_; rintro e w1 ⟨rfl, hw1⟩; subst w1))
      go_ret
      exact ⟨rfl, rfl⟩
    · rw [if_neg h2]
      go_enter Tryz.func96, Tryz.ntmps96
      go_wp2_with (go_at_call 107; go_must (refine (isNaN_int _ _).mono ?_; rintro e w1 ⟨rfl, hw1⟩; subst w1))
      go_ret
      exact ⟨rfl, rfl⟩

theorem plLeft (th : Bool) (room : Int) (a : Option Addr) (m c : Nat) (w : World) (h1 : 0 ≤ room ∧ room ≤ 20) (h2 : (m : Int) ≤ room) :
    Calls Tryz.prog 93 #[peerV th room (.slice a m c)] w fun e w' => e = .returned (.int .i64 (room - m)) ∧ w' = w.alloc (.cells #[.bool th, .int .i64 room, .slice a m c] 45) := by
  unfold peerV
  go_enter Tryz.func93, Tryz.ntmps93
  go_wp2
  go_ret
  exact ⟨rfl, rfl⟩

set_option maxHeartbeats 2000000 in
theorem plComp (bx : Nat) (a : Option Addr) (c : Nat) (np : Nat) (KV : Nat → Value) (UV : Nat → Nat → Value) (P : Ps) (i j : Nat) (hi : i < np) (hj : j < np) (hr : ∀ k, k < np → (0 ≤ P.rm k ∧ P.rm k ≤ 20) ∧ (P.m k : Int) ≤ P.rm k) (w : World)
    (hl : PsSl w w.heap.size (.slice a np c) np KV UV P) (hx : w.cell? ⟨bx, 0, none⟩ = some (.slice a np c)) :
    Calls Tryz.prog 95 #[.int .i64 (i : Int), .int .i64 (j : Int), .pointer (some ⟨bx, 0, none⟩)] w fun e w' => e = .returned (.int .i64 (cmpZ (leftK P j) (leftK P i))) ∧ GrO w w' := by
  obtain ⟨bl, off, rfl, hbl, g0, g1, g2, g3⟩ := hl.at hi
  obtain ⟨bl', off', he, _, f0, f1, f2, f3⟩ := hl.at hj
  injection he with he
  injection he with he1 he2 _
  subst he1 he2
  obtain ⟨ai, ci, hki, _, _⟩ := g3
  obtain ⟨aj, cj, hkj, _, _⟩ := f3
  obtain ⟨_, _, _, ⟨hcl, hbig⟩, _⟩ := hl
  have hri := hr i hi
  have hrj := hr j hj
  rw [hki] at g2
  rw [hkj] at f2
  have hne : Nonempty (Of (GrO w)) := ⟨⟨w, GrO.refl w⟩⟩
  have F0 : ∀ u : Of (GrO w), u.val.cell? ⟨bx, 0, none⟩ = some (.slice (some ⟨bl, off, none⟩) np c) := fun u => by rw [u.is.below.cell (cell_lt hx)]; exact hx
  have F1 : ∀ u : Of (GrO w), u.val.cell? ⟨bl, off + i * 3, none⟩ = some (.bool (P.th i)) := fun u => by rw [u.is.below.cell hbl]; exact g0
  have F2 : ∀ u : Of (GrO w), u.val.cell? ⟨bl, off + i * 3 + 1, none⟩ = some (.int .i64 (P.rm i)) := fun u => by rw [u.is.below.cell hbl]; exact g1
  have F3 : ∀ u : Of (GrO w), u.val.cell? ⟨bl, off + i * 3 + 2, none⟩ = some (.slice ai (P.m i) ci) := fun u => by rw [u.is.below.cell hbl]; exact g2
  have F4 : ∀ u : Of (GrO w), u.val.cell? ⟨bl, off + j * 3, none⟩ = some (.bool (P.th j)) := fun u => by rw [u.is.below.cell hbl]; exact f0
  have F5 : ∀ u : Of (GrO w), u.val.cell? ⟨bl, off + j * 3 + 1, none⟩ = some (.int .i64 (P.rm j)) := fun u => by rw [u.is.below.cell hbl]; exact f1
  have F6 : ∀ u : Of (GrO w), u.val.cell? ⟨bl, off + j * 3 + 2, none⟩ = some (.slice aj (P.m j) cj) := fun u => by rw [u.is.below.cell hbl]; exact f2
  have hii : (i : Int) < (np : Int) := by omega
  have hjj : (j : Int) < (np : Int) := by omega
  have C1 : Hid (∀ u, _) := fun u => plLeft (P.th j) (P.rm j) aj (P.m j) cj u hrj.1 hrj.2
  have C2 : Hid (∀ u, _) := fun u => plLeft (P.th i) (P.rm i) ai (P.m i) ci u hri.1 hri.2
  have C3 : Hid (∀ u, _) := fun u => compare_int (P.rm j - P.m j) (P.rm i - P.m i) u
  unfold peerV at C1 C2
  clear g0 g1 g2 f0 f1 f2 hki hkj hx hr
  unfold leftK
  obtain ⟨ans, hans⟩ : ∃ x, cmpZ (P.rm j - P.m j) (P.rm i - P.m i) = x := ⟨_, rfl⟩
  rw [hans]
  rw [hans] at C3
  clear hans
  go_enter Tryz.func95, Tryz.ntmps95
  go_wp2_with fail
  have HD1 : Hid (GrO w w.drew) := (GrO.refl w).drew
  refine region_mixed (GrO w) [([0, 1, 2, 3, 5, 6, 7, 8], 4), ([], 9), ([], 10)] [11] (by kernel_rfl) (by kernel_rfl) HD1.out ?_
  refine mixO_cons (by simp only [pickO, List.getElem?_cons_zero, List.getElem?_cons_succ]; exact rfl) (by simp only [pickO, List.getElem?_cons_zero, List.getElem?_cons_succ]; exact rfl) ?_
  repeat (go_big_quiet_step (fail))
  refine wpQuiet_nil ?_
  intro K hK
  go_wp2_with fail
  refine Calls.mono (C1.out _) ?_
  rintro e w5 ⟨rfl, hw5⟩
  have H5 : Hid (GrO w w5) := by show GrO w w5; rw [hw5]; exact HD1.out.alloc _
  clear hw5
  go_wp2
  refine ⟨rfl, hK _ _ H5.out ?_⟩
  clear hK K
  refine mixO_cons (lq := []) rfl (by simp only [pickO, List.getElem?_cons_zero, List.getElem?_cons_succ]; exact rfl) ?_
  refine wpQuiet_nil ?_
  intro K hK
  go_wp2_with fail
  refine Calls.mono (C2.out _) ?_
  rintro e w6 ⟨rfl, hw6⟩
  have H6 : Hid (GrO w w6) := by show GrO w w6; rw [hw6]; exact H5.out.alloc _
  clear hw6
  go_wp2
  refine ⟨rfl, hK _ _ H6.out ?_⟩
  clear hK K
  refine mixO_cons (lq := []) rfl (by simp only [pickO, List.getElem?_cons_zero, List.getElem?_cons_succ]; exact rfl) ?_
  refine wpQuiet_nil ?_
  intro K hK
  go_wp2_with fail
  refine Calls.mono (C3.out _) ?_
  rintro e w7 ⟨rfl, hw7⟩
  subst w7
  go_wp2
  refine ⟨rfl, hK _ _ H6.out ?_⟩
  clear hK K
  refine mixO_nil (by simp only [pickO, List.getElem?_cons_zero, List.getElem?_cons_succ]; exact rfl) ?_
  repeat (go_big_quiet_step (fail))
  refine wpQuiet_nil ?_
  clear F0 F1 F2 F3 F4 F5 F6 hne
  go_wp2
  go_ret
  exact ⟨rfl, H6.out⟩

end Go.Proofs.YtjfnpjmhippdoafGreat

/- The insertion sort keeps the order of like ones: of a list that rises it makes the one that is sorted by what is asked, and of like ones by number. Plain: it speaks of no program. -/
namespace Go.Proofs.YtjfnpjmhippdoafGreat

open Go.Sort
set_option linter.unusedVariables false

section

variable {α : Type} [Inhabited α] (key : α → Nat) (lt ltX : α → α → Bool)

theorem insInner_agree (hag : ∀ x y, key y < key x → lt x y = ltX x y) : ∀ (j : Nat) (d : Array α), j < d.size → (∀ k, k < j → key d[k]! < key d[j]!) → insInner lt 0 j d = insInner ltX 0 j d := by
  intro j
  induction j with
  | zero => intro d _ _; rfl
  | succ j ih =>
    intro d hj hk
    have e := hag d[j + 1]! d[j]! (hk j (by omega))
    unfold insInner
    rw [e]
    by_cases c : (decide (j + 1 > 0) && ltX d[j + 1]! d[j]!) = true
    · rw [if_pos c, if_pos c]
      refine ih _ (by rw [size_swp]; omega) fun k hkj => ?_
      rw [swp_right d (j + 1) j (by omega), swp_other d (j + 1) j k (by omega) (by omega)]
      exact hk k (by omega)
    · rw [if_neg c, if_neg c]

/-- what an inner loop leaves: no greater keys than c up to i, all else as it was -/
theorem insInner_keeps (c i : Nat) : ∀ (j : Nat) (d : Array α), j ≤ i → i < d.size → (∀ k, k ≤ i → key d[k]! ≤ c) →
    (insInner ltX 0 j d).size = d.size ∧ (∀ k, k ≤ i → key (insInner ltX 0 j d)[k]! ≤ c) ∧ ∀ m, i < m → (insInner ltX 0 j d)[m]! = d[m]! := by
  intro j
  induction j with
  | zero => intro d _ _ h; exact ⟨rfl, h, fun _ _ => rfl⟩
  | succ j ih =>
    intro d hj hi h
    unfold insInner
    by_cases c1 : (decide (j + 1 > 0) && ltX d[j + 1]! d[j]!) = true
    · rw [if_pos c1]
      have h2 : ∀ k, k ≤ i → key (swp d (j + 1) j)[k]! ≤ c := fun k hk => by
        by_cases e1 : k = j + 1
        · subst e1; rw [swp_left d (j + 1) j (by omega) (by omega)]; exact h j (by omega)
        · by_cases e2 : k = j
          · subst e2; rw [swp_right d (k + 1) k (by omega)]; exact h (k + 1) (by omega)
          · rw [swp_other d (j + 1) j k e1 e2]; exact h k hk
      obtain ⟨g1, g2, g3⟩ := ih (swp d (j + 1) j) (by omega) (by rw [size_swp]; exact hi) h2
      refine ⟨by rw [g1, size_swp], g2, fun m hm => ?_⟩
      rw [g3 m hm, swp_other d (j + 1) j m (by omega) (by omega)]
    · rw [if_neg c1]
      exact ⟨rfl, h, fun _ _ => rfl⟩

theorem insOuter_go' (a b i : Nat) (d : Array α) (h : i < b) : insOuter lt a b i d = insOuter lt a b (i + 1) (insInner lt a i d) := by rw [insOuter, if_pos h]
theorem insOuter_stop' (a b i : Nat) (d : Array α) (h : ¬ i < b) : insOuter lt a b i d = d := by rw [insOuter, if_neg h]

theorem insOuter_agree (hag : ∀ x y, key y < key x → lt x y = ltX x y) (d0 : Array α) (hr : ∀ i j, i < j → j < d0.size → key d0[i]! < key d0[j]!) :
    ∀ (f i : Nat) (d : Array α), d0.size - i ≤ f → 1 ≤ i → d.size = d0.size → (∀ k, k < i → i < d0.size → key d[k]! < key d0[i]!) → (∀ m, i ≤ m → d[m]! = d0[m]!) → insOuter lt 0 d0.size i d = insOuter ltX 0 d0.size i d := by
  intro f
  induction f with
  | zero =>
    intro i d hf h1 hs hk hm
    rw [insOuter_stop' lt _ _ _ _ (by omega), insOuter_stop' ltX _ _ _ _ (by omega)]
  | succ f ih =>
    intro i d hf h1 hs hk hm
    by_cases hi : i < d0.size
    · rw [insOuter_go' lt _ _ _ _ hi, insOuter_go' ltX _ _ _ _ hi]
      have hki : ∀ k, k < i → key d[k]! < key d[i]! := fun k h => by rw [hm i (Nat.le_refl _)]; exact hk k h hi
      rw [insInner_agree key lt ltX hag i d (by omega) hki]
      have hc : ∀ k, k ≤ i → key d[k]! ≤ key d0[i]! := fun k h => by
        by_cases e : k = i
        · subst e; rw [hm k (Nat.le_refl _)]; exact Nat.le_refl _
        · exact Nat.le_of_lt (hk k (by omega) hi)
      obtain ⟨g1, g2, g3⟩ := insInner_keeps key ltX (key d0[i]!) i i d (Nat.le_refl _) (by omega) hc
      refine ih (i + 1) _ (by omega) (by omega) (by rw [g1, hs]) (fun k h h2 => ?_) (fun m h => ?_)
      · have := g2 k (by omega)
        have := hr i (i + 1) (by omega) h2
        omega
      · rw [g3 m (by omega), hm m (by omega)]
    · rw [insOuter_stop' lt _ _ _ _ hi, insOuter_stop' ltX _ _ _ _ hi]

/-- of a list that rises: sorted by what is asked, of like ones by number -/
theorem insertionSort_stable (hag : ∀ x y, key y < key x → lt x y = ltX x y) (hS : SWO ltX) (d : Array α) (hr : ∀ i j, i < j → j < d.size → key d[i]! < key d[j]!) :
    PermIn 0 d.size d (insertionSort lt d 0 d.size) ∧ SortedIn ltX 0 d.size (insertionSort lt d 0 d.size) := by
  have e : insertionSort lt d 0 d.size = insertionSort ltX d 0 d.size := by
    unfold insertionSort
    refine insOuter_agree key lt ltX hag d hr d.size 1 d (by omega) (Nat.le_refl _) rfl (fun k hk h => hr k 1 (by omega) h) (fun _ _ => rfl)
  rw [e]
  exact insertionSort_holds hS d 0 d.size (Nat.zero_le _) (Nat.le_refl _)

end

end Go.Proofs.YtjfnpjmhippdoafGreat

/- Contracts of the library as they lie at this program: laid by the guide's own command, in plain words. -/
namespace Go.Proofs

open Go.Shelf
def Tryz.insInts_ren : Go.Shelf.Ren := ⟨fun | 20 => 141 | n => n, fun | 24 => 3 | 22 => 28 | 3 => 3 | 25 => 41 | 4 => 4 | 0 => 0 | n => n, fun | n => n⟩
theorem Tryz.insInts : Go.Proofs.SlLaysF.n20 Tryz.prog Tryz.insInts_ren := {
  mixed := by kernel_rfl
  f20 := ⟨Tryz.f141.name, by decide, Tryz.func141.trans (congrArg some (by kernel_rfl))⟩
  t0 := Tryz.underlying0
  a0 := Tryz.isAgg0
  z0 := Tryz.sizeOf0
  v0 := Tryz.zeroValue0
  t3 := Tryz.underlying3
  a3 := Tryz.isAgg3
  z3 := Tryz.sizeOf3
  v3 := Tryz.zeroValue3
  t4 := Tryz.underlying4
  a4 := Tryz.isAgg4
  z4 := Tryz.sizeOf4
  v4 := Tryz.zeroValue4
  t22 := Tryz.underlying28
  a22 := Tryz.isAgg28
  z22 := Tryz.sizeOf28
  v22 := Tryz.zeroValue28
  a24 := Tryz.isAgg3
  z24 := Tryz.sizeOf3
  t25 := Tryz.underlying41
  a25 := Tryz.isAgg41
  z25 := Tryz.sizeOf41
  v25 := Tryz.zeroValue41 }

end Go.Proofs
