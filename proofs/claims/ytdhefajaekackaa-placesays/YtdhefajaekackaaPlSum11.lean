/- Several texts of one proof, in their order. -/
import Derived.Test.YtdhefajaekackaaPlSum9
import Derived.Test.YtdhefajaekackaaPlSum10
import Derived.Test.YtdhefajaekackaaPlSum2
import Derived.Deep.Strs

/- Boxes that stay: books, peers, kept ones. -/
namespace Go.Proofs.Ytdhefajaekackaa

open Go.RowKit
set_option linter.unusedVariables false

/-- block g holds this peer -/
def PrAt (w : World) (g : Nat) (th : Bool) (room : Int) (a : Option Addr) (m c : Nat) (UV : Nat → Value) (t : Kt) : Prop :=
  w.heap[g]? = some (.cells #[.bool th, .int .i64 room, .slice a m c] 58 (0, 0)) ∧ KeSl w w.heap.size (.slice a m c) m UV t

theorem PrAt.up {w w' : World} {g : Nat} {th : Bool} {room : Int} {a : Option Addr} {m c : Nat} {UV : Nat → Value} {t : Kt} (h : PrAt w g th room a m c UV t) (hb : Below w.heap.size w w') : PrAt w' g th room a m c UV t := ⟨stayB h.1 hb, h.2.up hb⟩

theorem PrAt.cells {w : World} {g : Nat} {th : Bool} {room : Int} {a : Option Addr} {m c : Nat} {UV : Nat → Value} {t : Kt} (h : PrAt w g th room a m c UV t) : w.cell? ⟨g, 0, none⟩ = some (.bool th) ∧ w.cell? ⟨g, 1, none⟩ = some (.int .i64 room) ∧ w.cell? ⟨g, 2, none⟩ = some (.slice a m c) := three_at h.1

theorem PrAt.box {w : World} {th : Bool} {room : Int} {a : Option Addr} {m c : Nat} {UV : Nat → Value} {t : Kt} (h : KeSl w w.heap.size (.slice a m c) m UV t) : PrAt (w.alloc (.cells #[.bool th, .int .i64 room, .slice a m c] 58)) w.heap.size th room a m c UV t := ⟨heap_alloc_new _ _, h.up (below_alloc _ _)⟩

/-- block g holds this book -/
def BkAt (w : World) (g : Nat) (a : Option Addr) (n c : Nat) (PV : Nat → Value) (b : Bk) : Prop :=
  w.heap[g]? = some (.cells #[.slice a n c] 24 (0, 0)) ∧ VeSl w w.heap.size (.slice a n c) n PV b

theorem BkAt.up {w w' : World} {g : Nat} {a : Option Addr} {n c : Nat} {PV : Nat → Value} {b : Bk} (h : BkAt w g a n c PV b) (hb : Below w.heap.size w w') : BkAt w' g a n c PV b := ⟨stayB h.1 hb, h.2.up hb⟩

theorem BkAt.cell {w : World} {g : Nat} {a : Option Addr} {n c : Nat} {PV : Nat → Value} {b : Bk} (h : BkAt w g a n c PV b) : w.cell? ⟨g, 0, none⟩ = some (.slice a n c) := cell_at h.1 rfl

/-- block g holds this kept one -/
def KpAt (w : World) (g : Nat) (ver N : Int) (a : Option Addr) (l c : Nat) (X : Nat → Int) : Prop :=
  w.heap[g]? = some (.cells #[.int .i64 ver, .int .i64 N, .slice a l c] 62 (0, 0)) ∧ IntSl w w.heap.size (.slice a l c) l X

theorem KpAt.up {w w' : World} {g : Nat} {ver N : Int} {a : Option Addr} {l c : Nat} {X : Nat → Int} (h : KpAt w g ver N a l c X) (hb : Below w.heap.size w w') : KpAt w' g ver N a l c X := ⟨stayB h.1 hb, h.2.up hb⟩

theorem KpAt.cells {w : World} {g : Nat} {ver N : Int} {a : Option Addr} {l c : Nat} {X : Nat → Int} (h : KpAt w g ver N a l c X) : w.cell? ⟨g, 0, none⟩ = some (.int .i64 ver) ∧ w.cell? ⟨g, 1, none⟩ = some (.int .i64 N) ∧ w.cell? ⟨g, 2, none⟩ = some (.slice a l c) := three_at h.1

/-- one of those that are kept -/
theorem KeSl.at {w : World} {B : Nat} {a : Option Addr} {m c : Nat} {UV : Nat → Value} {t : Kt} (h : KeSl w B (.slice a m c) m UV t) {i : Nat} (hi : i < m) :
    ∃ bl off, a = some ⟨bl, off, none⟩ ∧ m ≤ c ∧ w.cell? ⟨bl, off + i * 3, none⟩ = some (.int .i64 (t.V i)) ∧ w.cell? ⟨bl, off + i * 3 + 1, none⟩ = some (.int .i64 (t.N i)) ∧ w.cell? ⟨bl, off + i * 3 + 2, none⟩ = some (UV i) ∧ IntSl w B (UV i) (t.L i) (t.X i) := by
  obtain ⟨ad, cap, he, ⟨h0, _⟩, h2⟩ := h
  injection he with e1 _ e3
  subst e1 e3
  rcases h2 with h2 | ⟨bl, off, rfl, _, h5⟩
  · omega
  · obtain ⟨g1, g2, g3, g4⟩ := h5 i hi
    exact ⟨bl, off, rfl, h0, g1, g2, g3, g4⟩

end Go.Proofs.Ytdhefajaekackaa

/- What package place owes, and the closed fact that chapter 8's laws ask first. -/
namespace Go.Proofs.Ytdhefajaekackaa

open Go.RowKit
set_option linter.unusedVariables false

/-- what packages place and peer owe -/
structure PlaceOwes : Prop where
  check : ∀ (vb : Value) (n : Nat) (PV : Nat → Value) (b : Bk) (vl : Value) (np : Nat) (KV : Nat → Value) (UV : Nat → Nat → Value) (P : Ps) (w : World), VeSl w w.heap.size vb n PV b → PsSl w w.heap.size vl np KV UV P →
    Calls Try.prog 49 #[bookV vb, vl] w fun e w' => e = .returned (.int .i64 (peersE n b np P)) ∧ Below w.heap.size w w'
  who : ∀ (vb : Value) (n : Nat) (PV : Nat → Value) (b : Bk) (vl : Value) (np : Nat) (KV : Nat → Value) (UV : Nat → Nat → Value) (P : Ps) (ver many : Int) (w : World), VeSl w w.heap.size vb n PV b → PsSl w w.heap.size vl np KV UV P →
    Calls Try.prog 46 #[bookV vb, vl, .int .i64 ver, .int .i64 many] w (LiPost w (if peersE n b np P = 0 then forL P ver np many else []) (forE n b P ver np many))
  find : ∀ (th : Bool) (room : Int) (v : Value) (m : Nat) (UV : Nat → Value) (t : Kt) (ver : Int) (w : World), KeSl w w.heap.size v m UV t →
    Calls Try.prog 40 #[peerV th room v, .int .i64 ver] w fun e w' => e = .returned (.int .i64 (fstAt t.V ver m 0)) ∧ Below w.heap.size w w'

def chX : Nat → Int := fun i => [(7 : Int)].getD i 0
/-- the peers of the closed fact -/
def chP : Ps := ⟨fun k => [true, true, false, true, true].getD k false, fun k => [(1 : Int), 3, 9, 3, 0].getD k 0, fun k => [0, 0, 0, 1, 0].getD k 0, fun _ => ⟨fun _ => 1, fun _ => 0, fun _ => 1, fun _ => chX⟩⟩
def chK (g : Nat) : Nat → Value := fun k => if k = 3 then .slice (some ⟨g, 0, none⟩) 1 1 else .slice none 0 0

set_option maxRecDepth 100000 in
theorem chE : peersE 5 famB 5 chP = 0 := by decide
set_option maxRecDepth 100000 in
theorem ch1 : forL chP 2 5 3 = [1, 3, 0] ∧ manyE chP 2 5 3 = 0 := by decide
set_option maxRecDepth 100000 in
theorem ch2 : forL chP 1 5 2 = [1, 0] ∧ manyE chP 1 5 2 = 0 := by decide
set_option maxRecDepth 100000 in
theorem ch3 : forL chP 1 5 3 = [] ∧ manyE chP 1 5 3 = 7 := by decide

theorem kel_nil (w : World) (B : Nat) (UV : Nat → Value) (t : Kt) : KeSl w B (.slice none 0 0) 0 UV t := ⟨none, 0, rfl, ⟨Nat.le_refl _, by omega⟩, Or.inl rfl⟩

theorem isl_lit3 {w : World} {g : Nat} {x y z : Int} {T : TypeId} (h : w.heap[g]? = some (.cells #[.int .i64 x, .int .i64 y, .int .i64 z] T (0, 0))) : IntSl w w.heap.size (.slice (some ⟨g, 0, none⟩) 3 3) 3 (fun i => [x, y, z].getD i 0) :=
  ⟨_, _, rfl, ⟨Nat.le_refl _, by omega⟩, Or.inr ⟨g, 0, rfl, (Array.getElem?_eq_some_iff.1 h).1, fun j hj => by
    match j, hj with
    | 0, _ => exact cell_at h rfl
    | 1, _ => exact cell_at h rfl
    | 2, _ => exact cell_at h rfl⟩⟩

theorem chPs {w : World} {g1 g2 : Nat} {uv : Value} (h1 : w.heap[g1]? = some (.cells #[.int .i64 1, .int .i64 0, uv] 62 (0, 0)))
    (h2 : w.heap[g2]? = some (.cells #[.bool true, .int .i64 1, .slice none 0 0, .bool true, .int .i64 3, .slice none 0 0, .bool false, .int .i64 9, .slice none 0 0, .bool true, .int .i64 3, .slice (some ⟨g1, 0, none⟩) 1 1, .bool true, .int .i64 0, .slice none 0 0] 58 (0, 0)))
    (hu : IntSl w w.heap.size uv 1 chX) : PsSl w w.heap.size (.slice (some ⟨g2, 0, none⟩) 5 5) 5 (chK g1) (fun _ _ => uv) chP := by
  refine ⟨_, _, rfl, ⟨Nat.le_refl _, by omega⟩, Or.inr ⟨g2, 0, rfl, (Array.getElem?_eq_some_iff.1 h2).1, fun j hj => ?_⟩⟩
  match j, hj with
  | 0, _ => exact ⟨cell_at h2 rfl, cell_at h2 rfl, cell_at h2 rfl, kel_nil _ _ _ _⟩
  | 1, _ => exact ⟨cell_at h2 rfl, cell_at h2 rfl, cell_at h2 rfl, kel_nil _ _ _ _⟩
  | 2, _ => exact ⟨cell_at h2 rfl, cell_at h2 rfl, cell_at h2 rfl, kel_nil _ _ _ _⟩
  | 3, _ => exact ⟨cell_at h2 rfl, cell_at h2 rfl, cell_at h2 rfl, _, _, rfl, ⟨Nat.le_refl _, by show 1 * 40 ≤ 140737488351232; omega⟩, Or.inr ⟨g1, 0, rfl, (Array.getElem?_eq_some_iff.1 h1).1, fun i hi => by
      match i, hi with
      | 0, _ => exact ⟨cell_at h1 rfl, cell_at h1 rfl, cell_at h1 rfl, hu⟩⟩⟩
  | 4, _ => exact ⟨cell_at h2 rfl, cell_at h2 rfl, cell_at h2 rfl, kel_nil _ _ _ _⟩

set_option maxHeartbeats 8000000 in
set_option maxRecDepth 10000 in
theorem chosen_any (hO : PlaceOwes) (w : World) : Calls Try.prog 48 #[] w fun e w' => e = .returned (.bool true) ∧ Below w.heap.size w w' := by
  have HO := hid hO
  clear hO
  go_enter Try.func48, Try.ntmps48
  go_wp2_with fail
  refine Calls.mono (keptOf_any 1 w) ?_
  rintro e w1 ⟨hb1, uv, rfl, hu⟩
  have B1 := hid hb1
  have U1 := hid hu
  obtain ⟨au, cu, rfl, _, _⟩ := hu
  clear hb1
  unfold keptV
  have hb := ((Below.refl w1.heap.size w1).alloc (Nat.le_refl _) (.cells #[.int .i64 1, .int .i64 0, .slice au 1 cu] 62)).alloc (by simp) (.cells #[.bool true, .int .i64 1, .slice none 0 0, .bool true, .int .i64 3, .slice none 0 0, .bool false, .int .i64 9, .slice none 0 0, .bool true, .int .i64 3, .slice (some ⟨w1.heap.size, 0, none⟩) 1 1, .bool true, .int .i64 0, .slice none 0 0] 58)
  have k1 := heap_two_old w1 (.cells #[.int .i64 1, .int .i64 0, .slice au 1 cu] 62) (.cells #[.bool true, .int .i64 1, .slice none 0 0, .bool true, .int .i64 3, .slice none 0 0, .bool false, .int .i64 9, .slice none 0 0, .bool true, .int .i64 3, .slice (some ⟨w1.heap.size, 0, none⟩) 1 1, .bool true, .int .i64 0, .slice none 0 0] 58)
  have k2 := heap_two_new w1 (.cells #[.int .i64 1, .int .i64 0, .slice au 1 cu] 62) (.cells #[.bool true, .int .i64 1, .slice none 0 0, .bool true, .int .i64 3, .slice none 0 0, .bool false, .int .i64 9, .slice none 0 0, .bool true, .int .i64 3, .slice (some ⟨w1.heap.size, 0, none⟩) 1 1, .bool true, .int .i64 0, .slice none 0 0] 58)
  go_wp2_with fail
  obtain ⟨W, hW⟩ : ∃ u, (w1.alloc (.cells #[.int .i64 1, .int .i64 0, .slice au 1 cu] 62)).alloc (.cells #[.bool true, .int .i64 1, .slice none 0 0, .bool true, .int .i64 3, .slice none 0 0, .bool false, .int .i64 9, .slice none 0 0, .bool true, .int .i64 3, .slice (some ⟨w1.heap.size, 0, none⟩) 1 1, .bool true, .int .i64 0, .slice none 0 0] 58) = u := ⟨_, rfl⟩
  rw [hW] at hb k1 k2 ⊢
  have HB := hid (B1.out.trans (hb.mono B1.out.size))
  have HP := hid (chPs k1 k2 (U1.out.up hb))
  clear hb k1 k2 hW B1 U1
  refine Calls.mono (family_any W) ?_
  rintro e x1 ⟨hb, bl1, PV1, rfl, hv⟩
  replace HB := hid (HB.out.trans (hb.mono HB.out.size))
  replace HP := hid (HP.out.up hb)
  have CK := hid (HO.out.who _ 5 PV1 famB _ 5 _ _ chP 2 3 x1 hv HP.out)
  unfold forE at CK
  rw [chE, if_pos rfl, if_pos rfl, ch1.1, ch1.2] at CK
  unfold bookV at CK
  clear hb hv
  unfold bookV
  go_wp2_with fail
  refine Calls.mono CK.out ?_
  rintro e y1 ⟨hb, vl, rfl, hl⟩
  replace HB := hid (HB.out.trans (hb.mono HB.out.size))
  replace HP := hid (HP.out.up hb)
  have L1 := hid hl
  obtain ⟨a1, c1, rfl, _, _⟩ := hl
  clear hb CK
  go_wp2_with fail
  refine Calls.mono (family_any y1) ?_
  rintro e x2 ⟨hb, bl2, PV2, rfl, hv⟩
  replace HB := hid (HB.out.trans (hb.mono HB.out.size))
  replace HP := hid (HP.out.up hb)
  replace L1 := hid (L1.out.up hb)
  have CK := hid (HO.out.who _ 5 PV2 famB _ 5 _ _ chP 1 2 x2 hv HP.out)
  unfold forE at CK
  rw [chE, if_pos rfl, if_pos rfl, ch2.1, ch2.2] at CK
  unfold bookV at CK
  clear hb hv
  unfold bookV
  go_wp2_with fail
  refine Calls.mono CK.out ?_
  rintro e y2 ⟨hb, vl, rfl, hl⟩
  replace HB := hid (HB.out.trans (hb.mono HB.out.size))
  replace HP := hid (HP.out.up hb)
  replace L1 := hid (L1.out.up hb)
  have L2 := hid hl
  obtain ⟨a2, c2, rfl, _, _⟩ := hl
  clear hb CK
  go_wp2_with fail
  refine Calls.mono (family_any y2) ?_
  rintro e x3 ⟨hb, bl3, PV3, rfl, hv⟩
  replace HB := hid (HB.out.trans (hb.mono HB.out.size))
  replace HP := hid (HP.out.up hb)
  replace L1 := hid (L1.out.up hb)
  replace L2 := hid (L2.out.up hb)
  have CK := hid (HO.out.who _ 5 PV3 famB _ 5 _ _ chP 1 3 x3 hv HP.out)
  unfold forE at CK
  rw [chE, if_pos rfl, if_pos rfl, ch3.1, ch3.2] at CK
  unfold bookV at CK
  clear hb hv
  unfold bookV
  go_wp2_with fail
  refine Calls.mono CK.out ?_
  rintro e y3 ⟨hb, vl, rfl, hl⟩
  replace HB := hid (HB.out.trans (hb.mono HB.out.size))
  replace HP := hid (HP.out.up hb)
  replace L1 := hid (L1.out.up hb)
  replace L2 := hid (L2.out.up hb)
  have L3 := hid hl
  obtain ⟨a3, c3, rfl, _, _⟩ := hl
  clear hb CK
  have hb := below_alloc y3 (.cells #[.int .i64 1, .int .i64 3, .int .i64 0] 3)
  have HI := hid (isl_lit3 (heap_alloc_new y3 (.cells #[.int .i64 1, .int .i64 3, .int .i64 0] 3)))
  have CE := hid (equal_isl (L1.out.up hb) HI.out)
  rw [show eqB [(1 : Int), 3, 0].length 3 (fun j => [(1 : Int), 3, 0].getD j 0) (fun i => [(1 : Int), 3, 0].getD i 0) = true from decide_eq_true ⟨rfl, fun _ _ => rfl⟩] at CE
  obtain ⟨z1, hz1⟩ : ∃ u, World.alloc y3 (.cells #[.int .i64 1, .int .i64 3, .int .i64 0] 3) = u := ⟨_, rfl⟩
  rw [hz1] at hb CE
  replace HB := hid (HB.out.trans (hb.mono HB.out.size))
  replace HP := hid (HP.out.up hb)
  replace L1 := hid (L1.out.up hb)
  replace L2 := hid (L2.out.up hb)
  replace L3 := hid (L3.out.up hb)
  clear hb HI
  go_wp2_with fail
  refine Calls.mono CE.out ?_
  rintro e v1 ⟨rfl, q, hq⟩
  have hb : Below z1.heap.size z1 v1 := by rw [hq]; exact drewK_below _ _
  replace HB := hid (HB.out.trans (hb.mono HB.out.size))
  replace HP := hid (HP.out.up hb)
  replace L1 := hid (L1.out.up hb)
  replace L2 := hid (L2.out.up hb)
  replace L3 := hid (L3.out.up hb)
  clear hb hq CE hz1
  have hb := below_alloc v1 (.cells #[.int .i64 1, .int .i64 0] 3)
  have HI := hid (isl_lit2 (heap_alloc_new v1 (.cells #[.int .i64 1, .int .i64 0] 3)))
  have CE := hid (equal_isl (L2.out.up hb) HI.out)
  rw [show eqB [(1 : Int), 0].length 2 (fun j => [(1 : Int), 0].getD j 0) (fun i => [(1 : Int), 0].getD i 0) = true from decide_eq_true ⟨rfl, fun _ _ => rfl⟩] at CE
  obtain ⟨z2, hz2⟩ : ∃ u, World.alloc v1 (.cells #[.int .i64 1, .int .i64 0] 3) = u := ⟨_, rfl⟩
  rw [hz2] at hb CE
  replace HB := hid (HB.out.trans (hb.mono HB.out.size))
  replace HP := hid (HP.out.up hb)
  replace L1 := hid (L1.out.up hb)
  replace L2 := hid (L2.out.up hb)
  replace L3 := hid (L3.out.up hb)
  clear hb HI
  go_wp2_with fail
  refine Calls.mono CE.out ?_
  rintro e v2 ⟨rfl, q, hq⟩
  have hb : Below z2.heap.size z2 v2 := by rw [hq]; exact drewK_below _ _
  replace HB := hid (HB.out.trans (hb.mono HB.out.size))
  replace HP := hid (HP.out.up hb)
  replace L1 := hid (L1.out.up hb)
  replace L2 := hid (L2.out.up hb)
  replace L3 := hid (L3.out.up hb)
  clear hb hq CE hz2
  go_wp2_with fail
  refine Calls.mono (family_any v2) ?_
  rintro e x4 ⟨hb, bl4, PV4, rfl, hv⟩
  replace HB := hid (HB.out.trans (hb.mono HB.out.size))
  replace HP := hid (HP.out.up hb)
  replace L1 := hid (L1.out.up hb)
  replace L2 := hid (L2.out.up hb)
  replace L3 := hid (L3.out.up hb)
  have CK := hid (HO.out.check _ 5 PV4 famB _ 5 _ _ chP x4 hv HP.out)
  rw [chE] at CK
  unfold bookV at CK
  clear hb hv
  unfold bookV
  go_wp2_with fail
  refine Calls.mono CK.out ?_
  rintro e y4 ⟨rfl, hb⟩
  replace HB := hid (HB.out.trans (hb.mono HB.out.size))
  clear hb CK
  go_wp2
  go_ret
  exact ⟨rfl, HB.out⟩

end Go.Proofs.Ytdhefajaekackaa

/- How the laws' arguments are read: plans, lists of ints inside of others. -/
namespace Go.Proofs.Ytdhefajaekackaa

open Go.ChangeShapes Go.WideShapes Go.ChangeAt Go.RowKit Go.Deep
set_option linter.unusedVariables false

variable {H : Type} {enc : TypeId × Value → H} {W : World}

theorem Try.cellsInts : Try.prog.cellsOf 25 = 1 := by kernel_rfl
theorem Try.cellsPlan : Try.prog.cellsOf 27 = 3 := by kernel_rfl

/-- a list of ints, by its one cell -/
theorem isl_cell {fuel : Nat} {cs : List Value} {x : DataW H × List MemPlace} (h : DataW.trod enc Try.prog W 0 (fun _ => true) true fuel 25 cs = some x) (hs : ∀ y ∈ x.1.weights Try.prog 25, y ≤ reachBytes) :
    ∃ a len cap X, cs = [.slice a len cap] ∧ SlArg W a len cap X := by
  have key : ∃ a len cap, cs = [.slice a len cap] := by
    rcases open_ints Try.underlying25 Try.underlying3 Try.cellsInt h with ⟨hcs, _⟩ | ⟨x, l, c, zs, hcs, _⟩
    · exact ⟨_, _, _, hcs⟩
    · exact ⟨_, _, _, hcs⟩
  obtain ⟨a, len, cap, rfl⟩ := key
  obtain ⟨X, hX⟩ := slArg_open (enc := enc) (W := W) (a := a) (len := len) (cap := cap) (d := x.1) (p := x.2) Try.underlying25 ⟨fuel, by simpa [Value.cells] using h⟩ (fun elems spare hd => by
    refine hs _ ?_
    rw [hd]
    simp [DataW.weights, Try.underlying25])
  exact ⟨a, len, cap, X, rfl, hX⟩

theorem weightsAll_mem {P : Program} {e : TypeId} {l : List (DataW H)} {d : DataW H} (h : d ∈ l) {y : Nat} (hy : y ∈ d.weights P e) : y ∈ DataW.weightsAll P e l := by
  induction l with
  | nil => cases h
  | cons x l ih =>
    simp only [DataW.weightsAll, List.mem_append]
    rcases List.mem_cons.1 h with rfl | h
    · exact Or.inl hy
    · exact Or.inr (ih h)

end Go.Proofs.Ytdhefajaekackaa
