/- Several texts of one proof, in their order. -/
import Derived.Test.YtikchpffkhohlaaGreatSSum22
import Derived.Test.YtikchpffkhohlaaGreatSSum2
import Derived.Deep.Strs
import Derived.Deep.Slices
import Derived.Test.YtikchpffkhohlaaGreatSSum3
import Derived.Test.YtikchpffkhohlaaGreatSSum5
import Derived.Test.YtikchpffkhohlaaGreatSSum6
import Derived.Test.YtikchpffkhohlaaGreatSSum12

namespace Go.Proofs.YtikchpffkhohlaaGreat
open Go.RowKit CurveMath
set_option linter.unusedVariables false
theorem w_sz : wB.sz (0 : Int).toNat = 3 := by decide
set_option maxHeartbeats 8000000 in
set_option maxRecDepth 10000 in
theorem woven_any (hO : MeshOwes) (w : World) : Calls Tryz.prog 18 #[] w fun e w' => e = .returned (.bool true) ∧ Below w.heap.size w w' := by
 have HO := hid hO
 clear hO
 go_enter Tryz.func18, Tryz.ntmps18
 go_wp2_with fail
 refine Calls.mono (begun_any HO.out.toMeshCore w) ?_
 rintro e W1 ⟨hb1, ab, cb, PV, al, cl, KV, UV, rfl, hv1, hl1, hN1⟩
 have hbM := below_alloc W1 (.cells #[.slice ab 1 cb, .slice al 5 cl] 27)
 have hx := MsAt.box hv1 hl1
 obtain ⟨bl, off, hal, hbl, _, _, _, _⟩ := hl1.at (i := 0) (by omega)
 obtain ⟨bl', off', hal', _, _, _, _, ke⟩ := hl1.at (i := 1) (by omega)
 subst hal
 injection hal' with hal'
 injection hal' with e1 e2
 subst e1 e2
 obtain ⟨ak, ck, hke, _, hk1⟩ := ke
 rcases hk1 with hk1 | ⟨bk, ok, rfl, hbk, hk1⟩
 ·exact absurd hk1 (by show ¬ (1 : Nat) = 0; decide)
 obtain ⟨au, cu, hue, _, hu1⟩ := (hk1 0 (by show (0 : Nat) < 1; decide)).2.2.2
 rcases hu1 with hu1 | ⟨bu, ou, rfl, hbu, hu1⟩
 ·exact absurd hu1 (by show ¬ (2 : Nat) = 0; decide)
 obtain ⟨V1, hV1⟩ : ∃ v, World.alloc W1 (.cells #[.slice ab 1 cb, .slice (some ⟨bl, off, none⟩) 5 cl] 27) = v := ⟨_, rfl⟩
 rw [hV1] at hbM hx
 obtain ⟨g1, hg1⟩ : ∃ g, W1.heap.size = g := ⟨_, rfl⟩
 have A1 : Hid (WvAt w.heap.size V1 g1 ab cb PV bl off cl KV UV bk ok ck bu ou cu true 7) := ⟨by rw [← hg1]; exact hx, hN1.up hbM, hke, hue, by omega, by omega⟩
 have B1 := hid (hb1.trans (hbM.mono hb1.size))
 have hlo : w.heap.size ≤ bl := (hN1.1 _ _ _ rfl).1
 have hlo2 : w.heap.size ≤ bu := by
  have h9 := ((hN1.2 1 (by omega)).2 0 (by show (0 : Nat) < 1; decide)).resolve_left (by show ¬ (2 : Nat) = 0; decide)
  rw [hue] at h9
  exact (h9 _ _ _ rfl).1
 have HLo := hid hlo
 have HLo2 := hid hlo2
 obtain ⟨⟨c0, c1⟩, ⟨t0, f0⟩, u2, v2, ⟨x0, fx⟩⟩ := A1.out.cells
 have A2 := hid A1.out.goes
 have B2 := hid (B1.out.setCell (p := ⟨bl, off, none⟩) (by show w.heap.size ≤ bl; exact HLo.out) (.bool false))
 obtain ⟨V2, hV2⟩ : ∃ v, V1.setCell ⟨bl, off, none⟩ (.bool false) = v := ⟨_, rfl⟩
 rw [hV2] at A2 B2
 obtain ⟨⟨d0, d1⟩, _, d2, e2, ⟨y0, fy⟩⟩ := A2.out.cells
 have A3 := hid (A2.out.bends (Or.inl rfl) 8)
 have B3 := hid (B2.out.setCell (p := ⟨bu, ou, none⟩) (by show w.heap.size ≤ bu; exact HLo2.out) (.int .i64 8))
 obtain ⟨V3, hV3⟩ : ∃ v, V2.setCell ⟨bu, ou, none⟩ (.int .i64 8) = v := ⟨_, rfl⟩
 rw [hV3] at A3 B3
 obtain ⟨⟨i0, i1⟩, _⟩ := A3.out.cells
 have CK := hid (HO.out.restore _ 1 PV wB _ 5 KV UV (wP false 8) 0 V3 A3.out.box.2.1 A3.out.box.2.2)
 unfold meshV at CK
 clear hbM hx hb1 hv1 hl1 hN1 hk1 hu1 hbl hbk hbu hlo hlo2 hke hue
 go_wp2_with fail
 refine Calls.mono CK.out ?_
 rintro e u4 hM
 obtain ⟨hb, ra1, rm1, rc1, sa1, sc1, rfl, hrm1, _, hs1⟩ := rest_open hM
 rw [w_e8, w_b8]
 have A4 := hid (A3.out.up hb)
 have B4 := hid (B3.out.trans (hb.mono B3.out.size))
 clear hM hb CK hrm1 hs1 c0 c1 t0 f0 u2 v2 x0 fx d0 d1 d2 e2 y0 fy i0 i1 hV1 hV2 hV3 A1 A2 A3 B1 B2 B3
 obtain ⟨⟨c0, c1⟩, _, u2, v2, ⟨x0, fx⟩⟩ := A4.out.cells
 have A5 := hid (A4.out.bends (Or.inr rfl) 7)
 have B5 := hid (B4.out.setCell (p := ⟨bu, ou, none⟩) (by show w.heap.size ≤ bu; exact HLo2.out) (.int .i64 7))
 obtain ⟨V5, hV5⟩ : ∃ v, u4.setCell ⟨bu, ou, none⟩ (.int .i64 7) = v := ⟨_, rfl⟩
 rw [hV5] at A5 B5
 obtain ⟨⟨d0, d1⟩, _⟩ := A5.out.cells
 have CK := hid (HO.out.restore _ 1 PV wB _ 5 KV UV (wP false 7) 0 V5 A5.out.box.2.1 A5.out.box.2.2)
 unfold meshV at CK
 go_wp2_with fail
 refine Calls.mono CK.out ?_
 rintro e u6 hM
 obtain ⟨hb, ra2, rm2, rc2, sa2, sc2, rfl, hrm2, hr2, hs2⟩ := rest_open hM
 rw [w_e7, w_b7]
 rw [w_e7, if_pos rfl, w_sz] at hrm2
 obtain rfl : rm2 = 3 := by omega
 have A6 := hid (A5.out.up hb)
 have B6 := hid (B5.out.trans (hb.mono B5.out.size))
 have R6 := hid hr2
 clear hM hb CK hrm2 hr2 hs2 c0 c1 u2 v2 x0 fx d0 d1 hV5 A4 A5 B4 B5
 obtain ⟨⟨c0, c1⟩, _⟩ := A6.out.cells
 have CK := hid (HO.out.repair _ 1 PV wB _ 5 KV UV (wP false 7) 0 u6 A6.out.box.2.1 A6.out.box.2.2)
 rw [w_mend] at CK
 unfold meshV at CK
 go_wp2_with fail
 refine Calls.mono CK.out ?_
 rintro e u7 hM
 obtain ⟨hb, ab7, n7, cb7, PV7, al7, np7, cl7, KV7, UV7, rfl, hn7, hp7, hv7, hl7⟩ := mesh_open hM.old
 rw [if_pos rfl] at hn7 hp7
 subst hn7 hp7
 have hb2 := below_alloc u7 (.cells #[.slice ab7 1 cb7, .slice al7 5 cl7] 27)
 have hx := MsAt.box hv7 hl7
 obtain ⟨V7, hV7⟩ : ∃ v, World.alloc u7 (.cells #[.slice ab7 1 cb7, .slice al7 5 cl7] 27) = v := ⟨_, rfl⟩
 rw [hV7] at hb2 hx
 replace hb := hb.trans (hb2.mono hb.size)
 have A7 := hid (A6.out.up hb)
 have B7 := hid (B6.out.trans (hb.mono B6.out.size))
 have R7 := hid (R6.out.up hb)
 obtain ⟨g7, hg7⟩ : ∃ g, u7.heap.size = g := ⟨_, rfl⟩
 rw [hg7] at hx
 have X7 := hid hx
 clear hM hb hb2 hx hv7 hl7 CK c0 c1 A6 B6 R6
 obtain ⟨⟨c0, c1⟩, _⟩ := A7.out.cells
 have CK := hid (HO.out.restore _ 1 PV wB _ 5 KV UV (wP false 7) 1 V7 A7.out.box.2.1 A7.out.box.2.2)
 unfold meshV at CK
 go_wp2_with fail
 refine Calls.mono CK.out ?_
 rintro e u8 hM
 obtain ⟨hb, ra3, rm3, rc3, sa3, sc3, rfl, hrm3, _, hs3⟩ := rest_open hM
 rw [w_none]
 have B8 := hid (B7.out.trans (hb.mono B7.out.size))
 have R8 := hid (R7.out.up hb)
 have X8 := hid (X7.out.up hb)
 clear hM hb CK hrm3 hs3 c0 c1 A7 B7 R7 X7 hV7
 have hbD := below_alloc u8 (.cells #[.int .i64 5, .int .i64 7, .int .i64 9] 3)
 have kd := heap_alloc_new u8 (.cells #[.int .i64 5, .int .i64 7, .int .i64 9] 3)
 obtain ⟨V8, hV8⟩ : ∃ v, World.alloc u8 (.cells #[.int .i64 5, .int .i64 7, .int .i64 9] 3) = v := ⟨_, rfl⟩
 rw [hV8] at hbD kd
 have CK := hid (equal_isl (R8.out.up hbD) (isl_579 kd))
 rw [w_d7] at CK
 have B9 := hid (B8.out.trans (hbD.mono B8.out.size))
 have X9 := hid (X8.out.up hbD)
 clear hbD kd
 go_wp2_with fail
 refine Calls.mono CK.out ?_
 rintro e y1 ⟨rfl, j1, hy1⟩
 have hb : Below V8.heap.size V8 y1 := by rw [hy1]; exact drewN_up _ _
 have B10 := hid (B9.out.trans (hb.mono B9.out.size))
 have X10 := hid (X9.out.up hb)
 clear hb hy1 CK hV8 B8 B9 X8 X9 R8
 obtain ⟨c0, c1⟩ := X10.out.cells
 obtain ⟨b9, o9, hal9, _, _, _, q2, ke⟩ := X10.out.2.2.at (i := 4) (by omega)
 subst hal9
 obtain ⟨ak9, ck9, hke9, _, hk9⟩ := ke
 rw [hke9, w_m4.1] at q2
 rw [w_m4.1] at hk9
 rcases hk9 with hk9 | ⟨bk9, ok9, rfl, _, hk9⟩
 ·exact absurd hk9 (by decide)
 have q3 := (hk9 0 (by decide)).2.1
 rw [w_m4.2] at q3
 simp only [Nat.zero_mul, Nat.add_zero] at q3
 have q2' : y1.cell? ⟨b9, o9 + 12 + 2, none⟩ = some (.slice (some ⟨bk9, ok9, none⟩) 1 ck9) := q2
 have CK := hid (HO.out.check _ 1 PV7 wB _ 5 KV7 UV7 (mendP wB 5 (wP false 7) 0) y1 X10.out.2.1 X10.out.2.2)
 rw [w_mok] at CK
 unfold meshV at CK
 clear q2 hk9
 go_wp2_with fail
 refine Calls.mono CK.out ?_
 rintro e y2 ⟨rfl, hb⟩
 have B11 := hid (B10.out.trans (hb.mono B10.out.size))
 have X11 := hid (X10.out.up hb)
 clear hb CK c0 c1 q2' q3 B10 X10
 obtain ⟨c0, c1⟩ := X11.out.cells
 have CK := hid (HO.out.same y2 _ _ _ _ _ _ _ _ _ _ _ _ _ _ wB wB (mendP wB 5 (wP false 7) 0) (mendP wB 5 (wP false 7) 0) X11.out.2.1 X11.out.2.2 X11.out.2.1 X11.out.2.2)
 rw [meshB_self] at CK
 unfold meshV at CK
 go_wp2_with fail
 refine Calls.mono CK.out ?_
 rintro e y3 ⟨rfl, hb⟩
 have B12 := hid (B11.out.trans (hb.mono B11.out.size))
 clear hb CK c0 c1
 go_wp2
 go_ret
 exact ⟨rfl, B12.out⟩
end Go.Proofs.YtikchpffkhohlaaGreat

namespace Go.Proofs.YtikchpffkhohlaaGreat
open Go.ChangeShapes Go.WideShapes Go.ChangeAt Go.RowKit Go.Deep
set_option linter.unusedVariables false
variable {H : Type} {enc : TypeId × Value → H} {W : World}
theorem Tryz.cellsInts : Tryz.prog.cellsOf 28 = 1 := by kernel_rfl
theorem Tryz.cellsPlan : Tryz.prog.cellsOf 30 = 3 := by kernel_rfl
theorem agg_of {v : Value} {n : Nat} (hn : n ≠ 1) (h : v.cells.toList.length = n) : v = .agg v.cells := by
 cases v <;> first | rfl | (simp [Value.cells] at h; omega)
theorem plan_open {v : Value} {d : DataW H} {p : List MemPlace} (h : DataW.Trod enc Tryz.prog W 0 (fun _ => true) true 30 v d p) :
  ∃ nd of sz : Int, v = planV nd of sz ∧ (Lit.int .i64 nd).wf = true ∧ (Lit.int .i64 of).wf = true ∧ (Lit.int .i64 sz).wf = true := by
 obtain ⟨fuel, hf⟩ := h
 obtain ⟨y0, y1, y2, n, hx, hl, h0, h1, h2⟩ := trod_struct3 Tryz.underlying30 hf
 rw [Tryz.cellsPlan] at hl
 have hv := agg_of (by omega) hl
 rw [Tryz.cellsInt] at h0 h1 h2
 obtain ⟨a, e0, _, b0⟩ := DataW.trod_int Tryz.underlying3 h0
 obtain ⟨b, e1, _, b1⟩ := DataW.trod_int Tryz.underlying3 h1
 obtain ⟨c, e2, _, b2⟩ := DataW.trod_int Tryz.underlying3 h2
 refine ⟨a, b, c, ?_, b0, b1, b2⟩
 rw [hv]
 generalize v.cells = cs at *
 obtain ⟨l⟩ := cs
 match l, hl with
 | [u0, u1, u2], _ =>
  simp at e0 e1 e2
  subst e0 e1 e2
  rfl
theorem isl_cell {fuel : Nat} {cs : List Value} {x : DataW H × List MemPlace} (h : DataW.trod enc Tryz.prog W 0 (fun _ => true) true fuel 28 cs = some x) (hs : ∀ y ∈ x.1.weights Tryz.prog 28, y ≤ reachBytes) :
  ∃ a len cap X, cs = [.slice a len cap] ∧ SlArg W a len cap X := by
 have key : ∃ a len cap, cs = [.slice a len cap] := by
  rcases open_ints Tryz.underlying28 Tryz.underlying3 Tryz.cellsInt h with ⟨hcs, _⟩ | ⟨x, l, c, zs, hcs, _⟩
  ·exact ⟨_, _, _, hcs⟩
  ·exact ⟨_, _, _, hcs⟩
 obtain ⟨a, len, cap, rfl⟩ := key
 obtain ⟨X, hX⟩ := slArg_open (enc := enc) (W := W) (a := a) (len := len) (cap := cap) (d := x.1) (p := x.2) Tryz.underlying28 ⟨fuel, by simpa [Value.cells] using h⟩ (fun elems spare hd => by
  refine hs _ ?_
  rw [hd]
  simp [DataW.weights, Tryz.underlying28])
 exact ⟨a, len, cap, X, rfl, hX⟩
theorem weightsAll_mem {P : Program} {e : TypeId} {l : List (DataW H)} {d : DataW H} (h : d ∈ l) {y : Nat} (hy : y ∈ d.weights P e) : y ∈ DataW.weightsAll P e l := by
 induction l with
 | nil => cases h
 | cons x l ih =>
  simp only [DataW.weightsAll, List.mem_append]
  rcases List.mem_cons.1 h with rfl | h
  ·exact Or.inl hy
  ·exact Or.inr (ih h)
end Go.Proofs.YtikchpffkhohlaaGreat

namespace Go.Proofs.YtikchpffkhohlaaGreat
open Go.ChangeShapes Go.WideShapes Go.ChangeAt Go.RowKit Go.Deep
set_option linter.unusedVariables false
variable {H : Type} {enc : TypeId × Value → H} {W : World}
theorem Tryz.cellsVer : Tryz.prog.cellsOf 60 = 4 := by kernel_rfl
theorem Tryz.cellsVers : Tryz.prog.cellsOf 22 = 1 := by kernel_rfl
theorem Tryz.cellsBook : Tryz.prog.cellsOf 24 = 1 := by kernel_rfl
theorem Tryz.bytesVer : Tryz.prog.bytesOf 60 = 48 := by kernel_rfl
theorem plan_cells {fuel : Nat} {cs : List Value} {x : DataW H × List MemPlace} (h : DataW.trod enc Tryz.prog W 0 (fun _ => true) true fuel 30 cs = some x) :
  ∃ nd of sz : Int, cs = [.int .i64 nd, .int .i64 of, .int .i64 sz] := by
 obtain ⟨y0, y1, y2, n, hx, hl, h0, h1, h2⟩ := trod_struct3 Tryz.underlying30 h
 rw [Tryz.cellsPlan] at hl
 rw [Tryz.cellsInt] at h0 h1 h2
 obtain ⟨a, e0, _, b0⟩ := DataW.trod_int Tryz.underlying3 h0
 obtain ⟨b, e1, _, b1⟩ := DataW.trod_int Tryz.underlying3 h1
 obtain ⟨c, e2, _, b2⟩ := DataW.trod_int Tryz.underlying3 h2
 refine ⟨a, b, c, ?_⟩
 match cs, hl with
 | [u0, u1, u2], _ =>
  simp at e0 e1 e2
  subst e0 e1 e2
  rfl
theorem ver_cells {fuel : Nat} {cs : List Value} {x : DataW H × List MemPlace} (h : DataW.trod enc Tryz.prog W 0 (fun _ => true) true fuel 60 cs = some x) (hs : ∀ y ∈ x.1.weights Tryz.prog 60, y ≤ reachBytes) :
  ∃ (a : Option Addr) (len cap : Nat) (X : Nat → Int) (nd of sz : Int), cs = [.slice a len cap, .int .i64 nd, .int .i64 of, .int .i64 sz] ∧ SlArg W a len cap X := by
 obtain ⟨y0, y1, n, hx, hl, h0, h1⟩ := trod_struct2 Tryz.underlying60 h
 rw [Tryz.cellsVer] at hl
 rw [Tryz.cellsInts] at h0
 rw [Tryz.cellsPlan] at h1
 have hd : x.1 = .agg [y0.1, y1.1] := congrArg Prod.fst hx
 obtain ⟨a, len, cap, X, e0, hX⟩ := isl_cell h0 (fun y hy => hs y (by
  rw [hd]
  simp only [DataW.weights, Tryz.underlying60, List.map_cons, List.map_nil, DataW.weightsEach, List.mem_append]
  exact Or.inl hy))
 obtain ⟨nd, of, sz, e1⟩ := plan_cells h1
 refine ⟨a, len, cap, X, nd, of, sz, ?_, hX⟩
 match cs, hl with
 | [u0, u1, u2, u3], _ =>
  simp at e0 e1
  obtain ⟨rfl, rfl, rfl⟩ := e1
  subst e0
  rfl
theorem vers_cell {fuel : Nat} {cs : List Value} {x : DataW H × List MemPlace} (h : DataW.trod enc Tryz.prog W 0 (fun _ => true) true fuel 22 cs = some x) (hs : ∀ y ∈ x.1.weights Tryz.prog 22, y ≤ reachBytes) :
  ∃ v n PV b, cs = [v] ∧ VeSl W W.heap.size v n PV b := by
 rcases open_slice Tryz.underlying22 h with ⟨hcs, _⟩ | ⟨ad, len, cap, m, n, D, Pl, hcs, _, hl, hm, hmm, hx, hall⟩
 ·exact ⟨_, 0, fun _ => undef, ⟨fun _ => 0, fun _ _ => 0, fun _ => 0, fun _ => 0, fun _ => 0⟩, hcs, none, 0, rfl, ⟨Nat.le_refl _, by omega⟩, Or.inl rfl⟩
 ·simp only [if_true] at hmm
  subst hmm
  have hd : x.1 = .slice ((List.range len).map D) ((List.range (m - len)).map fun j => D (len + j)) := congrArg Prod.fst hx
  rw [Tryz.cellsVer] at hall
  have each : ∀ i, i < len → ∃ q : Value × Nat × (Nat → Int) × Int × Int × Int, W.cell? (Addr.add ad (i * 4)) = some q.1 ∧ W.cell? (Addr.add ad (i * 4 + 1)) = some (.int .i64 q.2.2.2.1) ∧ W.cell? (Addr.add ad (i * 4 + 2)) = some (.int .i64 q.2.2.2.2.1) ∧ W.cell? (Addr.add ad (i * 4 + 3)) = some (.int .i64 q.2.2.2.2.2) ∧ IntSl W W.heap.size q.1 q.2.1 q.2.2.1 := by
   intro i hi
   obtain ⟨cs', h1, h2⟩ := hall i (by omega)
   obtain ⟨_, _, hcell⟩ := World.cells?_some h1
   obtain ⟨a1, l1, c1, X1, nd, of, sz, e, hX⟩ := ver_cells h2 (fun y hy => hs y (by
    rw [hd]
    simp only [DataW.weights, Tryz.underlying22, List.mem_cons, List.mem_append]
    exact Or.inr (Or.inl (weightsAll_mem (d := D i) (List.mem_map.2 ⟨i, List.mem_range.2 hi, rfl⟩) hy))))
   subst e
   have e0 := hcell 0 (by omega)
   have e1 := hcell 1 (by omega)
   have e2 := hcell 2 (by omega)
   have e3 := hcell 3 (by omega)
   rw [add_add] at e0 e1 e2 e3
   exact ⟨⟨.slice a1 l1 c1, l1, X1, nd, of, sz⟩, e0, e1, e2, e3, hX.isl⟩
  obtain ⟨q, hq⟩ := choose_lt each
  have hr : (len + (m - len)) * 48 ≤ 140737488351232 := by
   have h1 := hs ((len + (m - len)) * Tryz.prog.bytesOf 60) (by
    rw [hd]
    simp [DataW.weights, Tryz.underlying22])
   rw [Tryz.bytesVer] at h1
   simpa [reachBytes] using h1
  refine ⟨_, len, fun i => (q i).1, ⟨fun i => (q i).2.1, fun i => (q i).2.2.1, fun i => (q i).2.2.2.1, fun i => (q i).2.2.2.2.1, fun i => (q i).2.2.2.2.2⟩, hcs, some ad, m, rfl, ⟨hl, by omega⟩, ?_⟩
  by_cases h0 : len = 0
  ·exact Or.inl h0
  ·obtain ⟨b, off, spot⟩ := ad
   have hspot : spot = none := by simpa [Addr.add] using World.cell?_spot (hq 0 (by omega)).1
   subst hspot
   refine Or.inr ⟨b, off, rfl, ?_, fun j hj => ?_⟩
   ·have h1 := cell_lt (hq 0 (by omega)).1
    simpa [Addr.add] using h1
   ·obtain ⟨c0, c1, c2, c3, hi⟩ := hq j hj
    rw [Go.WideShapes.add_plain] at c0 c1 c2 c3
    exact ⟨c0, by simpa [Nat.add_assoc] using c1, by simpa [Nat.add_assoc] using c2, by simpa [Nat.add_assoc] using c3, hi⟩
end Go.Proofs.YtikchpffkhohlaaGreat

namespace Go.Proofs.YtikchpffkhohlaaGreat
open Go.ChangeShapes Go.WideShapes Go.ChangeAt Go.RowKit Go.Deep
set_option linter.unusedVariables false
variable {H : Type} {enc : TypeId × Value → H} {W : World}
theorem Tryz.cellsBool : Tryz.prog.cellsOf 4 = 1 := by kernel_rfl
theorem Tryz.cellsShr : Tryz.prog.cellsOf 53 = 2 := by kernel_rfl
theorem Tryz.cellsKept : Tryz.prog.cellsOf 55 = 3 := by kernel_rfl
theorem Tryz.cellsKepts : Tryz.prog.cellsOf 45 = 1 := by kernel_rfl
theorem Tryz.cellsPeer : Tryz.prog.cellsOf 47 = 3 := by kernel_rfl
theorem Tryz.bytesKept : Tryz.prog.bytesOf 55 = 40 := by kernel_rfl
theorem shr_cells {fuel : Nat} {cs : List Value} {x : DataW H × List MemPlace} (h : DataW.trod enc Tryz.prog W 0 (fun _ => true) true fuel 53 cs = some x) (hs : ∀ y ∈ x.1.weights Tryz.prog 53, y ≤ reachBytes) :
  ∃ (N : Int) (a : Option Addr) (len cap : Nat) (X : Nat → Int), cs = [.int .i64 N, .slice a len cap] ∧ SlArg W a len cap X := by
 obtain ⟨y0, y1, n, hx, hl, h0, h1⟩ := trod_struct2 Tryz.underlying53 h
 rw [Tryz.cellsShr] at hl
 rw [Tryz.cellsInt] at h0
 rw [Tryz.cellsInts] at h1
 obtain ⟨N, e0, _, b0⟩ := DataW.trod_int Tryz.underlying3 h0
 have hd : x.1 = .agg [y0.1, y1.1] := congrArg Prod.fst hx
 obtain ⟨a, len, cap, X, e1, hX⟩ := isl_cell h1 (fun y hy => hs y (by
  rw [hd]
  simp only [DataW.weights, Tryz.underlying53, List.map_cons, List.map_nil, DataW.weightsEach, List.mem_append]
  exact Or.inr (Or.inl hy)))
 refine ⟨N, a, len, cap, X, ?_, hX⟩
 match cs, hl with
 | [u0, u1], _ =>
  simp at e0 e1
  subst e0 e1
  rfl
theorem kept_cells {fuel : Nat} {cs : List Value} {x : DataW H × List MemPlace} (h : DataW.trod enc Tryz.prog W 0 (fun _ => true) true fuel 55 cs = some x) (hs : ∀ y ∈ x.1.weights Tryz.prog 55, y ≤ reachBytes) :
  ∃ (ver N : Int) (a : Option Addr) (len cap : Nat) (X : Nat → Int), cs = [.int .i64 ver, .int .i64 N, .slice a len cap] ∧ SlArg W a len cap X := by
 obtain ⟨y0, y1, n, hx, hl, h0, h1⟩ := trod_struct2 Tryz.underlying55 h
 rw [Tryz.cellsKept] at hl
 rw [Tryz.cellsInt] at h0
 rw [Tryz.cellsShr] at h1
 obtain ⟨ver, e0, _, b0⟩ := DataW.trod_int Tryz.underlying3 h0
 have hd : x.1 = .agg [y0.1, y1.1] := congrArg Prod.fst hx
 obtain ⟨N, a, len, cap, X, e1, hX⟩ := shr_cells h1 (fun y hy => hs y (by
  rw [hd]
  simp only [DataW.weights, Tryz.underlying55, List.map_cons, List.map_nil, DataW.weightsEach, List.mem_append]
  exact Or.inr (Or.inl hy)))
 refine ⟨ver, N, a, len, cap, X, ?_, hX⟩
 match cs, hl with
 | [u0, u1, u2], _ =>
  simp at e0 e1
  obtain ⟨rfl, rfl⟩ := e1
  subst e0
  rfl
theorem kepts_cell {fuel : Nat} {cs : List Value} {x : DataW H × List MemPlace} (h : DataW.trod enc Tryz.prog W 0 (fun _ => true) true fuel 45 cs = some x) (hs : ∀ y ∈ x.1.weights Tryz.prog 45, y ≤ reachBytes) :
  ∃ v n UV t, cs = [v] ∧ KeSl W W.heap.size v n UV t := by
 rcases open_slice Tryz.underlying45 h with ⟨hcs, _⟩ | ⟨ad, len, cap, m, n, D, Pl, hcs, _, hl, hm, hmm, hx, hall⟩
 ·exact ⟨_, 0, fun _ => undef, ⟨fun _ => 0, fun _ => 0, fun _ => 0, fun _ _ => 0⟩, hcs, none, 0, rfl, ⟨Nat.le_refl _, by omega⟩, Or.inl rfl⟩
 ·simp only [if_true] at hmm
  subst hmm
  have hd : x.1 = .slice ((List.range len).map D) ((List.range (m - len)).map fun j => D (len + j)) := congrArg Prod.fst hx
  rw [Tryz.cellsKept] at hall
  have each : ∀ i, i < len → ∃ q : Int × Int × Value × Nat × (Nat → Int), W.cell? (Addr.add ad (i * 3)) = some (.int .i64 q.1) ∧ W.cell? (Addr.add ad (i * 3 + 1)) = some (.int .i64 q.2.1) ∧ W.cell? (Addr.add ad (i * 3 + 2)) = some q.2.2.1 ∧ IntSl W W.heap.size q.2.2.1 q.2.2.2.1 q.2.2.2.2 := by
   intro i hi
   obtain ⟨cs', h1, h2⟩ := hall i (by omega)
   obtain ⟨_, _, hcell⟩ := World.cells?_some h1
   obtain ⟨ver, N, a1, l1, c1, X1, e, hX⟩ := kept_cells h2 (fun y hy => hs y (by
    rw [hd]
    simp only [DataW.weights, Tryz.underlying45, List.mem_cons, List.mem_append]
    exact Or.inr (Or.inl (weightsAll_mem (d := D i) (List.mem_map.2 ⟨i, List.mem_range.2 hi, rfl⟩) hy))))
   subst e
   have e0 := hcell 0 (by omega)
   have e1 := hcell 1 (by omega)
   have e2 := hcell 2 (by omega)
   rw [add_add] at e0 e1 e2
   exact ⟨⟨ver, N, .slice a1 l1 c1, l1, X1⟩, e0, e1, e2, hX.isl⟩
  obtain ⟨q, hq⟩ := choose_lt each
  have hr : (len + (m - len)) * 40 ≤ 140737488351232 := by
   have h1 := hs ((len + (m - len)) * Tryz.prog.bytesOf 55) (by
    rw [hd]
    simp [DataW.weights, Tryz.underlying45])
   rw [Tryz.bytesKept] at h1
   simpa [reachBytes] using h1
  refine ⟨_, len, fun i => (q i).2.2.1, ⟨fun i => (q i).1, fun i => (q i).2.1, fun i => (q i).2.2.2.1, fun i => (q i).2.2.2.2⟩, hcs, some ad, m, rfl, ⟨hl, by omega⟩, ?_⟩
  by_cases h0 : len = 0
  ·exact Or.inl h0
  ·obtain ⟨b, off, spot⟩ := ad
   have hspot : spot = none := by simpa [Addr.add] using World.cell?_spot (hq 0 (by omega)).1
   subst hspot
   refine Or.inr ⟨b, off, rfl, ?_, fun j hj => ?_⟩
   ·have h1 := cell_lt (hq 0 (by omega)).1
    simpa [Addr.add] using h1
   ·obtain ⟨c0, c1, c2, hi⟩ := hq j hj
    rw [Go.WideShapes.add_plain] at c0 c1 c2
    exact ⟨c0, by simpa [Nat.add_assoc] using c1, by simpa [Nat.add_assoc] using c2, hi⟩
end Go.Proofs.YtikchpffkhohlaaGreat

namespace Go.Proofs.YtikchpffkhohlaaGreat
open Go.ChangeShapes Go.WideShapes Go.ChangeAt Go.RowKit Go.Deep
set_option linter.unusedVariables false
variable {H : Type} {enc : TypeId × Value → H} {W : World}
theorem Tryz.bytesPeer : Tryz.prog.bytesOf 47 = 40 := by kernel_rfl
theorem Tryz.cellsPeers : Tryz.prog.cellsOf 25 = 1 := by kernel_rfl
theorem peer_cells {fuel : Nat} {cs : List Value} {x : DataW H × List MemPlace} (h : DataW.trod enc Tryz.prog W 0 (fun _ => true) true fuel 47 cs = some x) (hs : ∀ y ∈ x.1.weights Tryz.prog 47, y ≤ reachBytes) :
  ∃ (th : Bool) (room : Int) (vk : Value) (m : Nat) (UV : Nat → Value) (t : Kt), cs = [.bool th, .int .i64 room, vk] ∧ KeSl W W.heap.size vk m UV t := by
 obtain ⟨y0, y1, y2, n, hx, hl, h0, h1, h2⟩ := trod_struct3 Tryz.underlying47 h
 rw [Tryz.cellsPeer] at hl
 rw [Tryz.cellsBool] at h0
 rw [Tryz.cellsInt] at h1
 rw [Tryz.cellsKepts] at h2
 obtain ⟨th, e0, _⟩ := DataW.trod_bool Tryz.underlying4 h0
 obtain ⟨room, e1, _, b1⟩ := DataW.trod_int Tryz.underlying3 h1
 have hd : x.1 = .agg [y0.1, y1.1, y2.1] := congrArg Prod.fst hx
 obtain ⟨vk, m, UV, t, e2, hk⟩ := kepts_cell h2 (fun y hy => hs y (by
  rw [hd]
  simp only [DataW.weights, Tryz.underlying47, List.map_cons, List.map_nil, DataW.weightsEach, List.mem_append]
  exact Or.inr (Or.inr (Or.inl hy))))
 refine ⟨th, room, vk, m, UV, t, ?_, hk⟩
 match cs, hl with
 | [u0, u1, u2], _ =>
  simp at e0 e1 e2
  subst e0 e1 e2
  rfl
theorem peers_cell {fuel : Nat} {cs : List Value} {x : DataW H × List MemPlace} (h : DataW.trod enc Tryz.prog W 0 (fun _ => true) true fuel 25 cs = some x) (hs : ∀ y ∈ x.1.weights Tryz.prog 25, y ≤ reachBytes) :
  ∃ v n KV UV P, cs = [v] ∧ PsSl W W.heap.size v n KV UV P := by
 rcases open_slice Tryz.underlying25 h with ⟨hcs, _⟩ | ⟨ad, len, cap, m, n, D, Pl, hcs, _, hl, hm, hmm, hx, hall⟩
 ·exact ⟨_, 0, fun _ => undef, fun _ _ => undef, ⟨fun _ => false, fun _ => 0, fun _ => 0, fun _ => ⟨fun _ => 0, fun _ => 0, fun _ => 0, fun _ _ => 0⟩⟩, hcs, none, 0, rfl, ⟨Nat.le_refl _, by omega⟩, Or.inl rfl⟩
 ·simp only [if_true] at hmm
  subst hmm
  have hd : x.1 = .slice ((List.range len).map D) ((List.range (m - len)).map fun j => D (len + j)) := congrArg Prod.fst hx
  rw [Tryz.cellsPeer] at hall
  have each : ∀ i, i < len → ∃ q : Bool × Int × Value × Nat × (Nat → Value) × Kt, W.cell? (Addr.add ad (i * 3)) = some (.bool q.1) ∧ W.cell? (Addr.add ad (i * 3 + 1)) = some (.int .i64 q.2.1) ∧ W.cell? (Addr.add ad (i * 3 + 2)) = some q.2.2.1 ∧ KeSl W W.heap.size q.2.2.1 q.2.2.2.1 q.2.2.2.2.1 q.2.2.2.2.2 := by
   intro i hi
   obtain ⟨cs', h1, h2⟩ := hall i (by omega)
   obtain ⟨_, _, hcell⟩ := World.cells?_some h1
   obtain ⟨th, room, vk, mk, UV, t, e, hX⟩ := peer_cells h2 (fun y hy => hs y (by
    rw [hd]
    simp only [DataW.weights, Tryz.underlying25, List.mem_cons, List.mem_append]
    exact Or.inr (Or.inl (weightsAll_mem (d := D i) (List.mem_map.2 ⟨i, List.mem_range.2 hi, rfl⟩) hy))))
   subst e
   have e0 := hcell 0 (by omega)
   have e1 := hcell 1 (by omega)
   have e2 := hcell 2 (by omega)
   rw [add_add] at e0 e1 e2
   exact ⟨⟨th, room, vk, mk, UV, t⟩, e0, e1, e2, hX⟩
  haveI : Inhabited Kt := ⟨⟨fun _ => 0, fun _ => 0, fun _ => 0, fun _ _ => 0⟩⟩
  obtain ⟨q, hq⟩ := choose_lt each
  have hr : (len + (m - len)) * 40 ≤ 140737488351232 := by
   have h1 := hs ((len + (m - len)) * Tryz.prog.bytesOf 47) (by
    rw [hd]
    simp [DataW.weights, Tryz.underlying25])
   rw [Tryz.bytesPeer] at h1
   simpa [reachBytes] using h1
  refine ⟨_, len, fun i => (q i).2.2.1, fun i => (q i).2.2.2.2.1, ⟨fun i => (q i).1, fun i => (q i).2.1, fun i => (q i).2.2.2.1, fun i => (q i).2.2.2.2.2⟩, hcs, some ad, m, rfl, ⟨hl, by omega⟩, ?_⟩
  by_cases h0 : len = 0
  ·exact Or.inl h0
  ·obtain ⟨b, off, spot⟩ := ad
   have hspot : spot = none := by simpa [Addr.add] using World.cell?_spot (hq 0 (by omega)).1
   subst hspot
   refine Or.inr ⟨b, off, rfl, ?_, fun j hj => ?_⟩
   ·have h1 := cell_lt (hq 0 (by omega)).1
    simpa [Addr.add] using h1
   ·obtain ⟨c0, c1, c2, hi⟩ := hq j hj
    rw [Go.WideShapes.add_plain] at c0 c1 c2
    exact ⟨c0, by simpa [Nat.add_assoc] using c1, by simpa [Nat.add_assoc] using c2, hi⟩
end Go.Proofs.YtikchpffkhohlaaGreat

namespace Go.Proofs.YtikchpffkhohlaaGreat
open Go.ChangeShapes Go.WideShapes Go.ChangeAt Go.RowKit Go.Deep
set_option linter.unusedVariables false
variable {H : Type} {enc : TypeId × Value → H} {W : World}
theorem Tryz.cellsMesh : Tryz.prog.cellsOf 27 = 2 := by kernel_rfl
theorem book_cell {fuel : Nat} {cs : List Value} {x : DataW H × List MemPlace} (h : DataW.trod enc Tryz.prog W 0 (fun _ => true) true fuel 24 cs = some x) (hs : ∀ y ∈ x.1.weights Tryz.prog 24, y ≤ reachBytes) :
  ∃ vs n PV b, cs = [vs] ∧ VeSl W W.heap.size vs n PV b := by
 obtain ⟨y0, n, hx, hl, h0⟩ := trod_struct1 Tryz.underlying24 h
 rw [Tryz.cellsBook] at hl
 rw [Tryz.cellsVers] at h0
 have hd : x.1 = .agg [y0.1] := congrArg Prod.fst hx
 obtain ⟨vs, m, PV, b, e, hv⟩ := vers_cell h0 (fun y hy => hs y (by
  rw [hd]
  simp only [DataW.weights, Tryz.underlying24, List.map_cons, List.map_nil, DataW.weightsEach, List.mem_append]
  exact Or.inl hy))
 refine ⟨vs, m, PV, b, ?_, hv⟩
 match cs, hl with
 | [u0], _ =>
  simp at e
  subst e
  rfl
theorem mesh_arg {v : Value} {d : DataW H} {p : List MemPlace} (h : DataW.Trod enc Tryz.prog W 0 (fun _ => true) true 27 v d p) (hs : ∀ y ∈ d.weights Tryz.prog 27, y ≤ reachBytes) :
  ∃ vb n PV b vl np KV UV P, v = meshV vb vl ∧ VeSl W W.heap.size vb n PV b ∧ PsSl W W.heap.size vl np KV UV P := by
 obtain ⟨fuel, hf⟩ := h
 obtain ⟨y0, y1, n, hx, hl, h0, h1⟩ := trod_struct2 Tryz.underlying27 hf
 rw [Tryz.cellsMesh] at hl
 have hv := agg_of (by omega) hl
 rw [Tryz.cellsBook] at h0
 rw [Tryz.cellsPeers] at h1
 have hd : d = .agg [y0.1, y1.1] := congrArg Prod.fst hx
 obtain ⟨vb, nb, PV, b, e0, hb⟩ := book_cell h0 (fun y hy => hs y (by
  rw [hd]
  simp only [DataW.weights, Tryz.underlying27, List.map_cons, List.map_nil, DataW.weightsEach, List.mem_append]
  exact Or.inl hy))
 obtain ⟨vl, np, KV, UV, P, e1, hp⟩ := peers_cell h1 (fun y hy => hs y (by
  rw [hd]
  simp only [DataW.weights, Tryz.underlying27, List.map_cons, List.map_nil, DataW.weightsEach, List.mem_append]
  exact Or.inr (Or.inl hy)))
 refine ⟨vb, nb, PV, b, vl, np, KV, UV, P, ?_, hb, hp⟩
 rw [hv]
 generalize v.cells = cs at *
 obtain ⟨l⟩ := cs
 match l, hl with
 | [u0, u1], _ =>
  simp at e0 e1
  subst e0 e1
  rfl
theorem bulk_one (d : DataW H) : 1 ≤ Rows.uptoBulk d := by
 rcases d with l | _ | _ | _ | _ | _ | _ | _
 ·rcases l <;> simp [Rows.uptoBulk]
 all_goals simp [Rows.uptoBulk]
theorem bulk_len (l : List (DataW H)) : l.length ≤ Rows.uptoBulkAll l := by
 induction l with
 | nil => exact Nat.zero_le _
 | cons x r ih =>
  have h := bulk_one x
  rw [List.length_cons, Rows.uptoBulkAll]
  omega
theorem bulk_part {d : DataW H} {l : List (DataW H)} (h : d ∈ l) : Rows.uptoBulk d ≤ Rows.uptoBulkAll l := by
 induction l with
 | nil => exact absurd h List.not_mem_nil
 | cons x r ih =>
  rw [Rows.uptoBulkAll]
  rcases List.mem_cons.1 h with rfl | h2
  ·exact Nat.le_add_right _ _
  ·exact Nat.le_trans (ih h2) (Nat.le_add_left _ _)
theorem ints_len {T : TypeId} {a : Option Addr} {len cap : Nat} {d : DataW H} {p : List MemPlace} (ht : Tryz.prog.underlying T = some (.slice 3))
  (h : DataW.Trod enc Tryz.prog W 0 (fun _ => true) true T (.slice a len cap) d p) : len ≤ Rows.uptoBulk d := by
 obtain ⟨fuel, hf⟩ := h
 rcases open_ints ht Tryz.underlying3 Tryz.cellsInt hf with ⟨hcs, _⟩ | ⟨x, l, c, zs, hcs, _, hl, hm, hz, hx, hcell, hwz⟩
 ·simp [Value.cells] at hcs
  obtain ⟨rfl, rfl, rfl⟩ := hcs
  exact Nat.zero_le _
 ·simp [Value.cells] at hcs
  obtain ⟨rfl, rfl, rfl⟩ := hcs
  simp only [if_true] at hz
  have hd : d = .slice (lits .i64 (zs.take len)) (lits .i64 (zs.drop len)) := congrArg Prod.fst hx
  rw [hd]
  have h1 := bulk_len (H := H) (lits .i64 (zs.take len))
  have h2 : (lits (H := H) .i64 (zs.take len)).length = len := by simp only [lits, List.length_map, List.length_take]; omega
  simp only [Rows.uptoBulk]
  omega
end Go.Proofs.YtikchpffkhohlaaGreat

namespace Go.Proofs.YtikchpffkhohlaaGreat
open Go.RowKit
set_option linter.unusedVariables false
def CRow (w : World) (g : Nat) (T : TypeId) (sz k : Nat) (C : Nat → Value) : Prop :=
 ∃ cs : Array Value, w.heap[g]? = some (.cells cs T (0, 0)) ∧ cs.size = sz ∧ ∀ i, i < k → cs[i]? = some (C i)
section
variable {w w' : World} {g : Nat} {T : TypeId} {sz k : Nat} {C : Nat → Value}
theorem CRow.lt (h : CRow w g T sz k C) : g < w.heap.size := by
 obtain ⟨cs, h1, _⟩ := h
 exact (Array.getElem?_eq_some_iff.1 h1).1
theorem CRow.up (h : CRow w g T sz k C) (hb : Below w.heap.size w w') : CRow w' g T sz k C := by
 obtain ⟨cs, h1, h2⟩ := h
 exact ⟨cs, stayB h1 hb, h2⟩
theorem CRow.room (h : CRow w g T sz k C) {i : Nat} (hi : i < sz) : (∃ u, w.cell? ⟨g, i, none⟩ = some u) ∧ w.frozen? ⟨g, i, none⟩ = false := by
 obtain ⟨cs, h1, h2, h3⟩ := h
 exact ⟨⟨cs[i]'(by omega), cell_at h1 (by simp [show i < cs.size by omega])⟩, frozen_at h1⟩
theorem CRow.free (h : CRow w g T sz k C) (i : Nat) : w.frozen? ⟨g, i, none⟩ = false := by
 obtain ⟨cs, h1, h2, h3⟩ := h
 exact frozen_at h1
theorem CRow.cell (h : CRow w g T sz k C) {i : Nat} (hi : i < k) : w.cell? ⟨g, i, none⟩ = some (C i) := by
 obtain ⟨cs, h1, h2, h3⟩ := h
 exact cell_at h1 (h3 i hi)
theorem CRow.put (h : CRow w g T sz k C) (hk : k < sz) {u : Value} (hu : u = C k) : CRow (w.setCell ⟨g, k, none⟩ u) g T sz (k + 1) C := by
 obtain ⟨cs, h1, h2, h3⟩ := h
 refine ⟨cs.setIfInBounds k u, by simp [World.setCell, Array.getElem?_modify, h1], by simpa using h2, fun i hi => ?_⟩
 rw [Array.getElem?_setIfInBounds]
 by_cases e : k = i
 ·subst e
  rw [if_pos rfl, if_pos (by omega), hu]
 ·rw [if_neg e]
  exact h3 i (by omega)
theorem CRow.other (h : CRow w g T sz k C) {g' o : Nat} (hg : g ≠ g') (u : Value) : CRow (w.setCell ⟨g', o, none⟩ u) g T sz k C := by
 obtain ⟨cs, h1, h2⟩ := h
 exact ⟨cs, by rw [Below.heap_setCell _ _ _ _ (by show g ≠ g'; exact hg)]; exact h1, h2⟩
theorem CRow.congr (h : CRow w g T sz k C) {C' : Nat → Value} (e : ∀ i, i < k → C i = C' i) : CRow w g T sz k C' := by
 obtain ⟨cs, h1, h2, h3⟩ := h
 exact ⟨cs, h1, h2, fun i hi => by rw [h3 i hi, e i hi]⟩
theorem CRow.made {B n size : Nat} {z : Value} (ho : w.ownsRow B T size (.slice (some ⟨g, 0, none⟩) n n) n (madeCells z.cells (n * size)).toList) (C : Nat → Value) : CRow w g T (n * size) 0 C := by
 obtain ⟨hl, h2⟩ := ho
 rcases h2 with ⟨h1, _⟩ | ⟨g', cap, cur, hv, _, hh, hc1, hc2, hsz, hcur⟩
 ·cases h1
 ·injection hv with e1 _ e3
  injection e1 with e1
  injection e1 with e1
  subst e1 e3
  exact ⟨cur, hh, hsz, fun i hi => by omega⟩
theorem CRow.three (h : CRow w g T sz (k * 3) C) (hk : k * 3 + 3 ≤ sz) {u0 u1 u2 : Value} (e0 : u0 = C (k * 3)) (e1 : u1 = C (k * 3 + 1)) (e2 : u2 = C (k * 3 + 2)) : CRow (((w.setCell ⟨g, k * 3, none⟩ u0).setCell ⟨g, k * 3 + 1, none⟩ u1).setCell ⟨g, k * 3 + 2, none⟩ u2) g T sz ((k + 1) * 3) C := by
 have h1 := ((h.put (by omega) e0).put (by omega) e1).put (by omega) e2
 rw [show (k + 1) * 3 = k * 3 + 1 + 1 + 1 by omega]
 exact h1
end
def cellP (KV : Nat → Value) (P : Ps) (i : Nat) : Value := if i % 3 = 0 then .bool (P.th (i / 3)) else if i % 3 = 1 then .int .i64 (P.rm (i / 3)) else KV (i / 3)
def cellK (UV : Nat → Value) (t : Kt) (i : Nat) : Value := if i % 3 = 0 then .int .i64 (t.V (i / 3)) else if i % 3 = 1 then .int .i64 (t.N (i / 3)) else UV (i / 3)
section
variable {KV : Nat → Value} {P : Ps} {UV PV : Nat → Value} {t : Kt} {b : Bk} {k : Nat}
theorem cellP_at : cellP KV P (k * 3) = .bool (P.th k) ∧ cellP KV P (k * 3 + 1) = .int .i64 (P.rm k) ∧ cellP KV P (k * 3 + 2) = KV k := by
 unfold cellP
 refine ⟨?_, ?_, ?_⟩
 ·rw [if_pos (by omega), show k * 3 / 3 = k by omega]
 ·rw [if_neg (by omega), if_pos (by omega), show (k * 3 + 1) / 3 = k by omega]
 ·rw [if_neg (by omega), if_neg (by omega), show (k * 3 + 2) / 3 = k by omega]
theorem cellK_at : cellK UV t (k * 3) = .int .i64 (t.V k) ∧ cellK UV t (k * 3 + 1) = .int .i64 (t.N k) ∧ cellK UV t (k * 3 + 2) = UV k := by
 unfold cellK
 refine ⟨?_, ?_, ?_⟩
 ·rw [if_pos (by omega), show k * 3 / 3 = k by omega]
 ·rw [if_neg (by omega), if_pos (by omega), show (k * 3 + 1) / 3 = k by omega]
 ·rw [if_neg (by omega), if_neg (by omega), show (k * 3 + 2) / 3 = k by omega]
theorem cellP_cong {KV' : Nat → Value} (h : ∀ j, j < k → KV j = KV' j) : ∀ i, i < k * 3 → cellP KV P i = cellP KV' P i := fun i hi => by
 unfold cellP
 rw [h (i / 3) (by omega)]
theorem cellK_cong {UV' : Nat → Value} (h : ∀ j, j < k → UV j = UV' j) : ∀ i, i < k * 3 → cellK UV t i = cellK UV' t i := fun i hi => by
 unfold cellK
 rw [h (i / 3) (by omega)]
end
section
variable {w : World} {g n m : Nat} {KV : Nat → Value} {P : Ps} {UV PV : Nat → Value} {t : Kt} {b : Bk}
theorem CRow.rowP {sz : Nat} (h : CRow w g 47 sz (n * 3) (cellP KV P)) : RowP w g n KV P :=
 ⟨fun k hk => by
  obtain ⟨e0, e1, e2⟩ := cellP_at (KV := KV) (P := P) (k := k)
  exact ⟨by rw [h.cell (by omega), e0], by rw [h.cell (by omega), e1], by rw [h.cell (by omega), e2]⟩, fun i _ => h.free i, h.lt⟩
theorem CRow.kel {sz : Nat} (h : CRow w g 55 sz (m * 3) (cellK UV t)) (hr : m * 40 ≤ 140737488351232) (hi : ∀ j, j < m → IntSl w w.heap.size (UV j) (t.L j) (t.X j)) : KeSl w w.heap.size (.slice (some ⟨g, 0, none⟩) m m) m UV t := by
 refine ⟨_, _, rfl, ⟨Nat.le_refl _, hr⟩, Or.inr ⟨g, 0, rfl, h.lt, fun j hj => ?_⟩⟩
 obtain ⟨e0, e1, e2⟩ := cellK_at (UV := UV) (t := t) (k := j)
 rw [Nat.zero_add]
 exact ⟨by rw [h.cell (by omega), e0], by rw [h.cell (by omega), e1], by rw [h.cell (by omega), e2], hi j hj⟩
theorem CRow.newV {T : TypeId} {sz k n c : Nat} {C : Nat → Value} {B : Nat} (h : CRow w g T sz k C) (hB : B ≤ g) : NewV B w (.slice (some ⟨g, 0, none⟩) n c) := by
 obtain ⟨cs, h1, _⟩ := h
 exact newV_block h1 hB
end
end Go.Proofs.YtikchpffkhohlaaGreat

namespace Go.Proofs.YtikchpffkhohlaaGreat
set_option linter.unusedVariables false
variable {P : Program} {D : World → Prop}
theorem anyL_mono {md : Region.Mode} {ops : Array Oper} {sE : Array Bool} {R R' : Act → World → Prop} (hR : ∀ a w, R a w → R' a w) : ∀ (f : Nat) (seen : Array Bool) (a : Act) (w : World), anyL P md ops D sE R f seen a w → anyL P md ops D sE R' f seen a w := by
 intro f
 induction f with
 | zero => intro seen a w h; exact ⟨h.1, hR _ _ h.2⟩
 | succ f ih => intro seen a w h; exact ⟨h.1, fun i hi => wpOp_ends (fun a' w' h' => ⟨h'.1, ih _ a' w' h'.2⟩) (h.2 i hi)⟩
theorem region_tree_to {id : Nat} {Q : Exit → Act → World → Prop} {a : Act} {w : World} {l lc : List Oper} (D : World → Prop) (c : Nat) (sE : Array Bool) (f : Nat) (R : Act → World → Prop) (hm : P.follows .mixedOrders = true) (hE : Region.ready .any l.toArray sE = [c]) (hE2 : Region.ready .any l.toArray (sE.setIfInBounds c true) = []) (hf : f + 1 = l.length) (hc : pickO l [c] = lc) (hcs : (l[c]?).isSome = true)
  (h : anyL P .any l.toArray D sE R f (Array.replicate l.length false) a w.drew) (hR : ∀ a' w', R a' w' → wpList P l.toArray Q lc a' w') : (Code.region id l.toArray true).wp P Q a w :=
 region_tree_last D c sE f hm hE hE2 hf hc hcs (anyL_mono hR _ _ _ _ h)
end Go.Proofs.YtikchpffkhohlaaGreat

namespace Go.Proofs.YtikchpffkhohlaaGreat
open Go.RowKit
set_option linter.unusedVariables false
def lastP (X : Nat → Int) (i : Nat) : Int := if i = 0 then -1 else X (i - 1)
def oneV (k : Int) (m : Nat) (X : Nat → Int) (nd of sz : Int) : Int := if parE k X m 0 (-1) = 0 then chkP nd of sz else parE k X m 0 (-1)
set_option maxHeartbeats 2000000 in
theorem bkOne (k : Nat) (pv : Value) (m : Nat) (X : Nat → Int) (nd of sz : Int) (w : World) (h : IntSl w w.heap.size pv m X) :
  Calls Tryz.prog 137 #[.int .i64 (k : Int), verV pv nd of sz] w fun e w' => e = .returned (.int .i64 (oneV k m X nd of sz)) ∧ Below w.heap.size w w' := by
 have hbA := below_alloc w (.cells #[pv, .int .i64 nd, .int .i64 of, .int .i64 sz] 60)
 obtain ⟨ap, cp, rfl, ⟨hcap, hbig⟩, hpc⟩ := h
 obtain ⟨W, hW⟩ : ∃ W, w.alloc (.cells #[.slice ap m cp, .int .i64 nd, .int .i64 of, .int .i64 sz] 60) = W := ⟨_, rfl⟩
 rw [hW] at hbA
 have s0 : W.cell? ⟨w.heap.size, 0, none⟩ = some (.slice ap m cp) := by rw [← hW]; exact cell_at (heap_alloc_new _ _) rfl
 have s1 : W.cell? ⟨w.heap.size, 1, none⟩ = some (.int .i64 nd) := by rw [← hW]; exact cell_at (heap_alloc_new _ _) rfl
 have s2 : W.cell? ⟨w.heap.size, 2, none⟩ = some (.int .i64 of) := by rw [← hW]; exact cell_at (heap_alloc_new _ _) rfl
 have s3 : W.cell? ⟨w.heap.size, 3, none⟩ = some (.int .i64 sz) := by rw [← hW]; exact cell_at (heap_alloc_new _ _) rfl
 have HBW := hid hbA
 have HPc := hid hpc
 obtain ⟨ans, hans⟩ : ∃ a, oneV k m X nd of sz = a := ⟨_, rfl⟩
 rw [hans]
 unfold oneV at hans
 have HA := hid hans
 clear hbA hpc hans
 unfold verV
 go_enter Tryz.func137, Tryz.ntmps137
 go_wp2
 go_loopw [10] (fun iv wz => ∃ i : Nat, i ≤ m ∧ iv = .int .i64 i ∧ wz = W ∧ Hid (parE k X (m - i) i (lastP X i) = parE k X m 0 (-1))) (fun iv _ => m - (intOf iv).toNat)
 case atStart => exact ⟨0, Nat.zero_le _, rfl, rfl, rfl⟩
 case round =>
  obtain ⟨i, hi, rfl, hwz, HP⟩ := hrel
  subst hwz
  by_cases him : i < m
  ·have himi : (i : Int) < (m : Int) := by omega
   rcases HPc.out with h0 | ⟨bp, op, rfl, hbp, hpx⟩
   ·omega
   have e0 : wr.cell? ⟨bp, op + i, none⟩ = some (.int .i64 (X i)) := by rw [HBW.out.cell hbp]; exact hpx i him
   have hp := HP.out
   rw [show m - i = (m - (i + 1)) + 1 by omega] at hp
   simp only [parE] at hp
   obtain ⟨x, hxx⟩ : ∃ x, X i = x := ⟨_, rfl⟩
   have hlast : lastP X (i + 1) = x := by unfold lastP; rw [if_neg (by omega)]; exact hxx
   rw [hxx] at e0 hp
   have HLx := hid hlast
   clear hxx hlast
   by_cases c1 : x < 0 ∨ (k : Int) ≤ x
   ·rw [if_pos c1] at hp
    have hst := HA.out
    rw [← hp, if_neg (by decide)] at hst
    have HFin := hid hst
    clear hp hst hpx
    by_cases c2 : x < 0
    ·go_wp2
     go_ret
     exact ⟨by rw [← HFin.out]; rfl, HBW.out⟩
    ·have c3 : (k : Int) ≤ x := by omega
     go_wp2
     go_ret
     exact ⟨by rw [← HFin.out]; rfl, HBW.out⟩
   ·rw [if_neg c1] at hp
    have c2 : ¬ x < 0 := fun h => c1 (Or.inl h)
    have c3 : ¬ (k : Int) ≤ x := fun h => c1 (Or.inr h)
    by_cases h0 : i = 0
    ·have hz : ¬ 0 < (i : Int) := by omega
     rw [show lastP X i = -1 from if_pos h0, if_neg (by omega)] at hp
     have HP2 := hid hp
     clear hp c1 hpx h0
     go_wp2
     go_roundw
     case rel => exact ⟨i + 1, by omega, by go_num, trivial, by rw [HLx.out]; exact HP2.out⟩
     case measure => simp only [intOf]; omega
    ·have hpos : 0 < (i : Int) := by omega
     obtain ⟨j, rfl⟩ : ∃ j, i = j + 1 := ⟨i - 1, by omega⟩
     have e1 : wr.cell? ⟨bp, op + j, none⟩ = some (.int .i64 (X j)) := by rw [HBW.out.cell hbp]; exact hpx j (by omega)
     have hjm : (j : Int) < (m : Int) := by omega
     rw [show lastP X (j + 1) = X j from rfl] at hp
     obtain ⟨y, hyy⟩ : ∃ y, X j = y := ⟨_, rfl⟩
     rw [hyy] at e1 hp
     clear hpx hyy
     by_cases c4 : x ≤ y
     ·rw [if_pos c4] at hp
      have hst := HA.out
      rw [← hp, if_neg (by decide)] at hst
      have HFin := hid hst
      clear hp hst c1
      go_wp2
      go_ret
      exact ⟨by rw [← HFin.out]; rfl, HBW.out⟩
     ·rw [if_neg c4] at hp
      have HP2 := hid hp
      clear hp c1
      go_wp2
      go_roundw
      case rel => exact ⟨j + 1 + 1, by omega, by go_num, trivial, by rw [HLx.out]; exact HP2.out⟩
      case measure => simp only [intOf]; omega
  ·have hie : m = i := by omega
   subst hie
   have hp := HP.out
   rw [Nat.sub_self] at hp
   have hp0 : parE k X m 0 (-1) = 0 := hp.symm
   have hst := HA.out
   rw [hp0, if_pos rfl] at hst
   have HCk := hid (shCheck nd of sz wr)
   rw [hst] at HCk
   clear hp hp0 hst
   unfold planV at HCk
   go_wp2_with fail
   refine Calls.mono HCk.out ?_
   rintro e w5 ⟨rfl, hb5⟩
   have HB5 := hid (HBW.out.trans (hb5.mono HBW.out.size))
   clear hb5
   go_wp2
   go_ret
   exact ⟨rfl, HB5.out⟩
set_option maxHeartbeats 2000000 in
theorem bkCheck (v : Value) (n : Nat) (PV : Nat → Value) (b : Bk) (w : World) (h : VeSl w w.heap.size v n PV b) :
  Calls Tryz.prog 88 #[bookV v] w fun e w' => e = .returned (.int .i64 (bookE n b)) ∧ Below w.heap.size w w' := by
 obtain ⟨ad, cap, rfl, ⟨hcap, hbig⟩, hx⟩ := h
 have hbx := below_alloc w (.cells #[.slice ad n cap] 24)
 have HBx := hid hbx
 have HX := hid hx
 obtain ⟨ans, hans⟩ : ∃ a, bookE n b = a := ⟨_, rfl⟩
 rw [hans]
 unfold bookE at hans
 clear hbx hx
 unfold bookV
 by_cases hn : n ≤ 12
 ·rw [if_pos hn] at hans
  have HA := hid hans
  have hni : (n : Int) ≤ 12 := by omega
  clear hans
  go_enter Tryz.func88, Tryz.ntmps88
  go_wp2
  go_loopw [13] (fun iv wr => ∃ k : Nat, k ≤ n ∧ iv = .int .i64 k ∧ Hid (Below w.heap.size w wr) ∧ Hid (scanV b (n - k) k = ans)) (fun iv _ => n - (intOf iv).toNat)
  case atStart => exact ⟨0, Nat.zero_le _, rfl, HBx, HA⟩
  case round =>
   obtain ⟨k, hk, rfl, HB, HS⟩ := hrel
   by_cases hlt : k < n
   ·have hki : (k : Int) < (n : Int) := by omega
    rcases HX.out with h0 | ⟨bl, off, rfl, hbl, hx⟩
    ·omega
    obtain ⟨x0, x1, x2, x3, x4⟩ := hx k hlt
    have hstep := HS.out
    rw [show n - k = (n - (k + 1)) + 1 by omega] at hstep
    simp only [scanV] at hstep
    have HI : Hid (∀ w', Below w.heap.size w w' → IntSl w' w'.heap.size (PV k) (b.PL k) (b.PX k)) := fun w' hb => x4.up hb
    obtain ⟨ap, cp, hpe, _, _⟩ := x4
    rw [hpe] at x0 HI
    have g0 : wr.cell? ⟨bl, off + k * 4, none⟩ = some (.slice ap (b.PL k) cp) := by rw [HB.out.cell hbl]; exact x0
    have g1 : wr.cell? ⟨bl, off + k * 4 + 1, none⟩ = some (.int .i64 (b.nd k)) := by rw [HB.out.cell hbl]; exact x1
    have g2 : wr.cell? ⟨bl, off + k * 4 + 2, none⟩ = some (.int .i64 (b.of k)) := by rw [HB.out.cell hbl]; exact x2
    have g3 : wr.cell? ⟨bl, off + k * 4 + 3, none⟩ = some (.int .i64 (b.sz k)) := by rw [HB.out.cell hbl]; exact x3
    have hbA := below_alloc wr (.cells #[.slice ap (b.PL k) cp, .int .i64 (b.nd k), .int .i64 (b.of k), .int .i64 (b.sz k)] 60)
    have HBW := hid (HB.out.trans (hbA.mono HB.out.size))
    have HC := hid (bkOne k _ _ _ (b.nd k) (b.of k) (b.sz k) _ (HI.out _ HBW.out))
    rw [show oneV k (b.PL k) (b.PX k) (b.nd k) (b.of k) (b.sz k) = verE b k from rfl] at HC
    obtain ⟨c, hcc⟩ : ∃ c, verE b k = c := ⟨_, rfl⟩
    rw [hcc] at HC hstep
    clear x0 x1 x2 x3 hx hpe hbA hcc
    unfold verV at HC
    by_cases hc0 : c = 0
    ·subst hc0
     rw [if_pos rfl] at hstep
     have HNx := hid hstep
     clear hstep
     go_wp2_with fail
     refine Calls.mono HC.out ?_
     rintro e w5 ⟨rfl, hb5⟩
     have HB5 := hid (HBW.out.trans (hb5.mono HBW.out.size))
     clear hb5
     go_wp2
     go_roundw
     case rel => exact ⟨k + 1, by omega, by go_num, HB5, HNx⟩
     case measure => simp only [intOf]; omega
    ·rw [if_neg hc0] at hstep
     have HFin := hid hstep
     have hcb : (c != 0) = true := by simpa using hc0
     clear hstep hc0
     go_wp2_with fail
     refine Calls.mono HC.out ?_
     rintro e w5 ⟨rfl, hb5⟩
     have HB5 := hid (HBW.out.trans (hb5.mono HBW.out.size))
     clear hb5
     go_wp2
     go_ret
     exact ⟨by rw [← HFin.out]; rfl, HB5.out⟩
   ·have hke : n = k := by omega
    subst hke
    have hst := HS.out
    rw [Nat.sub_self] at hst
    have HFin : Hid ((0 : Int) = ans) := hst
    clear hst
    go_wp2
    go_ret
    exact ⟨by rw [← HFin.out]; rfl, HB.out⟩
 ·rw [if_neg hn] at hans
  have HA := hid hans
  have hni : ¬ (n : Int) ≤ 12 := by omega
  clear hans
  go_enter Tryz.func88, Tryz.ntmps88
  go_wp2
  go_ret
  exact ⟨by rw [← HA.out]; rfl, HBx.out⟩
end Go.Proofs.YtikchpffkhohlaaGreat
