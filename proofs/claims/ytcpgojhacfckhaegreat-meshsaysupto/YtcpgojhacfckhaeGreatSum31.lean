/- Several texts of one proof, in their order. -/
import Derived.Test.YtcpgojhacfckhaeGreatSum19
import Derived.Test.YtcpgojhacfckhaeGreatSum16
import Derived.Test.YtcpgojhacfckhaeGreatSum30

namespace Go.Proofs.YtcpgojhacfckhaeGreat

open Go.RowKit CurveMath
set_option linter.unusedVariables false

structure FrInv (w wr : World) (vo : Value) (X : Nat → Int) (i : Nat) : Prop where
  below : Below w.heap.size w wr
  out : wr.heap[w.heap.size]? = some (.cells #[.slice none 0 0, .slice none 0 0] 27 (0, 0))
  box : wr.heap[w.heap.size + 1]? = some (.cells #[.slice none 0 0, vo] 27 (0, 0))
  row : wr.ownsRow (w.heap.size + 2) 47 3 vo i (flatP (fun _ => .slice none 0 0) (freshP X) i)

theorem FrInv.push {w wr w6 : World} {vo v1 : Value} {X : Nat → Int} {i : Nat} (h : FrInv w wr vo X i) (hs : w.heap.size + 2 ≤ wr.heap.size) {o : Obj} (ho : w6.ownsRow (w.heap.size + 2) 47 3 v1 (i + 1) (flatP (fun _ => .slice none 0 0) (freshP X) i ++ [.bool true, .int .i64 (X i), .slice none 0 0])) (hg : (wr.alloc o).grownBy w6 vo.ownBlock) :
    FrInv w (w6.setCell ⟨w.heap.size + 1, 1, none⟩ v1) v1 X (i + 1) ∧ w6.heap[w.heap.size + 1]? = some (.cells #[.slice none 0 0, vo] 27 (0, 0)) := by
  have hbA : Below w.heap.size w (wr.alloc o) := h.below.alloc h.below.size o
  have hlo : ∀ k, vo.ownBlock = some k → w.heap.size + 2 ≤ k := fun k hk => (h.row.lt k hk).1
  have hb6 : Below w.heap.size w w6 := hbA.grown hg hbA.size (fun k hk => by have := hlo k hk; omega)
  have key : ∀ k, k < w.heap.size + 2 → w6.heap[k]? = wr.heap[k]? := fun k hk => by
    rw [hg.block k (by simp; omega) (fun e => by have := hlo k e.symm; omega), Below.heap_alloc _ _ _ (by omega)]
  have hbx : w6.heap[w.heap.size + 1]? = some (.cells #[.slice none 0 0, vo] 27 (0, 0)) := by rw [key _ (by omega)]; exact h.box
  refine ⟨⟨hb6.setCell (p := ⟨w.heap.size + 1, 1, none⟩) (by show w.heap.size ≤ w.heap.size + 1; omega) _, ?_, ?_, ?_⟩, hbx⟩
  · rw [Below.heap_setCell _ _ _ _ (by show w.heap.size ≠ w.heap.size + 1; omega), key _ (by omega)]; exact h.out
  · simp [World.setCell, Array.getElem?_modify, hbx]
  · rw [flatP_succ]
    exact owns_set_other ho (fun e => by have := (ho.lt _ e).1; omega) _

theorem fresh_kel (w : World) (B : Nat) (UV : Nat → Value) (t : Kt) : KeSl w B (.slice none 0 0) 0 UV t := ⟨none, 0, rfl, ⟨Nat.le_refl _, by omega⟩, Or.inl rfl⟩

set_option maxHeartbeats 4000000 in
theorem freshMesh_any (vr : Value) (len : Nat) (X : Nat → Int) (w : World) (h : IntSl w w.heap.size vr len X) (hn : len ≤ 1048576) :
    Calls Tryz.prog 11 #[vr] w (MeshPost w (newE len X) 0 noB len (freshP X)) := by
  have hb0 := ((Below.refl w.heap.size w).alloc (Nat.le_refl _) (.cells #[.slice none 0 0, .slice none 0 0] 27)).alloc (by simp) (.cells #[.slice none 0 0, .slice none 0 0] 27)
  have k1 := heap_two_old w (.cells #[.slice none 0 0, .slice none 0 0] 27) (.cells #[.slice none 0 0, .slice none 0 0] 27)
  have k2 := heap_two_new w (.cells #[.slice none 0 0, .slice none 0 0] 27) (.cells #[.slice none 0 0, .slice none 0 0] 27)
  obtain ⟨W0, hW0⟩ : ∃ W, (w.alloc (.cells #[.slice none 0 0, .slice none 0 0] 27)).alloc (.cells #[.slice none 0 0, .slice none 0 0] 27) = W := ⟨_, rfl⟩
  have hsz : W0.heap.size = w.heap.size + 2 := by rw [← hW0]; simp
  rw [hW0] at hb0 k1 k2
  obtain ⟨ad, cap, rfl, _, hx⟩ := h
  obtain ⟨ii, hii, hz0, hz1, hz2⟩ := info_parts Tryz.infoPeer
  have J0 : Hid (FrInv w W0 (.slice none 0 0) X 0) := ⟨hb0, k1, k2, World.ownsRow_nil _ _ _ _⟩
  have HX := hid hx
  have HSz := hid hsz
  obtain ⟨er, her⟩ : ∃ c, newE len X = c := ⟨_, rfl⟩
  rw [her]
  have HEr := hid her
  clear hb0 k1 k2 hx hsz her
  go_enter Tryz.func11, Tryz.ntmps11
  go_wp2
  go_loopw [10] (fun iv wr => ∃ (i : Nat) (vo : Value), i ≤ len ∧ iv = .int .i64 i ∧ Hid (FrInv w wr vo X i) ∧ Hid (w.heap.size + 2 ≤ wr.heap.size)) (fun iv _ => len - (intOf iv).toNat)
  case atStart => exact ⟨0, .slice none 0 0, Nat.zero_le _, rfl, J0, Nat.le_of_eq HSz.out.symm⟩
  case round =>
    obtain ⟨i, vo, hi, rfl, J, HS⟩ := hrel
    obtain ⟨m0, m1⟩ := two_at J.out.box
    obtain ⟨ao, co, hvo⟩ := owns_sliceV J.out.row
    subst hvo
    by_cases hlt : i < len
    · have hli : (i : Int) < (len : Int) := by omega
      rcases HX.out with h0 | ⟨bl, off, rfl, hbl, hx⟩
      · omega
      have a1 : wr.cell? ⟨bl, off + i, none⟩ = some (.int .i64 (X i)) := by rw [J.out.below.cell hbl]; exact hx i hlt
      have HCt := hid (cells_three wr (.bool true) (.int .i64 (X i)) (.slice none 0 0) 47)
      have hs := HS.out
      clear hx
      go_wp2_with (at_builtin; go_must (refine wpList_append_own _ rfl (.tmp 15) (.tmp 18) 25 rfl (w.heap.size + 2) 47 ii (.agg #[.bool false, .int .i64 0, .slice none 0 0]) 3 40 Tryz.underlying25 hii hz0 hz1 hz2 rfl (by decide) _ _ _ rfl (World.ownsRow.alloc J.out.row _) ⟨_, 0, none⟩ 1 1 [.bool true, .int .i64 (X i), .slice none 0 0] rfl rfl HCt.out (by intro u hu; simp at hu; rcases hu with rfl | rfl | rfl <;> rfl) (by unfold maxLen; omega) (by omega) (by simp; omega) ?_; intro v1 w6 ho6 hg6 _; obtain ⟨j1, j2⟩ := J.out.push hs ho6 hg6; have HJ := hid j1; have hs6 : w.heap.size + 2 ≤ (w6.setCell ⟨w.heap.size + 1, 1, none⟩ v1).heap.size := Nat.lt_of_lt_of_le (Array.getElem?_eq_some_iff.1 j2).1 (by simp [World.setCell]); have HS6 := hid hs6; obtain ⟨n0, n1⟩ := two_at j2; have fn := frozen_at (i := 1) j2; obtain ⟨a9, c9, hv9⟩ := owns_sliceV ho6; subst hv9; clear ho6 hg6 j1 j2 hs6))
      go_roundw
      case rel => exact ⟨i + 1, _, by omega, by go_num, HJ, HS6⟩
      case measure => simp only [intOf]; omega
    · have hie : len = i := by omega
      subst hie
      have hwl : w.heap.size < wr.heap.size := by have := HS.out; omega
      obtain ⟨av, g, cap9, hve, hav, hcap, hrow⟩ := rowP_any J.out.row hwl
      injection hve with hv1 _ hv3
      subst hv1 hv3
      have hpsl := hrow.sl (UV := fun _ _ => .int .i64 0) (fun h => (hav h).1) hcap (by omega) (fun k hk => fresh_kel wr wr.heap.size _ _)
      have hve0 : VeSl wr wr.heap.size (.slice none 0 0) 0 (fun _ => .int .i64 0) noB := ⟨none, 0, rfl, ⟨Nat.le_refl _, by omega⟩, Or.inl rfl⟩
      have CK := hid (checkMesh_any _ 0 _ noB _ len _ _ (freshP X) wr hve0 hpsl)
      have hE := HEr.out
      unfold newE at hE
      rw [hE] at CK
      have HPs := hid hpsl
      unfold meshV at CK
      clear hve0 hpsl hav hrow hE
      go_wp2_with fail
      refine Calls.mono CK.out ?_
      rintro e W5 ⟨rfl, hb5⟩
      have B5 := hid (J.out.below.trans (hb5.mono J.out.below.size))
      have o5 := stayB J.out.out hb5
      have HO5 := hid o5
      have HP5 := hid (HPs.out.up hb5)
      clear m0 m1
      obtain ⟨m0, m1⟩ := two_at (stayB J.out.box hb5)
      obtain ⟨r1, r2⟩ := two_at o5
      have f1 := frozen_at (i := 0) o5
      have f2 := frozen_at (i := 1) o5
      clear hb5 o5 CK
      by_cases h0 : er = 0
      · subst h0
        go_wp2
        refine bodyPost_ret (results_cell2 rfl _ _ w.heap.size 27 #[.slice none 0 0, .slice ao len co] (0, 0) _ rfl (put2_whole HO5.out _ _) Tryz.underlying27 rfl (by kernel_rfl)) rfl ?_
        exact ⟨put2_below B5.out (Nat.le_refl _), .slice none 0 0, .slice ao len co, 0, len, fun _ => .int .i64 0, _, _, rfl, rfl, rfl, ⟨none, 0, rfl, ⟨Nat.le_refl _, by omega⟩, Or.inl rfl⟩, ps_put2 HO5.out HP5.out _ _⟩
      · have heb : (er != 0) = true := by simpa using h0
        have H0 := hid h0
        clear h0
        go_wp2
        refine bodyPost_ret (results_cell2 rfl _ _ w.heap.size 27 #[.slice none 0 0, .slice none 0 0] (0, 0) _ rfl (put2_whole HO5.out _ _) Tryz.underlying27 rfl (by kernel_rfl)) rfl ?_
        exact mesh_none (put2_below B5.out (Nat.le_refl _)) H0.out

end Go.Proofs.YtcpgojhacfckhaeGreat

namespace Go.Proofs.YtcpgojhacfckhaeGreat

open Go.RowKit CurveMath
set_option linter.unusedVariables false

set_option maxHeartbeats 8000000 in
set_option maxRecDepth 10000 in
theorem meshSays_of (hO : MeshOwes) (hW : ∀ w : World, Calls Tryz.prog 15 #[] w fun e w' => e = .returned (.bool true) ∧ Below w.heap.size w w')
    (vb : Value) (n : Nat) (PV : Nat → Value) (b : Bk) (vl : Value) (np : Nat) (KV : Nat → Value) (UV : Nat → Nat → Value) (P : Ps) (k : Int) (vd : Value) (len : Nat) (D : Nat → Int) (vp : Value) (lp : Nat) (Q : Nat → Int) (nd of sz : Int) (vr : Value) (lr : Nat) (Z : Nat → Int)
    (vb' : Value) (n' : Nat) (PV' : Nat → Value) (b' : Bk) (vl' : Value) (np' : Nat) (KV' : Nat → Value) (UV' : Nat → Nat → Value) (P' : Ps) (w : World)
    (hv : VeSl w w.heap.size vb n PV b) (hl : PsSl w w.heap.size vl np KV UV P) (hd : IntSl w w.heap.size vd len D) (hp : IntSl w w.heap.size vp lp Q) (hr : IntSl w w.heap.size vr lr Z) (hlr : lr ≤ 1048576) (hv' : VeSl w w.heap.size vb' n' PV' b') (hl' : PsSl w w.heap.size vl' np' KV' UV' P') :
    Calls Tryz.prog 3 #[meshV vb vl, .int .i64 k, vd, vp, planV nd of sz, vr, meshV vb' vl'] w fun e w' => e = .returned (.bool true) ∧ Below w.heap.size w w' := by
  have HO := hid hO
  have HW := hid hW
  have HV := hid hv
  have HL := hid hl
  have HV' := hid hv'
  have HL' := hid hl'
  have A3 := hid hd
  have A4 := hid hp
  have A5 := hid hr
  obtain ⟨ab, cb, rfl, _, _⟩ := hv
  obtain ⟨al, cl, rfl, _, _⟩ := hl
  obtain ⟨ad, cd, rfl, _, _⟩ := hd
  obtain ⟨ap, cp, rfl, _, _⟩ := hp
  obtain ⟨ar, cr, rfl, _, _⟩ := hr
  obtain ⟨ab', cb', rfl, _, _⟩ := hv'
  obtain ⟨al', cl', rfl, _, _⟩ := hl'
  have hb0 : Below w.heap.size w (((w.alloc (.cells #[.slice ab n cb, .slice al np cl] 27)).alloc (.cells #[.int .i64 nd, .int .i64 of, .int .i64 sz] 30)).alloc (.cells #[.slice ab' n' cb', .slice al' np' cl'] 27)) := (((Below.refl w.heap.size w).alloc (Nat.le_refl _) _).alloc (by simp) _).alloc (by simp; omega) _
  obtain ⟨k0, k1, k2⟩ := heap_tri w (.cells #[.slice ab n cb, .slice al np cl] 27) (.cells #[.int .i64 nd, .int .i64 of, .int .i64 sz] 30) (.cells #[.slice ab' n' cb', .slice al' np' cl'] 27)
  obtain ⟨U, hU⟩ : ∃ u, ((w.alloc (.cells #[.slice ab n cb, .slice al np cl] 27)).alloc (.cells #[.int .i64 nd, .int .i64 of, .int .i64 sz] 30)).alloc (.cells #[.slice ab' n' cb', .slice al' np' cl'] 27) = u := ⟨_, rfl⟩
  rw [hU] at hb0 k0 k1 k2
  have HB := hid hb0
  have A0 : Hid (MsAt U w.heap.size ab n cb PV b al np cl KV UV P) := ⟨k0, HV.out.up hb0, HL.out.up hb0⟩
  have A1 : Hid (U.heap[w.heap.size + 1]? = some (.cells #[.int .i64 nd, .int .i64 of, .int .i64 sz] 30 (0, 0))) := k1
  have A2 : Hid (MsAt U (w.heap.size + 2) ab' n' cb' PV' b' al' np' cl' KV' UV' P') := ⟨k2, HV'.out.up hb0, HL'.out.up hb0⟩
  replace A3 := hid (A3.out.up hb0)
  replace A4 := hid (A4.out.up hb0)
  replace A5 := hid (A5.out.up hb0)
  clear hb0 k0 k1 k2 HV HL HV' HL' hO hW
  unfold meshV planV
  go_enter Tryz.func3, Tryz.ntmps3
  have CK := hid (HO.out.new _ lr Z U A5.out hlr)
  go_wp2_with fail
  refine Calls.mono CK.out ?_
  rintro e u1 hM
  obtain ⟨hb, ab1, n1, cb1, PV1, al1, np1, cl1, KV1, UV1, rfl, hn1, hp1, hv9, hl9⟩ := mesh_open hM.old
  have HN1 := hid hn1
  have HP1 := hid hp1
  have hb2 := below_alloc u1 (.cells #[.slice ab1 n1 cb1, .slice al1 np1 cl1] 27)
  have hx := MsAt.box hv9 hl9
  obtain ⟨V1, hV1⟩ : ∃ v, World.alloc u1 (.cells #[.slice ab1 n1 cb1, .slice al1 np1 cl1] 27) = v := ⟨_, rfl⟩
  rw [hV1] at hb2 hx
  replace hb := hb.trans (hb2.mono hb.size)
  replace HB := hid (HB.out.trans (hb.mono HB.out.size))
  replace A0 := hid (A0.out.up hb)
  replace A2 := hid (A2.out.up hb)
  replace A3 := hid (A3.out.up hb)
  replace A4 := hid (A4.out.up hb)
  replace A5 := hid (A5.out.up hb)
  replace A1 := hid (stayB A1.out hb)
  have X1 := hid hx
  clear hM hb hb2 hx CK hv9 hl9 hn1 hp1
  obtain ⟨c0, c1⟩ := A0.out.cells
  have CK := hid (HO.out.restore _ n PV b _ np KV UV P k V1 A0.out.2.1 A0.out.2.2)
  unfold meshV at CK
  go_wp2_with fail
  refine Calls.mono CK.out ?_
  rintro e u2 hM
  obtain ⟨hb, ra2, rm2, rc2, sa2, sc2, rfl, hrm2, hr9, hs9⟩ := rest_open hM
  have HM2 := hid hrm2
  replace HB := hid (HB.out.trans (hb.mono HB.out.size))
  replace A0 := hid (A0.out.up hb)
  replace A2 := hid (A2.out.up hb)
  replace X1 := hid (X1.out.up hb)
  replace A3 := hid (A3.out.up hb)
  replace A4 := hid (A4.out.up hb)
  replace A5 := hid (A5.out.up hb)
  replace A1 := hid (stayB A1.out hb)
  have R2 := hid hr9
  have S2 := hid hs9
  clear c0 c1
  clear hM hb CK hr9 hs9 hrm2
  obtain ⟨c0, c1⟩ := A0.out.cells
  have CK := hid (HO.out.repair _ n PV b _ np KV UV P k u2 A0.out.2.1 A0.out.2.2)
  unfold meshV at CK
  go_wp2_with fail
  refine Calls.mono CK.out ?_
  rintro e u3 hM
  obtain ⟨hb, ab3, n3, cb3, PV3, al3, np3, cl3, KV3, UV3, rfl, hn3, hp3, hv9, hl9⟩ := mesh_open hM.old
  have HN3 := hid hn3
  have HP3 := hid hp3
  have hb2 := below_alloc u3 (.cells #[.slice ab3 n3 cb3, .slice al3 np3 cl3] 27)
  have hx := MsAt.box hv9 hl9
  obtain ⟨V3, hV3⟩ : ∃ v, World.alloc u3 (.cells #[.slice ab3 n3 cb3, .slice al3 np3 cl3] 27) = v := ⟨_, rfl⟩
  rw [hV3] at hb2 hx
  replace hb := hb.trans (hb2.mono hb.size)
  replace HB := hid (HB.out.trans (hb.mono HB.out.size))
  replace A0 := hid (A0.out.up hb)
  replace A2 := hid (A2.out.up hb)
  replace X1 := hid (X1.out.up hb)
  replace A3 := hid (A3.out.up hb)
  replace A4 := hid (A4.out.up hb)
  replace A5 := hid (A5.out.up hb)
  replace R2 := hid (R2.out.up hb)
  replace S2 := hid (S2.out.up hb)
  replace A1 := hid (stayB A1.out hb)
  have X3 := hid hx
  clear c0 c1
  clear hM hb hb2 hx CK hv9 hl9 hn3 hp3
  obtain ⟨c0, c1⟩ := A0.out.cells
  obtain ⟨p0, p1, p2⟩ := three_at A1.out
  have CK := hid (HO.out.save _ n PV b _ np KV UV P _ len D _ lp Q nd of V3 A0.out.2.1 A0.out.2.2 A3.out A4.out)
  unfold meshV at CK
  go_wp2_with fail
  refine Calls.mono CK.out ?_
  rintro e u4 hM
  obtain ⟨hb, ab4, n4, cb4, PV4, al4, np4, cl4, KV4, UV4, rfl, hn4, hp4, hv9, hl9⟩ := mesh_open hM.old
  have HN4 := hid hn4
  have HP4 := hid hp4
  have hb2 := below_alloc u4 (.cells #[.slice ab4 n4 cb4, .slice al4 np4 cl4] 27)
  have hx := MsAt.box hv9 hl9
  obtain ⟨V4, hV4⟩ : ∃ v, World.alloc u4 (.cells #[.slice ab4 n4 cb4, .slice al4 np4 cl4] 27) = v := ⟨_, rfl⟩
  rw [hV4] at hb2 hx
  replace hb := hb.trans (hb2.mono hb.size)
  replace HB := hid (HB.out.trans (hb.mono HB.out.size))
  replace A0 := hid (A0.out.up hb)
  replace A2 := hid (A2.out.up hb)
  replace X1 := hid (X1.out.up hb)
  replace X3 := hid (X3.out.up hb)
  replace A3 := hid (A3.out.up hb)
  replace A4 := hid (A4.out.up hb)
  replace A5 := hid (A5.out.up hb)
  replace R2 := hid (R2.out.up hb)
  replace S2 := hid (S2.out.up hb)
  replace A1 := hid (stayB A1.out hb)
  have X4 := hid hx
  clear c0 c1 p0 p1 p2
  clear hM hb hb2 hx CK hv9 hl9 hn4 hp4
  have CK := hid (freshMesh_any _ lr Z V4 A5.out hlr)
  go_wp2_with fail
  refine Calls.mono CK.out ?_
  rintro e u5 hM
  obtain ⟨hb, ab5, n5, cb5, PV5, al5, np5, cl5, KV5, UV5, rfl, hn5, hp5, hv9, hl9⟩ := mesh_open hM
  have HN5 := hid hn5
  have HP5 := hid hp5
  have hb2 := below_alloc u5 (.cells #[.slice ab5 n5 cb5, .slice al5 np5 cl5] 27)
  have hx := MsAt.box hv9 hl9
  obtain ⟨V5, hV5⟩ : ∃ v, World.alloc u5 (.cells #[.slice ab5 n5 cb5, .slice al5 np5 cl5] 27) = v := ⟨_, rfl⟩
  rw [hV5] at hb2 hx
  replace hb := hb.trans (hb2.mono hb.size)
  replace HB := hid (HB.out.trans (hb.mono HB.out.size))
  replace A0 := hid (A0.out.up hb)
  replace A2 := hid (A2.out.up hb)
  replace X1 := hid (X1.out.up hb)
  replace X3 := hid (X3.out.up hb)
  replace X4 := hid (X4.out.up hb)
  replace A3 := hid (A3.out.up hb)
  replace A4 := hid (A4.out.up hb)
  replace A5 := hid (A5.out.up hb)
  replace R2 := hid (R2.out.up hb)
  replace S2 := hid (S2.out.up hb)
  replace A1 := hid (stayB A1.out hb)
  have X5 := hid hx
  clear hM hb hb2 hx CK hv9 hl9 hn5 hp5
  obtain ⟨c0, c1⟩ := A0.out.cells
  have CK := hid (restored_any _ n PV b _ np KV UV P k V5 A0.out.2.1 A0.out.2.2)
  unfold meshV at CK
  go_wp2_with fail
  refine Calls.mono CK.out ?_
  rintro e u6 hM
  obtain ⟨hb, ra6, rm6, rc6, sa6, sc6, rfl, hrm6, hr9, hs9⟩ := rest_open hM
  have HM6 := hid hrm6
  replace HB := hid (HB.out.trans (hb.mono HB.out.size))
  replace A0 := hid (A0.out.up hb)
  replace A2 := hid (A2.out.up hb)
  replace X1 := hid (X1.out.up hb)
  replace X3 := hid (X3.out.up hb)
  replace X4 := hid (X4.out.up hb)
  replace X5 := hid (X5.out.up hb)
  replace A3 := hid (A3.out.up hb)
  replace A4 := hid (A4.out.up hb)
  replace A5 := hid (A5.out.up hb)
  replace R2 := hid (R2.out.up hb)
  replace S2 := hid (S2.out.up hb)
  replace A1 := hid (stayB A1.out hb)
  have R6 := hid hr9
  have S6 := hid hs9
  clear c0 c1
  clear hM hb CK hr9 hs9 hrm6
  obtain ⟨c0, c1⟩ := A0.out.cells
  have CK := hid (repaired_any _ n PV b _ np KV UV P k u6 A0.out.2.1 A0.out.2.2)
  unfold meshV at CK
  go_wp2_with fail
  refine Calls.mono CK.out ?_
  rintro e u7 hM
  obtain ⟨hb, ab7, n7, cb7, PV7, al7, np7, cl7, KV7, UV7, rfl, hn7, hp7, hv9, hl9⟩ := mesh_open hM
  have HN7 := hid hn7
  have HP7 := hid hp7
  have hb2 := below_alloc u7 (.cells #[.slice ab7 n7 cb7, .slice al7 np7 cl7] 27)
  have hx := MsAt.box hv9 hl9
  obtain ⟨V7, hV7⟩ : ∃ v, World.alloc u7 (.cells #[.slice ab7 n7 cb7, .slice al7 np7 cl7] 27) = v := ⟨_, rfl⟩
  rw [hV7] at hb2 hx
  replace hb := hb.trans (hb2.mono hb.size)
  replace HB := hid (HB.out.trans (hb.mono HB.out.size))
  replace A0 := hid (A0.out.up hb)
  replace A2 := hid (A2.out.up hb)
  replace X1 := hid (X1.out.up hb)
  replace X3 := hid (X3.out.up hb)
  replace X4 := hid (X4.out.up hb)
  replace X5 := hid (X5.out.up hb)
  replace A3 := hid (A3.out.up hb)
  replace A4 := hid (A4.out.up hb)
  replace A5 := hid (A5.out.up hb)
  replace R2 := hid (R2.out.up hb)
  replace S2 := hid (S2.out.up hb)
  replace R6 := hid (R6.out.up hb)
  replace S6 := hid (S6.out.up hb)
  replace A1 := hid (stayB A1.out hb)
  have X7 := hid hx
  clear c0 c1
  clear hM hb hb2 hx CK hv9 hl9 hn7 hp7
  obtain ⟨c0, c1⟩ := A0.out.cells
  obtain ⟨p0, p1, p2⟩ := three_at A1.out
  have CK := hid (savedIn_any _ n PV b _ np KV UV P _ len D _ lp Q nd of V7 A0.out.2.1 A0.out.2.2 A3.out A4.out)
  unfold meshV at CK
  go_wp2_with fail
  refine Calls.mono CK.out ?_
  rintro e u8 hM
  obtain ⟨hb, ab8, n8, cb8, PV8, al8, np8, cl8, KV8, UV8, rfl, hn8, hp8, hv9, hl9⟩ := mesh_open hM
  have HN8 := hid hn8
  have HP8 := hid hp8
  have hb2 := below_alloc u8 (.cells #[.slice ab8 n8 cb8, .slice al8 np8 cl8] 27)
  have hx := MsAt.box hv9 hl9
  obtain ⟨V8, hV8⟩ : ∃ v, World.alloc u8 (.cells #[.slice ab8 n8 cb8, .slice al8 np8 cl8] 27) = v := ⟨_, rfl⟩
  rw [hV8] at hb2 hx
  replace hb := hb.trans (hb2.mono hb.size)
  replace HB := hid (HB.out.trans (hb.mono HB.out.size))
  replace A0 := hid (A0.out.up hb)
  replace A2 := hid (A2.out.up hb)
  replace X1 := hid (X1.out.up hb)
  replace X3 := hid (X3.out.up hb)
  replace X4 := hid (X4.out.up hb)
  replace X5 := hid (X5.out.up hb)
  replace X7 := hid (X7.out.up hb)
  replace A3 := hid (A3.out.up hb)
  replace A4 := hid (A4.out.up hb)
  replace A5 := hid (A5.out.up hb)
  replace R2 := hid (R2.out.up hb)
  replace S2 := hid (S2.out.up hb)
  replace R6 := hid (R6.out.up hb)
  replace S6 := hid (S6.out.up hb)
  replace A1 := hid (stayB A1.out hb)
  have X8 := hid hx
  clear c0 c1 p0 p1 p2
  clear hM hb hb2 hx CK hv9 hl9 hn8 hp8
  obtain ⟨c0, c1⟩ := A0.out.cells
  obtain ⟨d0, d1⟩ := A2.out.cells
  have hne : Nonempty (Of (Below V8.heap.size V8)) := ⟨⟨V8, Below.refl _ _⟩⟩
  have F0 : ∀ u : Of (Below V8.heap.size V8), u.val.cell? ⟨w.heap.size, 0, none⟩ = some (.slice ab n cb) := fun u => by rw [u.is.cell (cell_lt c0)]; exact c0
  have F1 : ∀ u : Of (Below V8.heap.size V8), u.val.cell? ⟨w.heap.size, 1, none⟩ = some (.slice al np cl) := fun u => by rw [u.is.cell (cell_lt c1)]; exact c1
  have F2 : ∀ u : Of (Below V8.heap.size V8), u.val.cell? ⟨w.heap.size + 2, 0, none⟩ = some (.slice ab' n' cb') := fun u => by rw [u.is.cell (cell_lt d0)]; exact d0
  have F3 : ∀ u : Of (Below V8.heap.size V8), u.val.cell? ⟨w.heap.size + 2, 1, none⟩ = some (.slice al' np' cl') := fun u => by rw [u.is.cell (cell_lt d1)]; exact d1
  obtain ⟨pe, hpe⟩ : ∃ c, peersE n b np P = c := ⟨_, rfl⟩
  obtain ⟨sm, hsm⟩ : ∃ c, meshB n n' b b' np np' P P' = c := ⟨_, rfl⟩
  have HPe := hid hpe
  have HSm := hid hsm
  clear hpe hsm c0 c1 d0 d1
  go_wp2_with fail
  have HD0 : Hid (Below V8.heap.size V8 V8.drew) := drew_below V8
  refine region_mixed (Below V8.heap.size V8) [([], 0), ([1, 2, 3, 5], 4), ([], 6), ([7, 8, 9, 10, 11, 13, 14], 12), ([], 15)] [16, 17] (by kernel_rfl) (by kernel_rfl) HD0.out ?_
  refine mixO_cons (lq := []) rfl (by simp only [pickO, List.getElem?_cons_zero]; exact rfl) ?_
  refine wpQuiet_nil ?_
  intro K hK
  go_wp2_with fail
  refine Calls.mono (HW.out _) ?_
  rintro e z1 ⟨rfl, hbz⟩
  have Z1 : Hid (Below V8.heap.size V8 z1) := HD0.out.trans (hbz.mono HD0.out.size)
  clear hbz
  go_wp2
  refine ⟨rfl, hK _ _ Z1.out ?_⟩
  clear hK K
  refine mixO_cons (by simp only [pickO, List.getElem?_cons_zero, List.getElem?_cons_succ]; exact rfl) (by simp only [pickO, List.getElem?_cons_zero, List.getElem?_cons_succ]; exact rfl) ?_
  repeat (go_big_quiet_step (fail))
  refine wpQuiet_nil ?_
  intro K hK
  have CK := hid (HO.out.check _ n PV b _ np KV UV P z1 (A0.out.2.1.up Z1.out) (A0.out.2.2.up Z1.out))
  unfold meshV at CK
  rw [HPe.out] at CK
  go_wp2_with fail
  refine Calls.mono CK.out ?_
  rintro e z2 ⟨rfl, hbz⟩
  have Z2 : Hid (Below V8.heap.size V8 z2) := Z1.out.trans (hbz.mono Z1.out.size)
  clear hbz CK
  go_wp2
  refine ⟨rfl, hK _ _ Z2.out ?_⟩
  clear hK K
  refine mixO_cons (lq := []) rfl (by simp only [pickO, List.getElem?_cons_zero, List.getElem?_cons_succ]; exact rfl) ?_
  refine wpQuiet_nil ?_
  intro K hK
  have CK := hid (checkMesh_any _ n PV b _ np KV UV P z2 (A0.out.2.1.up Z2.out) (A0.out.2.2.up Z2.out))
  unfold meshV at CK
  rw [HPe.out] at CK
  go_wp2_with fail
  refine Calls.mono CK.out ?_
  rintro e z3 ⟨rfl, hbz⟩
  have Z3 : Hid (Below V8.heap.size V8 z3) := Z2.out.trans (hbz.mono Z2.out.size)
  clear hbz CK
  go_wp2
  refine ⟨rfl, hK _ _ Z3.out ?_⟩
  clear hK K
  refine mixO_cons (by simp only [pickO, List.getElem?_cons_zero, List.getElem?_cons_succ]; exact rfl) (by simp only [pickO, List.getElem?_cons_zero, List.getElem?_cons_succ]; exact rfl) ?_
  repeat (go_big_quiet_step (fail))
  refine wpQuiet_nil ?_
  intro K hK
  have CK := hid (HO.out.same z3 _ _ _ _ _ _ _ _ _ _ _ _ _ _ b b' P P' (A0.out.2.1.up Z3.out) (A0.out.2.2.up Z3.out) (A2.out.2.1.up Z3.out) (A2.out.2.2.up Z3.out))
  unfold meshV at CK
  rw [HSm.out] at CK
  go_wp2_with fail
  refine Calls.mono CK.out ?_
  rintro e z4 ⟨rfl, hbz⟩
  have Z4 : Hid (Below V8.heap.size V8 z4) := Z3.out.trans (hbz.mono Z3.out.size)
  clear hbz CK
  go_wp2
  refine ⟨rfl, hK _ _ Z4.out ?_⟩
  clear hK K
  refine mixO_cons (lq := []) rfl (by simp only [pickO, List.getElem?_cons_zero, List.getElem?_cons_succ]; exact rfl) ?_
  refine wpQuiet_nil ?_
  intro K hK
  have CK := hid (sameMesh_any (A0.out.2.1.up Z4.out) (A0.out.2.2.up Z4.out) (A2.out.2.1.up Z4.out) (A2.out.2.2.up Z4.out))
  unfold meshV at CK
  rw [HSm.out] at CK
  go_wp2_with fail
  refine Calls.mono CK.out ?_
  rintro e z5 ⟨rfl, hbz⟩
  have Z5 : Hid (Below V8.heap.size V8 z5) := Z4.out.trans (hbz.mono Z4.out.size)
  clear hbz CK
  go_wp2
  refine ⟨rfl, hK _ _ Z5.out ?_⟩
  clear hK K
  refine mixO_nil (by simp only [pickO, List.getElem?_cons_zero, List.getElem?_cons_succ]; exact rfl) ?_
  repeat (go_big_quiet_step (fail))
  refine wpQuiet_nil ?_
  clear F0 F1 F2 F3 hne
  have hb := Z5.out
  replace HB := hid (HB.out.trans (hb.mono HB.out.size))
  replace A0 := hid (A0.out.up hb)
  replace A2 := hid (A2.out.up hb)
  replace X1 := hid (X1.out.up hb)
  replace X3 := hid (X3.out.up hb)
  replace X4 := hid (X4.out.up hb)
  replace X5 := hid (X5.out.up hb)
  replace X7 := hid (X7.out.up hb)
  replace X8 := hid (X8.out.up hb)
  replace A3 := hid (A3.out.up hb)
  replace A4 := hid (A4.out.up hb)
  replace A5 := hid (A5.out.up hb)
  replace R2 := hid (R2.out.up hb)
  replace S2 := hid (S2.out.up hb)
  replace R6 := hid (R6.out.up hb)
  replace S6 := hid (S6.out.up hb)
  replace A1 := hid (stayB A1.out hb)
  clear hb
  obtain ⟨b10, b11⟩ := X1.out.cells
  obtain ⟨b50, b51⟩ := X5.out.cells
  have CK := hid (sameMesh_any X1.out.2.1 X1.out.2.2 X5.out.2.1 X5.out.2.2)
  have e1 : n1 = n5 := HN1.out.trans HN5.out.symm
  have e2 : np1 = np5 := HP1.out.trans HP5.out.symm
  have hq : meshB n1 n5 noB noB np1 np5 (freshP Z) (freshP Z) = true := by rw [e1, e2]; exact meshB_self _ _ _ _
  rw [hq] at CK
  unfold meshV at CK
  clear e1 e2 hq
  go_wp2_with fail
  refine Calls.mono CK.out ?_
  rintro e y1 ⟨rfl, hb⟩
  replace HB := hid (HB.out.trans (hb.mono HB.out.size))
  replace A0 := hid (A0.out.up hb)
  replace A2 := hid (A2.out.up hb)
  replace X1 := hid (X1.out.up hb)
  replace X3 := hid (X3.out.up hb)
  replace X4 := hid (X4.out.up hb)
  replace X5 := hid (X5.out.up hb)
  replace X7 := hid (X7.out.up hb)
  replace X8 := hid (X8.out.up hb)
  replace A3 := hid (A3.out.up hb)
  replace A4 := hid (A4.out.up hb)
  replace A5 := hid (A5.out.up hb)
  replace R2 := hid (R2.out.up hb)
  replace S2 := hid (S2.out.up hb)
  replace R6 := hid (R6.out.up hb)
  replace S6 := hid (S6.out.up hb)
  replace A1 := hid (stayB A1.out hb)
  clear hb CK b10 b11 b50 b51
  have CK := hid (equal_isl R2.out R6.out)
  have e1 : rm2 = rm6 := by have h1 := HM2.out; have h2 := HM6.out; omega
  have hq : eqB rm2 rm6 (rsD b np P k) (rsD b np P k) = true := by rw [e1]; exact eqB_self _ _
  rw [hq] at CK
  clear e1 hq
  go_wp2_with fail
  refine Calls.mono CK.out ?_
  rintro e y2 ⟨rfl, j2, hy2⟩
  have hb : Below y1.heap.size y1 y2 := by rw [hy2]; exact drewN_up _ _
  clear hy2
  replace HB := hid (HB.out.trans (hb.mono HB.out.size))
  replace A0 := hid (A0.out.up hb)
  replace A2 := hid (A2.out.up hb)
  replace X1 := hid (X1.out.up hb)
  replace X3 := hid (X3.out.up hb)
  replace X4 := hid (X4.out.up hb)
  replace X5 := hid (X5.out.up hb)
  replace X7 := hid (X7.out.up hb)
  replace X8 := hid (X8.out.up hb)
  replace A3 := hid (A3.out.up hb)
  replace A4 := hid (A4.out.up hb)
  replace A5 := hid (A5.out.up hb)
  replace R2 := hid (R2.out.up hb)
  replace S2 := hid (S2.out.up hb)
  replace R6 := hid (R6.out.up hb)
  replace S6 := hid (S6.out.up hb)
  replace A1 := hid (stayB A1.out hb)
  clear hb CK
  have CK := hid (equal_isl S2.out S6.out)
  rw [eqB_self] at CK
  go_wp2_with fail
  refine Calls.mono CK.out ?_
  rintro e y3 ⟨rfl, j3, hy3⟩
  have hb : Below y2.heap.size y2 y3 := by rw [hy3]; exact drewN_up _ _
  clear hy3
  replace HB := hid (HB.out.trans (hb.mono HB.out.size))
  replace A0 := hid (A0.out.up hb)
  replace A2 := hid (A2.out.up hb)
  replace X1 := hid (X1.out.up hb)
  replace X3 := hid (X3.out.up hb)
  replace X4 := hid (X4.out.up hb)
  replace X5 := hid (X5.out.up hb)
  replace X7 := hid (X7.out.up hb)
  replace X8 := hid (X8.out.up hb)
  replace A3 := hid (A3.out.up hb)
  replace A4 := hid (A4.out.up hb)
  replace A5 := hid (A5.out.up hb)
  replace R2 := hid (R2.out.up hb)
  replace S2 := hid (S2.out.up hb)
  replace R6 := hid (R6.out.up hb)
  replace S6 := hid (S6.out.up hb)
  replace A1 := hid (stayB A1.out hb)
  clear hb CK
  obtain ⟨b10, b11⟩ := X3.out.cells
  obtain ⟨b50, b51⟩ := X7.out.cells
  have CK := hid (sameMesh_any X3.out.2.1 X3.out.2.2 X7.out.2.1 X7.out.2.2)
  have e1 : n3 = n7 := HN3.out.trans HN7.out.symm
  have e2 : np3 = np7 := HP3.out.trans HP7.out.symm
  have hq : meshB n3 n7 b b np3 np7 (mendP b np P k) (mendP b np P k) = true := by rw [e1, e2]; exact meshB_self _ _ _ _
  rw [hq] at CK
  unfold meshV at CK
  clear e1 e2 hq
  go_wp2_with fail
  refine Calls.mono CK.out ?_
  rintro e y4 ⟨rfl, hb⟩
  replace HB := hid (HB.out.trans (hb.mono HB.out.size))
  replace A0 := hid (A0.out.up hb)
  replace A2 := hid (A2.out.up hb)
  replace X1 := hid (X1.out.up hb)
  replace X3 := hid (X3.out.up hb)
  replace X4 := hid (X4.out.up hb)
  replace X5 := hid (X5.out.up hb)
  replace X7 := hid (X7.out.up hb)
  replace X8 := hid (X8.out.up hb)
  replace A3 := hid (A3.out.up hb)
  replace A4 := hid (A4.out.up hb)
  replace A5 := hid (A5.out.up hb)
  replace R2 := hid (R2.out.up hb)
  replace S2 := hid (S2.out.up hb)
  replace R6 := hid (R6.out.up hb)
  replace S6 := hid (S6.out.up hb)
  replace A1 := hid (stayB A1.out hb)
  clear hb CK b10 b11 b50 b51
  obtain ⟨b10, b11⟩ := X4.out.cells
  obtain ⟨b50, b51⟩ := X8.out.cells
  have CK := hid (sameMesh_any X4.out.2.1 X4.out.2.2 X8.out.2.1 X8.out.2.2)
  have e1 : n4 = n8 := HN4.out.trans HN8.out.symm
  have e2 : np4 = np8 := HP4.out.trans HP8.out.symm
  have hq : meshB n4 n8 (saveB n b nd of len lp Q) (saveB n b nd of len lp Q) np4 np8 (saveP n np P nd of len D) (saveP n np P nd of len D) = true := by rw [e1, e2]; exact meshB_self _ _ _ _
  rw [hq] at CK
  unfold meshV at CK
  clear e1 e2 hq
  go_wp2_with fail
  refine Calls.mono CK.out ?_
  rintro e y5 ⟨rfl, hb⟩
  have HB5 := hid (HB.out.trans (hb.mono HB.out.size))
  clear hb CK b10 b11 b50 b51
  go_wp2
  go_ret
  exact ⟨rfl, HB5.out⟩

end Go.Proofs.YtcpgojhacfckhaeGreat

namespace Go.Proofs.YtcpgojhacfckhaeGreat

open Go.RowKit CurveMath
set_option linter.unusedVariables false

def wX : Nat → Int := fun i => [(2 : Int), 2, 2, 2, 2].getD i 0
def wD : Nat → Int := fun i => [(5 : Int), 7, 9].getD i 0
def w0 : Nat → Int := fun _ => 0
def wB : Bk := saveB 0 noB 2 4 3 0 w0
def wP (t0 : Bool) (x : Int) : Ps := ⟨fun k => if k = 0 then t0 else true, fun _ => 2, fun k => if k < 4 then 1 else 0, fun k => ⟨fun _ => 0, fun _ => (k : Int), fun _ => 2, fun _ r => if k = 1 ∧ r = 0 then x else ([[(5 : Int), 9], [7, 0], [9, 22], [11, 13]].getD k []).getD r 0⟩⟩

theorem w_new : newE 5 wX = 0 := by decide +kernel
theorem w_save : saveE 0 noB 5 (freshP wX) 2 4 3 wD 0 w0 = 0 := by decide +kernel
theorem w_for : forL (freshP wX) 0 5 4 = [0, 1, 2, 3] := by decide +kernel
theorem w_shv : ∀ k, k < 4 → ∀ r, r < 2 → shv 2 3 wD k r = ([[(5 : Int), 9], [7, 0], [9, 22], [11, 13]].getD k []).getD r 0 := by decide +kernel
theorem w_ok : peersE 1 wB 5 (wP false 7) = 0 ∧ peersE 1 wB 5 (wP false 8) = 0 := by decide +kernel
theorem w_there : thereL (wP false 7) 0 5 = [(1, 0), (2, 0), (3, 0)] ∧ thereL (wP false 8) 0 5 = [(1, 0), (2, 0), (3, 0)] := by decide +kernel
theorem w_e7 : rsE 1 wB 5 (wP false 7) 0 = 0 := by decide +kernel
theorem w_e8 : rsE 1 wB 5 (wP false 8) 0 = 0 := by decide +kernel
theorem w_d7 : eqB 3 3 (rsD wB 5 (wP false 7) 0) wD = true := by decide +kernel
theorem w_none : rsE 1 wB 5 (wP false 7) 1 = 4 := by decide +kernel
theorem w_mend : mendE 1 wB 5 (wP false 7) 0 = 0 := by decide +kernel
theorem w_m4 : (mendP wB 5 (wP false 7) 0).m 4 = 1 ∧ ((mendP wB 5 (wP false 7) 0).t 4).N 0 = 0 := by decide +kernel
theorem w_mok : peersE 1 wB 5 (mendP wB 5 (wP false 7) 0) = 0 := by decide +kernel
theorem w_b7 : (rsB 1 wB 5 (wP false 7) 0).length = 0 := by decide +kernel
theorem w_b8 : (rsB 1 wB 5 (wP false 8) 0).length = 1 := by decide +kernel

end Go.Proofs.YtcpgojhacfckhaeGreat
