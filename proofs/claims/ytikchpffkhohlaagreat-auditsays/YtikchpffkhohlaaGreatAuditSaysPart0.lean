/- Several texts of one proof, in their order. -/
import Derived.Test.YtikchpffkhohlaaGreatASum22

namespace Go.Proofs.YtikchpffkhohlaaGreat

open Go.RowKit CurveMath
set_option linter.unusedVariables false

set_option maxHeartbeats 4000000 in
set_option maxRecDepth 10000 in
theorem auditSays_of (hO : MeshCore) (hA : AuditOwes) (vb : Value) (n : Nat) (PV : Nat → Value) (b : Bk) (vl : Value) (np : Nat) (KV : Nat → Value) (UV : Nat → Nat → Value) (P : Ps) (k : Int) (w : World) (hv : VeSl w w.heap.size vb n PV b) (hl : PsSl w w.heap.size vl np KV UV P) :
    Calls Tryz.prog 7 #[meshV vb vl, .int .i64 k] w fun e w' => e = .returned (.bool true) ∧ Below w.heap.size w w' := by
  have HAu := hid hA
  have HJ : Hid (∀ u : World, _) := fun u => judged_any hO hA u
  obtain ⟨ab, cb, rfl, _, _⟩ := id hv
  obtain ⟨al, cl, rfl, _, _⟩ := id hl
  have hb0 := below_alloc w (.cells #[.slice ab n cb, .slice al np cl] 27)
  have hx := MsAt.box hv hl
  obtain ⟨U, hU⟩ : ∃ u, w.alloc (.cells #[.slice ab n cb, .slice al np cl] 27) = u := ⟨_, rfl⟩
  rw [hU] at hb0 hx
  have HB := hid hb0
  have A0 : Hid (MsAt U w.heap.size ab n cb PV b al np cl KV UV P) := hx
  obtain ⟨L, hL⟩ : ∃ l, blameV n b np P k = l := ⟨_, rfl⟩
  obtain ⟨er, her⟩ : ∃ l, rsE n b np P k = l := ⟨_, rfl⟩
  obtain ⟨la, hla⟩ : ∃ l, lackV n b np P k = l := ⟨_, rfl⟩
  obtain ⟨ev, hev⟩ : ∃ l, verM n b np P k = l := ⟨_, rfl⟩
  have HL := hid hL
  have HEr := hid her
  have HLa := hid hla
  have HEv := hid hev
  clear hb0 hx hO hA hv hl hL her hla hev
  obtain ⟨c0, c1⟩ := A0.out.cells
  have CK := hid (HAu.out.blamed _ n PV b _ np KV UV P k U A0.out.2.1 A0.out.2.2)
  rw [HL.out, HEr.out] at CK
  unfold meshV at CK
  unfold meshV
  go_enter Tryz.func7, Tryz.ntmps7
  go_wp2_with fail
  refine Calls.mono CK.out ?_
  rintro e u1 ⟨hb, v1, rfl, hl1⟩
  replace HB := hid (HB.out.trans (hb.mono HB.out.size))
  replace A0 := hid (A0.out.up hb)
  have R1 := hid hl1
  obtain ⟨a1, s1, rfl, _, _⟩ := hl1
  clear hb CK c0 c1 hU
  obtain ⟨c0, c1⟩ := A0.out.cells
  have CK := hid (HAu.out.lacking _ n PV b _ np KV UV P k u1 A0.out.2.1 A0.out.2.2)
  rw [HLa.out, HEv.out] at CK
  unfold meshV at CK
  go_wp2_with fail
  refine Calls.mono CK.out ?_
  rintro e u2 ⟨rfl, hb⟩
  replace HB := hid (HB.out.trans (hb.mono HB.out.size))
  replace A0 := hid (A0.out.up hb)
  replace R1 := hid (R1.out.up hb)
  clear hb CK c0 c1
  obtain ⟨c0, c1⟩ := A0.out.cells
  have CK := hid (blamedIn_any _ n PV b _ np KV UV P k u2 A0.out.2.1 A0.out.2.2)
  rw [HL.out, HEr.out] at CK
  unfold meshV at CK
  go_wp2_with fail
  refine Calls.mono CK.out ?_
  rintro e u3 ⟨hb, v3, rfl, hl3⟩
  replace HB := hid (HB.out.trans (hb.mono HB.out.size))
  replace A0 := hid (A0.out.up hb)
  replace R1 := hid (R1.out.up hb)
  have R3 := hid hl3
  obtain ⟨a3, s3, rfl, _, _⟩ := hl3
  clear hb CK c0 c1
  obtain ⟨c0, c1⟩ := A0.out.cells
  have CK := hid (lackingIn_any _ n PV b _ np KV UV P k u3 A0.out.2.1 A0.out.2.2)
  rw [HLa.out, HEv.out] at CK
  unfold meshV at CK
  go_wp2_with fail
  refine Calls.mono CK.out ?_
  rintro e u4 ⟨rfl, hb⟩
  replace HB := hid (HB.out.trans (hb.mono HB.out.size))
  replace R1 := hid (R1.out.up hb)
  replace R3 := hid (R3.out.up hb)
  clear hb CK c0 c1 A0
  go_wp2_with fail
  refine Calls.mono (HJ.out u4) ?_
  rintro e u5 ⟨rfl, hb⟩
  replace HB := hid (HB.out.trans (hb.mono HB.out.size))
  replace R1 := hid (R1.out.up hb)
  replace R3 := hid (R3.out.up hb)
  clear hb
  have CE := hid (equal_isl R1.out R3.out)
  rw [show eqB L.length L.length (fun j => L.getD j 0) (fun j => L.getD j 0) = true from decide_eq_true ⟨rfl, fun _ _ => rfl⟩] at CE
  go_wp2_with fail
  refine Calls.mono CE.out ?_
  rintro e y1 ⟨rfl, j1, hy1⟩
  have hb : Below u5.heap.size u5 y1 := by rw [hy1]; exact drewN_up _ _
  replace HB := hid (HB.out.trans (hb.mono HB.out.size))
  clear hb hy1 CE R1 R3
  go_wp2
  go_ret
  exact ⟨rfl, HB.out⟩

end Go.Proofs.YtikchpffkhohlaaGreat
