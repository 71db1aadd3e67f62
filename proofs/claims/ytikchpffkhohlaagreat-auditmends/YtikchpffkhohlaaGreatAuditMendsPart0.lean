/- Several texts of one proof, in their order. -/
import Derived.Test.YtikchpffkhohlaaGreatASum15

namespace Go.Proofs.YtikchpffkhohlaaGreat

open Go.RowKit CurveMath
set_option linter.unusedVariables false

set_option maxHeartbeats 4000000 in
set_option maxRecDepth 10000 in
theorem auditMends_of (hO : MeshCore) (hA : AuditOwes) (vb : Value) (n : Nat) (PV : Nat → Value) (b : Bk) (vl : Value) (np : Nat) (KV : Nat → Value) (UV : Nat → Nat → Value) (P : Ps) (k : Int) (w : World) (hv : VeSl w w.heap.size vb n PV b) (hl : PsSl w w.heap.size vl np KV UV P) :
    Calls Tryz.prog 9 #[meshV vb vl, .int .i64 k] w fun e w' => e = .returned (.bool true) ∧ Below w.heap.size w w' := by
  have HAu := hid hA
  have HJ : Hid (∀ u : World, _) := fun u => judged_any hO hA u
  have HO := hid hO
  obtain ⟨ab, cb, rfl, _, _⟩ := id hv
  obtain ⟨al, cl, rfl, _, _⟩ := id hl
  have hb0 := below_alloc w (.cells #[.slice ab n cb, .slice al np cl] 27)
  have hx := MsAt.box hv hl
  obtain ⟨U, hU⟩ : ∃ u, w.alloc (.cells #[.slice ab n cb, .slice al np cl] 27) = u := ⟨_, rfl⟩
  rw [hU] at hb0 hx
  have HB := hid hb0
  have A0 : Hid (MsAt U w.heap.size ab n cb PV b al np cl KV UV P) := hx
  clear hb0 hx hO hA hv hl
  obtain ⟨c0, c1⟩ := A0.out.cells
  have CK := hid (HO.out.repair _ n PV b _ np KV UV P k U A0.out.2.1 A0.out.2.2)
  unfold meshV at CK
  unfold meshV
  go_enter Tryz.func9, Tryz.ntmps9
  go_wp2_with fail
  refine Calls.mono CK.out ?_
  rintro e u1 hM
  obtain ⟨hb, ab1, n1, cb1, PV1, al1, np1, cl1, KV1, UV1, rfl, hn1, hp1, hv9, hl9⟩ := mesh_open hM.old
  obtain ⟨er, her⟩ : ∃ c, mendE n b np P k = c := ⟨_, rfl⟩
  rw [her] at hn1 hp1
  rw [her]
  have HEr := hid her
  have hb2 := below_alloc u1 (.cells #[.slice ab1 n1 cb1, .slice al1 np1 cl1] 27)
  have hx := MsAt.box hv9 hl9
  obtain ⟨V1, hV1⟩ : ∃ v, World.alloc u1 (.cells #[.slice ab1 n1 cb1, .slice al1 np1 cl1] 27) = v := ⟨_, rfl⟩
  rw [hV1] at hb2 hx
  replace hb := hb.trans (hb2.mono hb.size)
  replace HB := hid (HB.out.trans (hb.mono HB.out.size))
  obtain ⟨gx, hgx⟩ : ∃ g, u1.heap.size = g := ⟨_, rfl⟩
  rw [hgx] at hx
  have X1 := hid hx
  have HN1 := hid hn1
  have HP1 := hid hp1
  clear hM hb hb2 hx CK hv9 hl9 her c0 c1 hU hn1 hp1 A0
  go_wp2_with fail
  refine Calls.mono (HJ.out V1) ?_
  rintro e u2 ⟨rfl, hb⟩
  replace HB := hid (HB.out.trans (hb.mono HB.out.size))
  replace X1 := hid (X1.out.up hb)
  clear hb hV1
  by_cases hc0 : er = 0
  · subst hc0
    obtain rfl : n1 = n := by have := HN1.out; rw [if_pos rfl] at this; exact this
    obtain rfl : np1 = np := by have := HP1.out; rw [if_pos rfl] at this; exact this
    obtain ⟨h1, h2, h3, h4⟩ := mend_blame HEr.out
    have H1 := hid h1
    have H2 := hid h2
    have H3 := hid h3
    have H4 := hid h4
    clear h1 h2 h3 h4
    obtain ⟨c0, c1⟩ := X1.out.cells
    have CK := hid (HAu.out.blamed _ n1 PV1 b _ np1 KV1 UV1 (mendP b np1 P k) k u2 X1.out.2.1 X1.out.2.2)
    unfold blameV at CK
    rw [H1.out, if_pos rfl, H3.out] at CK
    unfold meshV at CK
    go_wp2_with fail
    refine Calls.mono CK.out ?_
    rintro e u3 ⟨hb, vo, rfl, hlo⟩
    replace HB := hid (HB.out.trans (hb.mono HB.out.size))
    replace X1 := hid (X1.out.up hb)
    obtain ⟨ao, co, rfl, _, _⟩ := hlo
    clear hb CK c0 c1
    obtain ⟨c0, c1⟩ := X1.out.cells
    have CK := hid (HAu.out.lacking _ n1 PV1 b _ np1 KV1 UV1 (mendP b np1 P k) k u3 X1.out.2.1 X1.out.2.2)
    unfold lackV at CK
    rw [H2.out, if_pos rfl, H4.out] at CK
    unfold meshV at CK
    go_wp2_with fail
    refine Calls.mono CK.out ?_
    rintro e u4 ⟨rfl, hb⟩
    replace HB := hid (HB.out.trans (hb.mono HB.out.size))
    clear hb CK c0 c1
    go_wp2
    go_ret
    exact ⟨rfl, HB.out⟩
  · have hcb : (er != 0) = true := by simpa using hc0
    clear hc0
    go_wp2_with fail
    refine Calls.mono (HJ.out u2) ?_
    rintro e u4 ⟨rfl, hb⟩
    replace HB := hid (HB.out.trans (hb.mono HB.out.size))
    clear hb
    go_wp2
    go_ret
    exact ⟨rfl, HB.out⟩

end Go.Proofs.YtikchpffkhohlaaGreat
