/- Several texts of one proof, in their order. -/
import Derived.Test.YtdhefajaekackaaPlSum11

/- Chapter 8's answers, held against the reference's: the law's walk. -/
namespace Go.Proofs.Ytdhefajaekackaa

open Go.RowKit
set_option linter.unusedVariables false

theorem eqL_refl (l : List Int) : eqB l.length l.length (fun j => l.getD j 0) (fun j => l.getD j 0) = true := decide_eq_true ⟨rfl, fun _ _ => rfl⟩

set_option maxHeartbeats 8000000 in
set_option maxRecDepth 10000 in
theorem placeSays_of (hO : PlaceOwes) (vb : Value) (n : Nat) (PV : Nat → Value) (b : Bk) (vl : Value) (np : Nat) (KV : Nat → Value) (UV : Nat → Nat → Value) (P : Ps) (ver many : Int) (w : World) (hv : VeSl w w.heap.size vb n PV b) (hl : PsSl w w.heap.size vl np KV UV P) :
    Calls Try.prog 10 #[bookV vb, vl, .int .i64 ver, .int .i64 many] w fun e w' => e = .returned (.bool true) ∧ Below w.heap.size w w' := by
  have HO := hid hO
  have HL0 := hid hl
  have hbx := below_alloc w (.cells #[vb] 24)
  have k0 := heap_alloc_new w (.cells #[vb] 24)
  have HV0 := hid hv
  obtain ⟨ad, cap, rfl, _, _⟩ := hv
  obtain ⟨al, cl, rfl, _, _⟩ := hl
  obtain ⟨U, hU⟩ : ∃ u, w.alloc (.cells #[.slice ad n cap] 24) = u := ⟨_, rfl⟩
  rw [hU] at hbx k0
  have HB := hid hbx
  have A0 : Hid (BkAt U w.heap.size ad n cap PV b) := ⟨k0, HV0.out.up hbx⟩
  have HL := hid (HL0.out.up hbx)
  obtain ⟨bad, hbad⟩ : ∃ c, peersE n b np P = c := ⟨_, rfl⟩
  have HBad := hid hbad
  have CK := hid (HO.out.who _ n PV b _ np KV UV P ver many U A0.out.2 HL.out)
  obtain ⟨er, her⟩ : ∃ c, forE n b P ver np many = c := ⟨_, rfl⟩
  obtain ⟨la, hla⟩ : ∃ c, (if peersE n b np P = 0 then forL P ver np many else []) = c := ⟨_, rfl⟩
  rw [her, hla] at CK
  unfold forE at her
  rw [hbad] at her hla
  have HEr := hid her
  have HLa := hid hla
  unfold bookV at CK
  clear hbx k0 hbad her hla HV0 HL0 hO
  have c0 := A0.out.cell
  unfold bookV
  go_enter Try.func10, Try.ntmps10
  go_wp2_with fail
  refine Calls.mono CK.out ?_
  rintro e u1 ⟨hb, va, rfl, ha⟩
  replace HB := hid (HB.out.trans (hb.mono HB.out.size))
  replace A0 := hid (A0.out.up hb)
  replace HL := hid (HL.out.up hb)
  have LA := hid ha
  obtain ⟨aa, ca, rfl, _, _⟩ := ha
  clear hb CK c0 hU
  have c0 := A0.out.cell
  have CK := hid (checkPeers_any _ n PV b _ np KV UV P u1 A0.out.2 HL.out)
  rw [HBad.out] at CK
  unfold bookV at CK
  go_wp2_with fail
  refine Calls.mono CK.out ?_
  rintro e u2 ⟨rfl, hb⟩
  replace HB := hid (HB.out.trans (hb.mono HB.out.size))
  replace A0 := hid (A0.out.up hb)
  replace HL := hid (HL.out.up hb)
  replace LA := hid (LA.out.up hb)
  clear hb CK c0
  go_wp2_with fail
  refine Calls.mono (chosen_any HO.out u2) ?_
  rintro e u3 ⟨rfl, hb⟩
  replace HB := hid (HB.out.trans (hb.mono HB.out.size))
  replace A0 := hid (A0.out.up hb)
  replace HL := hid (HL.out.up hb)
  replace LA := hid (LA.out.up hb)
  clear hb
  have c0 := A0.out.cell
  have CK := hid (HO.out.check _ n PV b _ np KV UV P u3 A0.out.2 HL.out)
  rw [HBad.out] at CK
  unfold bookV at CK
  go_wp2_with fail
  refine Calls.mono CK.out ?_
  rintro e u4 ⟨rfl, hb⟩
  replace HB := hid (HB.out.trans (hb.mono HB.out.size))
  replace HL := hid (HL.out.up hb)
  replace LA := hid (LA.out.up hb)
  clear hb CK c0 A0
  by_cases hc0 : bad = 0
  · subst hc0
    have HR := hid (rightP_of HBad.out)
    obtain rfl : forL P ver np many = la := by rw [← HLa.out, if_pos rfl]
    obtain rfl : manyE P ver np many = er := by rw [← HEr.out, if_pos rfl]
    have CK := hid (placesFor_any _ np KV UV P ver many u4 HR.out.le (fun k hk => HR.out.room hk) HL.out)
    obtain ⟨er, her⟩ : ∃ c, manyE P ver np many = c := ⟨_, rfl⟩
    rw [her] at CK ⊢
    clear her HEr HLa
    go_wp2_with fail
    refine Calls.mono CK.out ?_
    rintro e u5 ⟨hb, vA, rfl, hA⟩
    replace HB := hid (HB.out.trans (hb.mono HB.out.size))
    replace LA := hid (LA.out.up hb)
    have CE := hid (equal_isl LA.out hA)
    rw [eqL_refl] at CE
    obtain ⟨aA, cA, rfl, _, _⟩ := hA
    clear hb CK
    go_wp2_with fail
    refine Calls.mono CE.out ?_
    rintro e u6 ⟨rfl, q, hq⟩
    have hb : Below u5.heap.size u5 u6 := by rw [hq]; exact drewK_below _ _
    replace HB := hid (HB.out.trans (hb.mono HB.out.size))
    clear hb hq CE
    go_wp2
    go_ret
    exact ⟨rfl, HB.out⟩
  · have hcb : (bad != 0) = true := by simpa using hc0
    obtain rfl : [] = la := by rw [← HLa.out, if_neg hc0]
    obtain rfl : bad = er := by rw [← HEr.out, if_neg hc0]
    clear hc0
    go_wp2
    go_ret
    exact ⟨rfl, HB.out⟩

end Go.Proofs.Ytdhefajaekackaa
