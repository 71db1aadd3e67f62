/- Several texts of one proof, in their order. -/
import Derived.Test.YtdhefajaekackaaKnSum16
import Derived.Test.YtdhefajaekackaaKinSaysPart0
import Derived.Test.YtdhefajaekackaaKinSaysPart1

/- Chapter 6's answers, held against the reference's: the law's walk. -/
namespace Go.Proofs.Ytdhefajaekackaa

open Go.RowKit
set_option linter.unusedVariables false

set_option maxHeartbeats 8000000 in
set_option maxRecDepth 10000 in
theorem kinSays_of (hO : KinOwes) (vs : Value) (n : Nat) (PV : Nat → Value) (b : Bk) (i j : Int) (w : World) (hv : VeSl w w.heap.size vs n PV b) :
    Calls Try.prog 5 #[bookV vs, .int .i64 i, .int .i64 j] w fun e w' => e = .returned (.bool true) ∧ Below w.heap.size w w' := by
  have HV := hid hv
  have HJ := hid (fun u => joined_any hO u)
  obtain ⟨ad, cap, rfl, ⟨hcap, _⟩, _⟩ := hv
  have hb0 := below_alloc w (.cells #[.slice ad n cap] 24)
  have k1 := heap_alloc_new w (.cells #[.slice ad n cap] 24)
  obtain ⟨U, hU⟩ : ∃ U, w.alloc (.cells #[.slice ad n cap] 24) = U := ⟨_, rfl⟩
  rw [hU] at hb0 k1
  have B0 := hid hb0
  have K1 := hid k1
  have c1 := cell_at (i := 0) k1 rfl
  obtain ⟨ke, hke⟩ : ∃ ke, kinE n b i j = ke := ⟨_, rfl⟩
  obtain ⟨l, hl⟩ : ∃ l, (if ke = 0 then comL b n i.toNat j.toNat else []) = l := ⟨_, rfl⟩
  obtain ⟨ab, hab⟩ : ∃ ab, (if ke = 0 then apB b i.toNat j.toNat else false) = ab := ⟨_, rfl⟩
  obtain ⟨c, hc⟩ : ∃ c, bookE n b = c := ⟨_, rfl⟩
  have CC : Hid (∀ u, Below w.heap.size w u → Calls Try.prog 29 #[.agg #[.slice ad n cap], .int .i64 i, .int .i64 j] u (LiPost u l ke)) := fun u hb => by
    have h := hO.common _ n PV b i j u (HV.out.up hb)
    rw [hke, hl] at h
    exact h
  have CA : Hid (∀ u, Below w.heap.size w u → Calls Try.prog 30 #[.agg #[.slice ad n cap], .int .i64 i, .int .i64 j] u fun e u' => e = .returned (.tuple #[.bool ab, .int .i64 ke]) ∧ Below u.heap.size u u') := fun u hb => by
    have h := hO.apart _ n PV b i j u (HV.out.up hb)
    rw [hke, hab] at h
    exact h
  have CK : Hid (∀ u, Below w.heap.size w u → Calls Try.prog 16 #[.agg #[.slice ad n cap]] u fun e u' => e = .returned (.int .i64 c) ∧ Below u.heap.size u u') := fun u hb => by
    have h := checkBook_any _ n PV b u (HV.out.up hb)
    rw [hc] at h
    exact h
  have hkq := kinE_eq n b i j
  rw [hke, hc] at hkq
  have HKq := hid hkq
  have HL := hid hl
  have HAb := hid hab
  have HC := hid hc
  clear hb0 k1 hke hl hab hc hkq hO
  unfold bookV
  go_enter Try.func5, Try.ntmps5
  go_wp2_with fail
  refine Calls.mono (CC.out U B0.out) ?_
  rintro e u1 ⟨hb1, vl, rfl, hl⟩
  have B1 := hid (B0.out.trans (hb1.mono B0.out.size))
  have K1a := hid (keep K1.out hb1)
  have HLl := hid hl
  obtain ⟨al, cl, rfl, _, _⟩ := hl
  have c1 := cell_at (i := 0) K1a.out rfl
  clear hb1 B0 K1 CC
  go_wp2_with fail
  refine Calls.mono (CA.out u1 B1.out) ?_
  rintro e u2 ⟨rfl, hb2⟩
  have B2 := hid (B1.out.trans (hb2.mono B1.out.size))
  have K1b := hid (keep K1a.out hb2)
  have HL2 := hid (HLl.out.up hb2)
  have c1 := cell_at (i := 0) K1b.out rfl
  clear hb2 B1 K1a CA HLl
  go_wp2_with fail
  refine Calls.mono (CK.out u2 B2.out) ?_
  rintro e u3 ⟨rfl, hb3⟩
  have B3 := hid (B2.out.trans (hb3.mono B2.out.size))
  have K1c := hid (keep K1b.out hb3)
  have HL3 := hid (HL2.out.up hb3)
  have c1 := cell_at (i := 0) K1c.out rfl
  clear hb3 B2 K1b CK HL2
  have hkq := HKq.out
  by_cases hc0 : c = 0
  · subst hc0
    rw [if_pos rfl] at hkq
    have HR := hid (right_of HC.out)
    have hn12 : n ≤ 12 := HR.out.le
    by_cases hi0 : i < 0
    · obtain rfl : (4 : Int) = ke := by rw [hkq, if_neg (by omega)]
      obtain rfl : [] = l := by rw [← HL.out, if_neg (by decide)]
      obtain rfl : false = ab := by rw [← HAb.out, if_neg (by decide)]
      clear hkq HKq
      go_wp2_with fail
      refine Calls.mono (HJ.out u3) ?_
      rintro e u4 ⟨rfl, hb4⟩
      have B4 := hid (B3.out.trans (hb4.mono B3.out.size))
      clear hb4
      go_wp2_with fail
      refine Calls.mono (HJ.out u4) ?_
      rintro e u5 ⟨rfl, hb5⟩
      have B5 := hid (B4.out.trans (hb5.mono B4.out.size))
      clear hb5
      go_wp2
      go_ret
      exact ⟨rfl, B5.out⟩
    by_cases hin : (n : Int) ≤ i
    · obtain rfl : (4 : Int) = ke := by rw [hkq, if_neg (by omega)]
      obtain rfl : [] = l := by rw [← HL.out, if_neg (by decide)]
      obtain rfl : false = ab := by rw [← HAb.out, if_neg (by decide)]
      clear hkq HKq
      go_wp2_with fail
      refine Calls.mono (HJ.out u3) ?_
      rintro e u4 ⟨rfl, hb4⟩
      have B4 := hid (B3.out.trans (hb4.mono B3.out.size))
      clear hb4
      go_wp2_with fail
      refine Calls.mono (HJ.out u4) ?_
      rintro e u5 ⟨rfl, hb5⟩
      have B5 := hid (B4.out.trans (hb5.mono B4.out.size))
      clear hb5
      go_wp2
      go_ret
      exact ⟨rfl, B5.out⟩
    by_cases hj0 : j < 0
    · obtain rfl : (4 : Int) = ke := by rw [hkq, if_neg (by omega)]
      obtain rfl : [] = l := by rw [← HL.out, if_neg (by decide)]
      obtain rfl : false = ab := by rw [← HAb.out, if_neg (by decide)]
      clear hkq HKq
      go_wp2_with fail
      refine Calls.mono (HJ.out u3) ?_
      rintro e u4 ⟨rfl, hb4⟩
      have B4 := hid (B3.out.trans (hb4.mono B3.out.size))
      clear hb4
      go_wp2_with fail
      refine Calls.mono (HJ.out u4) ?_
      rintro e u5 ⟨rfl, hb5⟩
      have B5 := hid (B4.out.trans (hb5.mono B4.out.size))
      clear hb5
      go_wp2
      go_ret
      exact ⟨rfl, B5.out⟩
    by_cases hjn : (n : Int) ≤ j
    · obtain rfl : (4 : Int) = ke := by rw [hkq, if_neg (by omega)]
      obtain rfl : [] = l := by rw [← HL.out, if_neg (by decide)]
      obtain rfl : false = ab := by rw [← HAb.out, if_neg (by decide)]
      clear hkq HKq
      go_wp2_with fail
      refine Calls.mono (HJ.out u3) ?_
      rintro e u4 ⟨rfl, hb4⟩
      have B4 := hid (B3.out.trans (hb4.mono B3.out.size))
      clear hb4
      go_wp2_with fail
      refine Calls.mono (HJ.out u4) ?_
      rintro e u5 ⟨rfl, hb5⟩
      have B5 := hid (B4.out.trans (hb5.mono B4.out.size))
      clear hb5
      go_wp2
      go_ret
      exact ⟨rfl, B5.out⟩
    obtain rfl : (0 : Int) = ke := by rw [hkq, if_pos (by omega)]
    obtain rfl : comL b n i.toNat j.toNat = l := by rw [← HL.out, if_pos rfl]
    obtain rfl : apB b i.toNat j.toNat = ab := by rw [← HAb.out, if_pos rfl]
    obtain ⟨p, rfl⟩ : ∃ p : Nat, i = p := ⟨i.toNat, by omega⟩
    obtain ⟨q, rfl⟩ : ∃ q : Nat, j = q := ⟨j.toNat, by omega⟩
    rw [Int.toNat_natCast, Int.toNat_natCast] at *
    have hpn : p < n := by omega
    have hqn : q < n := by omega
    have hll : (comL b n p q).length ≤ n := pickL_len _ _
    have CCo : Hid (∀ u, Below w.heap.size w u → Calls Try.prog 32 #[.agg #[.slice ad n cap], .int .i64 (p : Int), .int .i64 (q : Int)] u fun e w' => Below u.heap.size u w' ∧ ∃ vo, e = .returned vo ∧ OwnL u w' vo (comL b n p q)) := fun u hb => commonOf_any n _ PV b HR.out.elder hn12 p q hpn hqn u (HV.out.up hb)
    have CF : Hid (∀ (x y : Nat) (u : World), x < n → y < n → Below w.heap.size w u → Calls Try.prog 33 #[.agg #[.slice ad n cap], .int .i64 (x : Int), .int .i64 (y : Int)] u fun e w'' => e = .returned (.bool (fR b x y)) ∧ Below u.heap.size u w'') := fun x y u hx hy hb => from_any n _ PV b HR.out.elder hn12 (x + 1) x y u (Nat.lt_succ_self _) hx (by omega) (HV.out.up hb)
    have hap : apB b p q = (!fR b p q && !fR b q p) := rfl
    generalize apB b p q = ab at *
    generalize comL b n p q = l at *
    have HAp := hid hap
    have hnp : decide (n ≤ p) = false := decide_eq_false (by omega)
    have hnp2 : decide ((n : Int) ≤ (p : Int)) = false := decide_eq_false (by omega)
    have hnq : decide (n ≤ q) = false := decide_eq_false (by omega)
    have hnq2 : decide ((n : Int) ≤ (q : Int)) = false := decide_eq_false (by omega)
    have hp0 : decide ((p : Int) < 0) = false := decide_eq_false (by omega)
    have hq0 : decide ((q : Int) < 0) = false := decide_eq_false (by omega)
    clear hkq HKq hap hi0 hin hj0 hjn
    go_wp2_with fail
    refine Calls.mono (HJ.out u3) ?_
    rintro e u4 ⟨rfl, hb4⟩
    have B4 := hid (B3.out.trans (hb4.mono B3.out.size))
    have K1d := hid (keep K1c.out hb4)
    have HL4 := hid (HL3.out.up hb4)
    have c1 := cell_at (i := 0) K1d.out rfl
    clear hb4 B3 K1c HL3
    go_wp2_with fail
    refine Calls.mono (CCo.out u4 B4.out) ?_
    rintro e u5 ⟨hb5, vo, rfl, ho⟩
    have B5 := hid (B4.out.trans (hb5.mono B4.out.size))
    have K1e := hid (keep K1d.out hb5)
    have HEq := hid (equal_isl (HL4.out.up hb5) (ho.isl (by omega)))
    rw [same_list] at HEq
    obtain ⟨ao, co, hvo⟩ : ∃ ao co, vo = .slice ao l.length co := ho.ownI.shape
    subst hvo
    clear hb5 ho B4 K1d HL4 CCo c1
    go_wp2_with fail
    refine Calls.mono HEq.out ?_
    rintro e u6 ⟨rfl, q6, hq6⟩
    have hb6 : Below u5.heap.size u5 u6 := by rw [hq6]; exact drawn_below _ _
    have B6 := hid (B5.out.trans (hb6.mono B5.out.size))
    have K1f := hid (keep K1e.out hb6)
    have c1 := cell_at (i := 0) K1f.out rfl
    have C1 := hid (CF.out p q u6 hpn hqn B6.out)
    clear hb6 hq6 HEq B5 K1e
    cases hf : fR b p q with
    | true =>
      obtain rfl : false = ab := by rw [HAp.out, hf]; rfl
      rw [hf] at C1
      clear hf HAp
      go_wp2_with fail
      refine Calls.mono C1.out ?_
      rintro e u7 ⟨rfl, hb7⟩
      have B7 := hid (B6.out.trans (hb7.mono B6.out.size))
      clear hb7 C1
      go_wp2
      go_ret
      exact ⟨rfl, B7.out⟩
    | false =>
      rw [hf] at C1
      go_wp2_with fail
      refine Calls.mono C1.out ?_
      rintro e u7 ⟨rfl, hb7⟩
      have B7 := hid (B6.out.trans (hb7.mono B6.out.size))
      have K1g := hid (keep K1f.out hb7)
      have c1 := cell_at (i := 0) K1g.out rfl
      have C2 := hid (CF.out q p u7 hqn hpn B7.out)
      clear hb7 C1 B6
      have hab : ab = !fR b q p := by rw [HAp.out, hf]; rfl
      obtain ⟨fq, hfq⟩ : ∃ fq, fR b q p = fq := ⟨_, rfl⟩
      rw [hfq] at C2 hab
      subst hab
      clear hf HAp hfq
      cases fq with
      | true =>
        go_wp2_with fail
        refine Calls.mono C2.out ?_
        rintro e u8 ⟨rfl, hb8⟩
        have B8 := hid (B7.out.trans (hb8.mono B7.out.size))
        clear hb8 C2
        go_wp2
        go_ret
        exact ⟨rfl, B8.out⟩
      | false =>
        go_wp2_with fail
        refine Calls.mono C2.out ?_
        rintro e u8 ⟨rfl, hb8⟩
        have B8 := hid (B7.out.trans (hb8.mono B7.out.size))
        clear hb8 C2
        go_wp2
        go_ret
        exact ⟨rfl, B8.out⟩
  · rw [if_neg hc0] at hkq
    obtain rfl : ke = c := hkq
    obtain rfl : [] = l := by rw [← HL.out, if_neg hc0]
    obtain rfl : false = ab := by rw [← HAb.out, if_neg hc0]
    have hcb : (ke != 0) = true := by simpa using hc0
    have hcc : (ke == 0) = false := by simpa using hc0
    clear HKq hc0
    go_wp2_with fail
    refine Calls.mono (HJ.out u3) ?_
    rintro e u4 ⟨rfl, hb4⟩
    have B4 := hid (B3.out.trans (hb4.mono B3.out.size))
    clear hb4
    go_wp2_with fail
    refine Calls.mono (HJ.out u4) ?_
    rintro e u5 ⟨rfl, hb5⟩
    have B5 := hid (B4.out.trans (hb5.mono B4.out.size))
    clear hb5
    go_wp2
    go_ret
    exact ⟨rfl, B5.out⟩

end Go.Proofs.Ytdhefajaekackaa
