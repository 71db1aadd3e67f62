/- Several texts of one proof, in their order. -/
import Derived.Test.YtikchpffkhohlaaGreatASum15
import Derived.Test.YtikchpffkhohlaaGreatASum21
import Derived.Test.YtikchpffkhohlaaGreatASum8
import Derived.Test.YtikchpffkhohlaaGreatASum2
import Derived.Deep.Strs
import Derived.Deep.Slices
import Derived.Test.YtikchpffkhohlaaGreatASum4
import Derived.Test.YtikchpffkhohlaaGreatASum6

namespace Go.Proofs.YtikchpffkhohlaaGreat

open Go.RowKit CurveMath
set_option linter.unusedVariables false

set_option maxHeartbeats 2000000 in
theorem lackingIn_any (vb : Value) (n : Nat) (PV : Nat → Value) (b : Bk) (vl : Value) (np : Nat) (KV : Nat → Value) (UV : Nat → Nat → Value) (P : Ps) (k : Int) (w : World) (hv : VeSl w w.heap.size vb n PV b) (hl : PsSl w w.heap.size vl np KV UV P) :
    Calls Tryz.prog 33 #[meshV vb vl, .int .i64 k] w fun e w' => e = .returned (.tuple #[.int .i64 (lackV n b np P k), .int .i64 (verM n b np P k)]) ∧ Below w.heap.size w w' := by
  have hb := below_alloc w (.cells #[vb, vl] 27)
  have CK := hid (version_any _ n PV b _ np KV UV P k _ (hv.up hb) (hl.up hb))
  have HB := hid hb
  have HK := hid (heap_alloc_new w (.cells #[vb, vl] 27))
  have HL := hid hl
  obtain ⟨ad, cap, rfl, _, hx⟩ := hv
  obtain ⟨al, cl, rfl, _, _⟩ := hl
  obtain ⟨c, hc⟩ : ∃ c, verM n b np P k = c := ⟨_, rfl⟩
  obtain ⟨lv, hlv⟩ : ∃ c, lackV n b np P k = c := ⟨_, rfl⟩
  rw [hc] at CK
  rw [hc, hlv]
  unfold lackV at hlv
  rw [hc] at hlv
  have HC := hid hc
  have HLv := hid hlv
  have HX := hid hx
  clear hb hc hx hlv
  unfold meshV at CK
  unfold meshV
  go_enter Tryz.func33, Tryz.ntmps33
  go_wp2_with fail
  refine Calls.mono CK.out ?_
  rintro e W ⟨rfl, hbW⟩
  have BW := hid (HB.out.trans (hbW.mono HB.out.size))
  obtain ⟨c0, c1⟩ := two_at (stayB HK.out hbW)
  clear hbW CK
  by_cases h0 : c = 0
  · subst h0
    obtain ⟨hR, hk0, hkn⟩ := verM_ok HC.out
    obtain ⟨q, rfl⟩ : ∃ q : Nat, k = q := ⟨k.toNat, by omega⟩
    have hqn : q < n := by omega
    have HR := hid hR
    have hpb := plan_bd hR hqn
    have hlv := HLv.out
    rw [if_pos rfl] at hlv
    unfold laN at hlv
    rw [Int.toNat_natCast] at hlv
    have hlen := thAll_len hR (q : Int) np (Nat.le_refl _)
    have h8 := hR.few
    rcases HX.out with h0 | ⟨bv, ov, rfl, hbv, hxv⟩
    · omega
    obtain ⟨_, v1, v2, v3, _⟩ := hxv q hqn
    have q2 : W.cell? ⟨bv, ov + q * 4 + 2, none⟩ = some (.int .i64 (b.of q)) := by rw [BW.out.cell hbv]; exact v2
    have hne : Nonempty (Of (Below W.heap.size W)) := ⟨⟨W, Below.refl _ _⟩⟩
    have F0 : ∀ u : Of (Below W.heap.size W), u.val.cell? ⟨w.heap.size, 0, none⟩ = some (.slice (some ⟨bv, ov, none⟩) n cap) := fun u => by rw [u.is.cell (cell_lt c0)]; exact c0
    have F1 : ∀ u : Of (Below W.heap.size W), u.val.cell? ⟨w.heap.size, 1, none⟩ = some (.slice al np cl) := fun u => by rw [u.is.cell (cell_lt c1)]; exact c1
    have F3 : ∀ u : Of (Below W.heap.size W), u.val.cell? ⟨bv, ov + q * 4 + 2, none⟩ = some (.int .i64 (b.of q)) := fun u => by rw [u.is.cell (cell_lt q2)]; exact q2
    have CT : Hid (∀ u, Below W.heap.size W u → Calls Tryz.prog 45 #[meshV (.slice (some ⟨bv, ov, none⟩) n cap) (.slice al np cl), .int .i64 (q : Int)] u fun e w' => Below u.heap.size u w' ∧ ∃ vo, e = .returned vo ∧ ShSl w' w'.heap.size vo (thereL P q np).length (nL P (thereL P q np)) (vaL UV (thereL P q np)) (lL P (thereL P q np)) (xL P (thereL P q np))) := fun u hbu =>
      there_any _ _ np KV UV P q u ⟨_, _, _, rfl⟩ (HL.out.up (BW.out.trans (hbu.mono BW.out.size))) HR.out.few HR.out.small HR.out.num
    unfold meshV at CT
    have hki : (q : Int) < (n : Int) := by omega
    obtain ⟨z, hz⟩ : ∃ z, (thereL P (q : Int) np).length = z := ⟨_, rfl⟩
    have hz8 : z ≤ 8 := by unfold thereL at hz; omega
    rw [hz] at hlv
    obtain ⟨o, ho⟩ : ∃ o, b.of q = o := ⟨_, rfl⟩
    rw [ho] at F3 hlv hpb
    have ho8 := hpb.2.1
    have hnd := hpb.1
    have HLv2 := hid hlv
    have HZ := hid hz
    clear hR hxv v1 v2 v3 q2 c0 c1 hlv hlen hz hpb ho
    go_wp2_with fail
    have HD1 : Hid (Below W.heap.size W W.drew) := drew_below W
    refine region_mixed (Below W.heap.size W) [([0, 1, 2, 3, 4, 5, 6, 7, 8, 9], 10)] [11, 12, 13, 14] (by kernel_rfl) (by kernel_rfl) HD1.out ?_
    refine mixO_cons (by simp only [pickO, List.getElem?_cons_zero, List.getElem?_cons_succ]; exact rfl) (by simp only [pickO, List.getElem?_cons_zero, List.getElem?_cons_succ]; exact rfl) ?_
    repeat (go_big_quiet_step (fail))
    refine wpQuiet_nil ?_
    intro K hK
    go_wp2_with fail
    refine Calls.mono (CT.out _ HD1.out) ?_
    rintro e W5 ⟨hb5, vo, rfl, hsh⟩
    have H5 : Hid (Below W.heap.size W W5) := HD1.out.trans (hb5.mono HD1.out.size)
    obtain ⟨ao, co, rfl, _, _⟩ := hsh
    rw [HZ.out]
    clear hb5
    go_wp2
    refine ⟨rfl, hK _ _ H5.out ?_⟩
    clear hK K
    refine mixO_nil (by simp only [pickO, List.getElem?_cons_zero, List.getElem?_cons_succ]; exact rfl) ?_
    repeat (go_big_quiet_step (fail))
    refine wpQuiet_nil ?_
    clear F0 F1 F3 hne
    go_wp2
    go_ret2
    exact ⟨by rw [← HLv2.out]; rfl, BW.out.trans (H5.out.mono BW.out.size)⟩
  · have hcb : (c != 0) = true := by simpa using h0
    have hlv := HLv.out
    rw [if_neg h0] at hlv
    subst hlv
    clear h0
    go_wp2
    go_ret2
    exact ⟨rfl, BW.out⟩

def blI (P : Ps) (ver : Int) (R : Nat) (S : Nat → Nat → Int) (k i : Nat) : Bool := (P.th k && decide (0 ≤ fstAt (P.t k).V ver i 0)) && !goodK P ver R S k
def blR (P : Ps) (ver : Int) (R : Nat) (S : Nat → Nat → Int) (k i : Nat) : List Int := pickL (blB P ver R S) k ++ (if blI P ver R S k i = true then [(k : Int)] else [])

section

variable {P : Ps} {ver : Int} {R : Nat} {S : Nat → Nat → Int} {k i : Nat}

theorem blR_zero : blR P ver R S k 0 = pickL (blB P ver R S) k := by
  unfold blR blI
  simp [fstAt]

theorem blR_all : blR P ver R S k (P.m k) = pickL (blB P ver R S) (k + 1) := by
  rw [pickL_succ]
  rfl

theorem blR_not (h : (P.th k && decide ((P.t k).V i = ver)) = false) : blR P ver R S k (i + 1) = blR P ver R S k i := by
  have e := fstAt_succ (P.t k).V ver i 0
  rw [Nat.zero_add] at e
  have e2 : blI P ver R S k (i + 1) = blI P ver R S k i := by
    unfold blI
    cases ht : P.th k with
    | false => simp
    | true =>
      rw [ht, Bool.true_and] at h
      have hne : ¬ (P.t k).V i = ver := of_decide_eq_false h
      rw [e]
      by_cases c : 0 ≤ fstAt (P.t k).V ver i 0
      · rw [if_pos c]
      · rw [if_neg c, if_neg hne, decide_eq_false c]
        rfl
  unfold blR
  rw [e2]

theorem blR_is (hr : ∀ i j, i < j → j < P.m k → (P.t k).V i < (P.t k).V j) (hi : i < P.m k) (ht : P.th k = true) (hv : (P.t k).V i = ver) :
    hasK P ver k = true ∧ atK P ver k = i ∧ blR P ver R S k (i + 1) = blR P ver R S k i ++ (if goodK P ver R S k = true then [] else [(k : Int)]) := by
  have hx : 0 ≤ fstAt (P.t k).V ver (P.m k) 0 := (fstAt_neg _ _ _ 0).2 ⟨i, Nat.zero_le _, by omega, hv⟩
  obtain ⟨j, h1, _, h2, h3⟩ := fstAt_place _ _ _ _ hx
  have hji : j = i := by
    rcases Nat.lt_trichotomy j i with c | c | c
    · have := hr j i c hi; omega
    · exact c
    · have := hr i j c (by omega); omega
  subst hji
  have hno : ¬ 0 ≤ fstAt (P.t k).V ver j 0 := fun h => by
    obtain ⟨j2, _, g2, g3⟩ := (fstAt_neg _ _ _ 0).1 h
    have := hr j2 j (by omega) hi
    omega
  have e := fstAt_succ (P.t k).V ver j 0
  rw [Nat.zero_add, if_neg hno, if_pos hv] at e
  refine ⟨by unfold hasK; rw [ht, Bool.true_and, decide_eq_true hx], by unfold atK; rw [h1, Int.toNat_natCast], ?_⟩
  have b0 : blI P ver R S k j = false := by unfold blI; rw [decide_eq_false hno, Bool.and_false, Bool.false_and]
  have b1 : blI P ver R S k (j + 1) = !goodK P ver R S k := by unfold blI; rw [e, ht, decide_eq_true (by omega : (0 : Int) ≤ (j : Int)), Bool.true_and, Bool.true_and]
  unfold blR
  rw [b0, b1]
  cases goodK P ver R S k <;> simp

end

theorem blR_len (P : Ps) (ver : Int) (R : Nat) (S : Nat → Nat → Int) (k i : Nat) : (blR P ver R S k i).length ≤ k + 1 := by
  unfold blR
  have := pickL_len (blB P ver R S) k
  rw [List.length_append]
  split <;> simp <;> omega

theorem below_drew0 (w : World) : Below w.heap.size w w.drew := ⟨rfl, rfl, rfl, Nat.le_refl _, fun _ _ => rfl⟩

set_option maxHeartbeats 8000000 in
set_option maxRecDepth 10000 in
theorem blamedIn_any (vb : Value) (n : Nat) (PV : Nat → Value) (b : Bk) (vl : Value) (np : Nat) (KV : Nat → Value) (UV : Nat → Nat → Value) (P : Ps) (k : Int) (w : World) (hv : VeSl w w.heap.size vb n PV b) (hl : PsSl w w.heap.size vl np KV UV P) :
    Calls Tryz.prog 32 #[meshV vb vl, .int .i64 k] w (LiPost w (blameV n b np P k) (rsE n b np P k)) := by
  have hb0 := below_alloc w (.cells #[vb, vl] 27)
  have k1 := heap_alloc_new w (.cells #[vb, vl] 27)
  obtain ⟨W0, hW0⟩ : ∃ W, w.alloc (.cells #[vb, vl] 27) = W := ⟨_, rfl⟩
  rw [hW0] at hb0 k1
  have HV := hid hv
  have HL := hid hl
  obtain ⟨ad, cap0, rfl, _, hxv⟩ := hv
  obtain ⟨al, cl, rfl, _, _⟩ := hl
  have CR := hid (restored_any _ n PV b _ np KV UV P k W0 (HV.out.up hb0) (HL.out.up hb0))
  obtain ⟨c, hc⟩ : ∃ c, rsE n b np P k = c := ⟨_, rfl⟩
  obtain ⟨lv, hlv⟩ : ∃ c, blameV n b np P k = c := ⟨_, rfl⟩
  rw [hc, hlv]
  unfold blameV at hlv
  rw [hc] at hlv
  have HC := hid hc
  have HLv := hid hlv
  obtain ⟨m0, m1⟩ := two_at k1
  have B0 := hid hb0
  have K1 := hid k1
  have HXv := hid hxv
  obtain ⟨ii, hii, hzz0, hzz1, hzz2⟩ := info_parts Tryz.infoInt
  clear hb0 k1 hc hlv hxv
  unfold meshV at CR
  unfold meshV
  go_enter Tryz.func32, Tryz.ntmps32
  go_wp2_with fail
  refine Calls.mono CR.out ?_
  rintro e W ⟨hbW, vd, vbad, ld, rfl, hld, hvd, hbad⟩
  have B1 := hid (B0.out.trans (hbW.mono B0.out.size))
  have d1 := stayB K1.out hbW
  have D1 := hid d1
  have HVd := hid hvd
  obtain ⟨adt, cdt, rfl, _, _⟩ := hvd
  obtain ⟨abd, cbd, rfl, _, _⟩ := hbad
  rw [HC.out] at hld
  rw [HC.out]
  clear hbW m0 m1 CR hW0
  by_cases h0 : c = 0
  · subst h0
    rw [if_pos rfl] at hld
    have hlv := HLv.out
    rw [if_pos rfl] at hlv
    obtain ⟨hver, d, mo, sN, e1, e2, e3, hpl⟩ := rsE_ok HC.out
    obtain ⟨hR, hk0, hkn⟩ := verM_ok hver
    obtain ⟨q, rfl⟩ : ∃ q : Nat, k = q := ⟨k.toNat, by omega⟩
    rw [Int.toNat_natCast] at e1 e2 e3 hld
    have hqn : q < n := by omega
    have hki : (q : Int) < (n : Int) := by omega
    have hls : ld = sN := by rw [e3] at hld; omega
    subst hls
    have HR := hid hR
    have HPl := hid hpl
    have hps := planOk_spec hpl
    have h8 := hR.few
    obtain ⟨R, hRr⟩ : ∃ R : Nat, rowsN (d : Int) (ld : Int) = R := ⟨_, rfl⟩
    obtain ⟨S, hSs⟩ : ∃ S, rsS b np P (q : Int) = S := ⟨_, rfl⟩
    unfold blL at hlv
    rw [Int.toNat_natCast, e1, e3, hRr, hSs] at hlv
    have HNd := hid e1
    have HSz := hid e3
    have HRr := hid hRr
    have HSs := hid hSs
    have HLv2 := hid hlv
    rcases HXv.out with h0 | ⟨bv, ov, rfl, hbv, hxv⟩
    · omega
    obtain ⟨_, v1, v2, v3, _⟩ := hxv q hqn
    rw [e1] at v1
    rw [e2] at v2
    rw [e3] at v3
    have HQ : Hid (W.cell? ⟨bv, ov + q * 4 + 1, none⟩ = some (.int .i64 (d : Int)) ∧ W.cell? ⟨bv, ov + q * 4 + 2, none⟩ = some (.int .i64 (mo : Int)) ∧ W.cell? ⟨bv, ov + q * 4 + 3, none⟩ = some (.int .i64 (ld : Int))) := ⟨by rw [B1.out.cell hbv]; exact v1, by rw [B1.out.cell hbv]; exact v2, by rw [B1.out.cell hbv]; exact v3⟩
    obtain ⟨m0, m1⟩ := two_at d1
    have CO : Hid (∀ (u : World) (N : Nat), Below W.heap.size W u → N ≤ 30 → Calls Tryz.prog 48 #[planV (d : Int) (mo : Int) (ld : Int), .slice adt ld cdt, .int .i64 (N : Int)] u fun e w' => ShareIs u w' (N : Int) R (S N) e) := fun u N hbu hN => by
      have h9 := shareOf_any d mo ld (ld : Int) adt cdt (rsD b np P (q : Int)) N u HPl.out (fun j _ => rsD_num b np P (q : Int) j) (by omega) hN HRr.out (HVd.out.up hbu)
      have h8 : (fun r => shv d ld (rsD b np P (q : Int)) N r) = S N := by
        rw [← HSs.out]
        funext r
        unfold rsS
        simp only [Int.toNat_natCast]
        rw [HNd.out, HSz.out]
        simp only [Int.toNat_natCast]
      rw [h8] at h9
      exact h9
    unfold planV at CO
    clear d1 hxv v1 v2 v3 hld hver hR hpl e1 e2 e3 hRr hSs hlv
    go_wp2
    clear m0 m1
    go_loopw [9, 27] (fun vo kv wr => ∃ kk : Nat, kk ≤ np ∧ kv = .int .i64 kk ∧ Hid (OwnL W wr vo (pickL (blB P (q : Int) R S) kk))) (fun _ kv _ => np - (intOf kv).toNat)
    case atStart => exact ⟨0, Nat.zero_le _, rfl, OwnL.nil _⟩
    case round =>
      obtain ⟨kk, hkk, rfl, OW⟩ := hrel
      by_cases hlt : kk < np
      · have hkki : (kk : Int) < (np : Int) := by omega
        obtain ⟨bl, off, rfl, hbl, g0, g1, g2, g3⟩ := (HL.out.up (B1.out.trans (OW.out.2.mono B1.out.size))).at hlt
        obtain ⟨ak, ck, hke, _, _⟩ := g3
        rw [hke] at g2
        have HKe : Hid (∀ u, Below w.heap.size w u → KeSl u u.heap.size (.slice ak (P.m kk) ck) (P.m kk) (UV kk) (P.t kk)) := fun u hbu => by
          obtain ⟨_, _, _, _, _, _, _, h3⟩ := (HL.out.up hbu).at hlt
          rw [hke] at h3
          exact h3
        have hbA := below_alloc wr (.cells #[.bool (P.th kk), .int .i64 (P.rm kk), .slice ak (P.m kk) ck] 47)
        have kp := heap_alloc_new wr (.cells #[.bool (P.th kk), .int .i64 (P.rm kk), .slice ak (P.m kk) ck] 47)
        obtain ⟨W1, hW1⟩ : ∃ u, wr.alloc (.cells #[.bool (P.th kk), .int .i64 (P.rm kk), .slice ak (P.m kk) ck] 47) = u := ⟨_, rfl⟩
        rw [hW1] at hbA kp
        obtain ⟨bp, hbp⟩ : ∃ z, wr.heap.size = z := ⟨_, rfl⟩
        rw [hbp] at kp
        have OA : Hid (OwnL W W1 u9 (blR P (q : Int) R S kk 0)) := by show OwnL _ _ _ _; rw [blR_zero]; exact OW.out.up hbA
        have KA := hid kp
        obtain ⟨z0, z1, z2⟩ := three_at kp
        have hrise := (HR.out.peer kk hlt).rise
        have HRise := hid hrise
        have hm20 := HR.out.small kk hlt
        clear hbA kp hke hrise OW
        go_wp2
        clear hW1 hbp z0 z1 z2 g0 g1 g2
        obtain ⟨wa, hwa⟩ : ∃ wa, wr = wa := ⟨_, rfl⟩
        subst hwa
        go_loopw [9, 35] (fun vo iv wz => ∃ i : Nat, i ≤ P.m kk ∧ iv = .int .i64 i ∧ Hid (OwnL W wz vo (blR P (q : Int) R S kk i)) ∧ Hid (wz.heap[bp]? = some (.cells #[.bool (P.th kk), .int .i64 (P.rm kk), .slice ak (P.m kk) ck] 47 (0, 0)))) (fun _ iv _ => P.m kk - (intOf iv).toNat)
        case atStart => exact ⟨0, Nat.zero_le _, rfl, OA, KA⟩
        case round =>
          obtain ⟨i, hi, rfl, OZ, KP⟩ := hrel
          by_cases hil : i < P.m kk
          · have hii2 : (i : Int) < (P.m kk : Int) := by omega
            obtain ⟨b2, o2, rfl, _, x0, x1, x2, x3⟩ := (HKe.out wr (B1.out.trans (OZ.out.2.mono B1.out.size))).at hil
            have HIx : Hid (∀ u, Below wr.heap.size wr u → IntSl u u.heap.size (UV kk i) ((P.t kk).L i) ((P.t kk).X i)) := fun u hbu => x3.up hbu
            obtain ⟨au, cu, hue, _, _⟩ := x3
            rw [hue] at x2 HIx
            have hN := HR.out.num kk i hlt hil
            obtain ⟨N, hNe⟩ : ∃ N : Nat, (P.t kk).N i = N := ⟨((P.t kk).N i).toNat, by omega⟩
            rw [hNe] at x1
            have hN30 : N ≤ 30 := by omega
            have hb3 := below_alloc wr (.cells #[.int .i64 ((P.t kk).V i), .int .i64 (N : Int), .slice au ((P.t kk).L i) cu] 55)
            have k9 := heap_alloc_new wr (.cells #[.int .i64 ((P.t kk).V i), .int .i64 (N : Int), .slice au ((P.t kk).L i) cu] 55)
            obtain ⟨W3, hW3⟩ : ∃ u, wr.alloc (.cells #[.int .i64 ((P.t kk).V i), .int .i64 (N : Int), .slice au ((P.t kk).L i) cu] 55) = u := ⟨_, rfl⟩
            rw [hW3] at hb3 k9
            obtain ⟨bq, hbq⟩ : ∃ z, wr.heap.size = z := ⟨_, rfl⟩
            rw [hbq] at k9
            obtain ⟨x, hxx⟩ : ∃ x, (P.t kk).V i = x := ⟨_, rfl⟩
            rw [hxx] at x0 k9 hW3
            have O3 := hid (OZ.out.up hb3)
            have HB3 := hid hb3
            have HIy := hid (HIx.out W3 hb3)
            obtain ⟨s0, s1, s2⟩ := three_at k9
            obtain ⟨z0, z1, z2⟩ := three_at (stayB KP.out hb3)
            obtain ⟨mb0, mb1⟩ := two_at (stayB D1.out O3.out.2)
            have q1 : W3.cell? ⟨bv, ov + q * 4 + 1, none⟩ = some (.int .i64 (d : Int)) := by rw [O3.out.2.cell (cell_lt HQ.out.1)]; exact HQ.out.1
            have q2 : W3.cell? ⟨bv, ov + q * 4 + 2, none⟩ = some (.int .i64 (mo : Int)) := by rw [O3.out.2.cell (cell_lt HQ.out.2.1)]; exact HQ.out.2.1
            have q3 : W3.cell? ⟨bv, ov + q * 4 + 3, none⟩ = some (.int .i64 (ld : Int)) := by rw [O3.out.2.cell (cell_lt HQ.out.2.2)]; exact HQ.out.2.2
            have hne : Nonempty (Of (Below W3.heap.size W3)) := ⟨⟨W3, Below.refl _ _⟩⟩
            obtain ⟨tk, htk⟩ : ∃ t, P.th kk = t := ⟨_, rfl⟩
            rw [htk] at z0
            have F0 : ∀ u : Of (Below W3.heap.size W3), u.val.cell? ⟨bp, 0, none⟩ = some (.bool tk) := fun u => by rw [u.is.cell (cell_lt z0)]; exact z0
            have F1 : ∀ u : Of (Below W3.heap.size W3), u.val.cell? ⟨bq, 0, none⟩ = some (.int .i64 x) := fun u => by rw [u.is.cell (cell_lt s0)]; exact s0
            have F2 : ∀ u : Of (Below W3.heap.size W3), u.val.cell? ⟨bq, 1, none⟩ = some (.int .i64 (N : Int)) := fun u => by rw [u.is.cell (cell_lt s1)]; exact s1
            have F3 : ∀ u : Of (Below W3.heap.size W3), u.val.cell? ⟨bq, 2, none⟩ = some (.slice au ((P.t kk).L i) cu) := fun u => by rw [u.is.cell (cell_lt s2)]; exact s2
            have F4 : ∀ u : Of (Below W3.heap.size W3), u.val.cell? ⟨w.heap.size, 0, none⟩ = some (.slice (some ⟨bv, ov, none⟩) n cap0) := fun u => by rw [u.is.cell (cell_lt mb0)]; exact mb0
            have F5 : ∀ u : Of (Below W3.heap.size W3), u.val.cell? ⟨bv, ov + q * 4 + 1, none⟩ = some (.int .i64 (d : Int)) := fun u => by rw [u.is.cell (cell_lt q1)]; exact q1
            have F6 : ∀ u : Of (Below W3.heap.size W3), u.val.cell? ⟨bv, ov + q * 4 + 2, none⟩ = some (.int .i64 (mo : Int)) := fun u => by rw [u.is.cell (cell_lt q2)]; exact q2
            have F7 : ∀ u : Of (Below W3.heap.size W3), u.val.cell? ⟨bv, ov + q * 4 + 3, none⟩ = some (.int .i64 (ld : Int)) := fun u => by rw [u.is.cell (cell_lt q3)]; exact q3
            have F8 : (0 : Int) ≤ (N : Int) := by omega
            have HD1 : Hid (Below W3.heap.size W3 W3.drew) := drew_below W3
            have HTk := hid htk
            have HVx := hid hxx
            have HNe := hid hNe
            have hln := blR_len P (q : Int) R S kk i
            clear hb3 k9 hue hxx hNe htk mb0 mb1 q1 q2 q3
            cases tk with
            | false =>
              have hst : blR P (q : Int) R S kk (i + 1) = blR P (q : Int) R S kk i := blR_not (by rw [HTk.out, Bool.false_and])
              have HSt := hid hst
              clear hst
              go_wp2_with fail
              refine region_mixed (Below W3.heap.size W3) [([0, 1, 2, 3, 4, 5, 6, 7, 8, 9, 10, 11, 12, 13, 14, 15, 16, 17, 18, 19, 20, 21], 22), ([], 23)] [24, 25] (by kernel_rfl) (by kernel_rfl) HD1.out ?_
              refine mixO_cons (by simp only [pickO, List.getElem?_cons_zero, List.getElem?_cons_succ]; exact rfl) (by simp only [pickO, List.getElem?_cons_zero, List.getElem?_cons_succ]; exact rfl) ?_
              repeat (go_big_quiet_step (fail))
              refine wpQuiet_nil ?_
              intro K hK
              go_wp2
              refine ⟨rfl, hK _ _ HD1.out ?_⟩
              clear hK K
              refine mixO_cons (lq := []) rfl (by simp only [pickO, List.getElem?_cons_zero, List.getElem?_cons_succ]; exact rfl) ?_
              refine wpQuiet_nil ?_
              intro K hK
              go_wp2
              refine ⟨rfl, hK _ _ HD1.out ?_⟩
              clear hK K
              refine mixO_nil (by simp only [pickO, List.getElem?_cons_zero, List.getElem?_cons_succ]; exact rfl) ?_
              repeat (go_big_quiet_step (fail))
              refine wpQuiet_nil ?_
              clear F0 F1 F2 F3 F4 F5 F6 F7 F8 hne s0 s1 s2 z0 z1 z2 x0 x1 x2 hbq
              go_wp2
              go_roundw
              case rel => exact ⟨i + 1, by omega, by go_num, by rw [HSt.out]; exact O3.out.up (below_drew0 _), stayB (stayB KP.out HB3.out) (below_drew0 _)⟩
              case measure => simp only [intOf]; omega
            | true =>
              by_cases hxv : x = (q : Int)
              · subst hxv
                obtain ⟨h1, h2, h3⟩ := blR_is (R := R) (S := S) HRise.out hil HTk.out HVx.out
                have hgood : goodK P (q : Int) R S kk = sameB (N : Int) (N : Int) ((P.t kk).L i) R ((P.t kk).X i) (S N) := by unfold goodK numK; rw [h2, HNe.out, Int.toNat_natCast]
                rw [hgood] at h3
                have HSt := hid h3
                clear h1 h2 h3 hgood
                go_wp2_with fail
                refine region_mixed (Below W3.heap.size W3) [([0, 1, 2, 3, 4, 5, 6, 7, 8, 9, 10, 11, 12, 13, 14, 15, 16, 17, 18, 19, 20, 21], 22), ([], 23)] [24, 25] (by kernel_rfl) (by kernel_rfl) HD1.out ?_
                refine mixO_cons (by simp only [pickO, List.getElem?_cons_zero, List.getElem?_cons_succ]; exact rfl) (by simp only [pickO, List.getElem?_cons_zero, List.getElem?_cons_succ]; exact rfl) ?_
                repeat (go_big_quiet_step (fail))
                refine wpQuiet_nil ?_
                intro K hK
                go_wp2_with fail
                refine Calls.mono (CO.out _ N (O3.out.2.trans (HD1.out.mono O3.out.2.size)) hN30) ?_
                rintro e U2 ⟨Vn, rfl, hvn, hb2, _⟩
                have H2 : Hid (Below W3.heap.size W3 U2) := HD1.out.trans (hb2.mono HD1.out.size)
                have CS := hid (sameShare_any (N : Int) (N : Int) _ _ ((P.t kk).L i) R ((P.t kk).X i) (S N) U2 (HIy.out.up H2.out) hvn)
                obtain ⟨sb, hsb⟩ : ∃ t, sameB (N : Int) (N : Int) ((P.t kk).L i) R ((P.t kk).X i) (S N) = t := ⟨_, rfl⟩
                rw [hsb] at CS HSt
                obtain ⟨an, cn, rfl, _, _⟩ := hvn
                unfold shareV at CS
                unfold shareV
                clear hb2 hsb
                go_wp2
                refine ⟨rfl, hK _ _ H2.out ?_⟩
                clear hK K
                refine mixO_cons (lq := []) rfl (by simp only [pickO, List.getElem?_cons_zero, List.getElem?_cons_succ]; exact rfl) ?_
                refine wpQuiet_nil ?_
                intro K hK
                go_wp2_with fail
                refine Calls.mono CS.out ?_
                rintro e U3 ⟨rfl, hb3⟩
                have H3 : Hid (Below W3.heap.size W3 U3) := H2.out.trans (hb3.mono H2.out.size)
                clear hb3 CS
                go_wp2
                refine ⟨rfl, hK _ _ H3.out ?_⟩
                clear hK K
                have O5 := hid (O3.out.up H3.out)
                have KP5 := hid (stayB (stayB KP.out HB3.out) H3.out)
                cases sb with
                | true =>
                  refine mixO_nil (by simp only [pickO, List.getElem?_cons_zero, List.getElem?_cons_succ]; exact rfl) ?_
                  repeat (go_big_quiet_step (fail))
                  refine wpQuiet_nil ?_
                  clear F0 F1 F2 F3 F4 F5 F6 F7 F8 hne s0 s1 s2 z0 z1 z2 x0 x1 x2 hbq
                  have hst := HSt.out
                  rw [if_pos rfl, List.append_nil] at hst
                  have HSt2 := hid hst
                  clear hst
                  go_wp2
                  go_roundw
                  case rel => exact ⟨i + 1, by omega, by go_num, by rw [HSt2.out]; exact O5.out, KP5⟩
                  case measure => simp only [intOf]; omega
                | false =>
                  refine mixO_nil (by simp only [pickO, List.getElem?_cons_zero, List.getElem?_cons_succ]; exact rfl) ?_
                  repeat (go_big_quiet_step (fail))
                  refine wpQuiet_nil ?_
                  clear F0 F1 F2 F3 F4 F5 F6 F7 F8 hne s0 s1 s2 z0 z1 z2 x0 x1 x2 hbq
                  have hst := HSt.out
                  rw [if_neg (by decide)] at hst
                  have HSt2 := hid hst
                  have hge : W.heap.size ≤ U3.heap.size := O5.out.2.size
                  clear hst
                  go_wp2_with (at_builtin; go_must (refine wpList_append_own _ rfl (.tmp 65) (.tmp 67) 28 rfl W.heap.size 3 ii (.int .i64 0) 1 8 Tryz.underlying28 hii hzz0 hzz1 hzz2 rfl (by decide) _ _ _ rfl (World.ownsRow.alloc O5.out.1 _) ⟨_, 0, none⟩ 1 1 [.int .i64 (kk : Int)] rfl rfl (newCell _ _ _) (oneCell _) (by unfold maxLen; omega) (by omega) (by simp; omega) ?_; intro v1 w6 ho6 hg6 _; have O6 := hid (O5.out.push ho6 hg6); have hb5 := below_alloc U3 (.cells #[.int .i64 (kk : Int)] 3); have h5 := stayB KP5.out hb5; have h6 := row_ne (World.ownsRow.alloc O5.out.1 _) h5 (by decide); rw [← hg6.block _ (Array.getElem?_eq_some_iff.1 h5).1 h6] at h5; have KP6 := hid h5; clear ho6 hg6 hb5 h5 h6))
                  go_roundw
                  case rel => exact ⟨i + 1, by omega, by go_num, by rw [HSt2.out]; exact O6.out, KP6⟩
                  case measure => simp only [intOf]; omega
              · have hst : blR P (q : Int) R S kk (i + 1) = blR P (q : Int) R S kk i := blR_not (by rw [HVx.out, decide_eq_false hxv, Bool.and_false])
                have HSt := hid hst
                have hxb : (x == (q : Int)) = false := by rw [beq_eq_false_iff_ne]; exact hxv
                clear hst hxv
                go_wp2_with fail
                refine region_mixed (Below W3.heap.size W3) [([0, 1, 2, 3, 4, 5, 6, 7, 8, 9, 10, 11, 12, 13, 14, 15, 16, 17, 18, 19, 20, 21], 22), ([], 23)] [24, 25] (by kernel_rfl) (by kernel_rfl) HD1.out ?_
                refine mixO_cons (by simp only [pickO, List.getElem?_cons_zero, List.getElem?_cons_succ]; exact rfl) (by simp only [pickO, List.getElem?_cons_zero, List.getElem?_cons_succ]; exact rfl) ?_
                repeat (go_big_quiet_step (fail))
                refine wpQuiet_nil ?_
                intro K hK
                go_wp2
                refine ⟨rfl, hK _ _ HD1.out ?_⟩
                clear hK K
                refine mixO_cons (lq := []) rfl (by simp only [pickO, List.getElem?_cons_zero, List.getElem?_cons_succ]; exact rfl) ?_
                refine wpQuiet_nil ?_
                intro K hK
                go_wp2
                refine ⟨rfl, hK _ _ HD1.out ?_⟩
                clear hK K
                refine mixO_nil (by simp only [pickO, List.getElem?_cons_zero, List.getElem?_cons_succ]; exact rfl) ?_
                repeat (go_big_quiet_step (fail))
                refine wpQuiet_nil ?_
                clear F0 F1 F2 F3 F4 F5 F6 F7 F8 hne s0 s1 s2 z0 z1 z2 x0 x1 x2 hbq
                go_wp2
                go_roundw
                case rel => exact ⟨i + 1, by omega, by go_num, by rw [HSt.out]; exact O3.out.up (below_drew0 _), stayB (stayB KP.out HB3.out) (below_drew0 _)⟩
                case measure => simp only [intOf]; omega
          · have hie : P.m kk = i := by omega
            have hil2 : ¬ (i : Int) < (P.m kk : Int) := by omega
            have hal : pickL (blB P (q : Int) R S) (kk + 1) = blR P (q : Int) R S kk i := by rw [← hie, blR_all]
            have HAl := hid hal
            clear hal
            go_wp2
            go_roundw
            case rel => exact ⟨kk + 1, by omega, by go_num, by rw [HAl.out]; exact OZ.out⟩
            case measure => simp only [intOf]; omega
      · have hke : np = kk := by omega
        subst hke
        have hpl := pickL_len (blB P (q : Int) R S) np
        have hsl := OW.out.isl (by omega)
        have HSl := hid hsl
        clear hsl
        go_wp2
        go_ret2
        rw [← HLv2.out]
        exact ⟨B1.out.trans (OW.out.2.mono B1.out.size), _, rfl, HSl.out⟩
  · have hcb : (c != 0) = true := by simpa using h0
    have hlv := HLv.out
    rw [if_neg h0] at hlv
    subst hlv
    clear h0 d1
    go_wp2
    go_ret2
    exact liPost_nil B1.out

end Go.Proofs.YtikchpffkhohlaaGreat

namespace Go.Proofs.YtikchpffkhohlaaGreat

open Go.ChangeShapes Go.WideShapes Go.ChangeAt Go.RowKit Go.Deep
set_option linter.unusedVariables false

variable {H : Type} {enc : TypeId × Value → H} {W : World}

theorem Tryz.cellsInts : Tryz.prog.cellsOf 28 = 1 := by kernel_rfl
theorem Tryz.cellsPlan : Tryz.prog.cellsOf 30 = 3 := by kernel_rfl

theorem agg_of {v : Value} {n : Nat} (hn : n ≠ 1) (h : v.cells.toList.length = n) : v = .agg v.cells := by
  cases v <;> first | rfl | (simp [Value.cells] at h; omega)

theorem plan_open {v : Value} {d : DataW H} {p : List MemPlace} (h : DataW.Trod enc Tryz.prog W 0 (fun _ => true) true 30 v d p) :
    ∃ nd of sz : Int, v = planV nd of sz ∧ (Lit.int .i64 nd).wf = true ∧ (Lit.int .i64 of).wf = true ∧ (Lit.int .i64 sz).wf = true := by
  obtain ⟨fuel, hf⟩ := h
  obtain ⟨y0, y1, y2, n, hx, hl, h0, h1, h2⟩ := trod_struct3 Tryz.underlying30 hf
  rw [Tryz.cellsPlan] at hl
  have hv := agg_of (by omega) hl
  rw [Tryz.cellsInt] at h0 h1 h2
  obtain ⟨a, e0, _, b0⟩ := DataW.trod_int Tryz.underlying3 h0
  obtain ⟨b, e1, _, b1⟩ := DataW.trod_int Tryz.underlying3 h1
  obtain ⟨c, e2, _, b2⟩ := DataW.trod_int Tryz.underlying3 h2
  refine ⟨a, b, c, ?_, b0, b1, b2⟩
  rw [hv]
  generalize v.cells = cs at *
  obtain ⟨l⟩ := cs
  match l, hl with
  | [u0, u1, u2], _ =>
    simp at e0 e1 e2
    subst e0 e1 e2
    rfl

theorem isl_cell {fuel : Nat} {cs : List Value} {x : DataW H × List MemPlace} (h : DataW.trod enc Tryz.prog W 0 (fun _ => true) true fuel 28 cs = some x) (hs : ∀ y ∈ x.1.weights Tryz.prog 28, y ≤ reachBytes) :
    ∃ a len cap X, cs = [.slice a len cap] ∧ SlArg W a len cap X := by
  have key : ∃ a len cap, cs = [.slice a len cap] := by
    rcases open_ints Tryz.underlying28 Tryz.underlying3 Tryz.cellsInt h with ⟨hcs, _⟩ | ⟨x, l, c, zs, hcs, _⟩
    · exact ⟨_, _, _, hcs⟩
    · exact ⟨_, _, _, hcs⟩
  obtain ⟨a, len, cap, rfl⟩ := key
  obtain ⟨X, hX⟩ := slArg_open (enc := enc) (W := W) (a := a) (len := len) (cap := cap) (d := x.1) (p := x.2) Tryz.underlying28 ⟨fuel, by simpa [Value.cells] using h⟩ (fun elems spare hd => by
    refine hs _ ?_
    rw [hd]
    simp [DataW.weights, Tryz.underlying28])
  exact ⟨a, len, cap, X, rfl, hX⟩

theorem weightsAll_mem {P : Program} {e : TypeId} {l : List (DataW H)} {d : DataW H} (h : d ∈ l) {y : Nat} (hy : y ∈ d.weights P e) : y ∈ DataW.weightsAll P e l := by
  induction l with
  | nil => cases h
  | cons x l ih =>
    simp only [DataW.weightsAll, List.mem_append]
    rcases List.mem_cons.1 h with rfl | h
    · exact Or.inl hy
    · exact Or.inr (ih h)

end Go.Proofs.YtikchpffkhohlaaGreat

namespace Go.Proofs.YtikchpffkhohlaaGreat

open Go.ChangeShapes Go.WideShapes Go.ChangeAt Go.RowKit Go.Deep
set_option linter.unusedVariables false

variable {H : Type} {enc : TypeId × Value → H} {W : World}

theorem Tryz.cellsVer : Tryz.prog.cellsOf 60 = 4 := by kernel_rfl
theorem Tryz.cellsVers : Tryz.prog.cellsOf 22 = 1 := by kernel_rfl
theorem Tryz.cellsBook : Tryz.prog.cellsOf 24 = 1 := by kernel_rfl
theorem Tryz.bytesVer : Tryz.prog.bytesOf 60 = 48 := by kernel_rfl

theorem plan_cells {fuel : Nat} {cs : List Value} {x : DataW H × List MemPlace} (h : DataW.trod enc Tryz.prog W 0 (fun _ => true) true fuel 30 cs = some x) :
    ∃ nd of sz : Int, cs = [.int .i64 nd, .int .i64 of, .int .i64 sz] := by
  obtain ⟨y0, y1, y2, n, hx, hl, h0, h1, h2⟩ := trod_struct3 Tryz.underlying30 h
  rw [Tryz.cellsPlan] at hl
  rw [Tryz.cellsInt] at h0 h1 h2
  obtain ⟨a, e0, _, b0⟩ := DataW.trod_int Tryz.underlying3 h0
  obtain ⟨b, e1, _, b1⟩ := DataW.trod_int Tryz.underlying3 h1
  obtain ⟨c, e2, _, b2⟩ := DataW.trod_int Tryz.underlying3 h2
  refine ⟨a, b, c, ?_⟩
  match cs, hl with
  | [u0, u1, u2], _ =>
    simp at e0 e1 e2
    subst e0 e1 e2
    rfl

theorem ver_cells {fuel : Nat} {cs : List Value} {x : DataW H × List MemPlace} (h : DataW.trod enc Tryz.prog W 0 (fun _ => true) true fuel 60 cs = some x) (hs : ∀ y ∈ x.1.weights Tryz.prog 60, y ≤ reachBytes) :
    ∃ (a : Option Addr) (len cap : Nat) (X : Nat → Int) (nd of sz : Int), cs = [.slice a len cap, .int .i64 nd, .int .i64 of, .int .i64 sz] ∧ SlArg W a len cap X := by
  obtain ⟨y0, y1, n, hx, hl, h0, h1⟩ := trod_struct2 Tryz.underlying60 h
  rw [Tryz.cellsVer] at hl
  rw [Tryz.cellsInts] at h0
  rw [Tryz.cellsPlan] at h1
  have hd : x.1 = .agg [y0.1, y1.1] := congrArg Prod.fst hx
  obtain ⟨a, len, cap, X, e0, hX⟩ := isl_cell h0 (fun y hy => hs y (by
    rw [hd]
    simp only [DataW.weights, Tryz.underlying60, List.map_cons, List.map_nil, DataW.weightsEach, List.mem_append]
    exact Or.inl hy))
  obtain ⟨nd, of, sz, e1⟩ := plan_cells h1
  refine ⟨a, len, cap, X, nd, of, sz, ?_, hX⟩
  match cs, hl with
  | [u0, u1, u2, u3], _ =>
    simp at e0 e1
    obtain ⟨rfl, rfl, rfl⟩ := e1
    subst e0
    rfl

theorem vers_cell {fuel : Nat} {cs : List Value} {x : DataW H × List MemPlace} (h : DataW.trod enc Tryz.prog W 0 (fun _ => true) true fuel 22 cs = some x) (hs : ∀ y ∈ x.1.weights Tryz.prog 22, y ≤ reachBytes) :
    ∃ v n PV b, cs = [v] ∧ VeSl W W.heap.size v n PV b := by
  rcases open_slice Tryz.underlying22 h with ⟨hcs, _⟩ | ⟨ad, len, cap, m, n, D, Pl, hcs, _, hl, hm, hmm, hx, hall⟩
  · exact ⟨_, 0, fun _ => undef, ⟨fun _ => 0, fun _ _ => 0, fun _ => 0, fun _ => 0, fun _ => 0⟩, hcs, none, 0, rfl, ⟨Nat.le_refl _, by omega⟩, Or.inl rfl⟩
  · simp only [if_true] at hmm
    subst hmm
    have hd : x.1 = .slice ((List.range len).map D) ((List.range (m - len)).map fun j => D (len + j)) := congrArg Prod.fst hx
    rw [Tryz.cellsVer] at hall
    have each : ∀ i, i < len → ∃ q : Value × Nat × (Nat → Int) × Int × Int × Int, W.cell? (Addr.add ad (i * 4)) = some q.1 ∧ W.cell? (Addr.add ad (i * 4 + 1)) = some (.int .i64 q.2.2.2.1) ∧ W.cell? (Addr.add ad (i * 4 + 2)) = some (.int .i64 q.2.2.2.2.1) ∧ W.cell? (Addr.add ad (i * 4 + 3)) = some (.int .i64 q.2.2.2.2.2) ∧ IntSl W W.heap.size q.1 q.2.1 q.2.2.1 := by
      intro i hi
      obtain ⟨cs', h1, h2⟩ := hall i (by omega)
      obtain ⟨_, _, hcell⟩ := World.cells?_some h1
      obtain ⟨a1, l1, c1, X1, nd, of, sz, e, hX⟩ := ver_cells h2 (fun y hy => hs y (by
        rw [hd]
        simp only [DataW.weights, Tryz.underlying22, List.mem_cons, List.mem_append]
        exact Or.inr (Or.inl (weightsAll_mem (d := D i) (List.mem_map.2 ⟨i, List.mem_range.2 hi, rfl⟩) hy))))
      subst e
      have e0 := hcell 0 (by omega)
      have e1 := hcell 1 (by omega)
      have e2 := hcell 2 (by omega)
      have e3 := hcell 3 (by omega)
      rw [add_add] at e0 e1 e2 e3
      exact ⟨⟨.slice a1 l1 c1, l1, X1, nd, of, sz⟩, e0, e1, e2, e3, hX.isl⟩
    obtain ⟨q, hq⟩ := choose_lt each
    have hr : (len + (m - len)) * 48 ≤ 140737488351232 := by
      have h1 := hs ((len + (m - len)) * Tryz.prog.bytesOf 60) (by
        rw [hd]
        simp [DataW.weights, Tryz.underlying22])
      rw [Tryz.bytesVer] at h1
      simpa [reachBytes] using h1
    refine ⟨_, len, fun i => (q i).1, ⟨fun i => (q i).2.1, fun i => (q i).2.2.1, fun i => (q i).2.2.2.1, fun i => (q i).2.2.2.2.1, fun i => (q i).2.2.2.2.2⟩, hcs, some ad, m, rfl, ⟨hl, by omega⟩, ?_⟩
    by_cases h0 : len = 0
    · exact Or.inl h0
    · obtain ⟨b, off, spot⟩ := ad
      have hspot : spot = none := by simpa [Addr.add] using World.cell?_spot (hq 0 (by omega)).1
      subst hspot
      refine Or.inr ⟨b, off, rfl, ?_, fun j hj => ?_⟩
      · have h1 := cell_lt (hq 0 (by omega)).1
        simpa [Addr.add] using h1
      · obtain ⟨c0, c1, c2, c3, hi⟩ := hq j hj
        rw [Go.WideShapes.add_plain] at c0 c1 c2 c3
        exact ⟨c0, by simpa [Nat.add_assoc] using c1, by simpa [Nat.add_assoc] using c2, by simpa [Nat.add_assoc] using c3, hi⟩

end Go.Proofs.YtikchpffkhohlaaGreat

namespace Go.Proofs.YtikchpffkhohlaaGreat

open Go.ChangeShapes Go.WideShapes Go.ChangeAt Go.RowKit Go.Deep
set_option linter.unusedVariables false

variable {H : Type} {enc : TypeId × Value → H} {W : World}

theorem Tryz.cellsBool : Tryz.prog.cellsOf 4 = 1 := by kernel_rfl
theorem Tryz.cellsShr : Tryz.prog.cellsOf 53 = 2 := by kernel_rfl
theorem Tryz.cellsKept : Tryz.prog.cellsOf 55 = 3 := by kernel_rfl
theorem Tryz.cellsKepts : Tryz.prog.cellsOf 45 = 1 := by kernel_rfl
theorem Tryz.cellsPeer : Tryz.prog.cellsOf 47 = 3 := by kernel_rfl
theorem Tryz.bytesKept : Tryz.prog.bytesOf 55 = 40 := by kernel_rfl

theorem shr_cells {fuel : Nat} {cs : List Value} {x : DataW H × List MemPlace} (h : DataW.trod enc Tryz.prog W 0 (fun _ => true) true fuel 53 cs = some x) (hs : ∀ y ∈ x.1.weights Tryz.prog 53, y ≤ reachBytes) :
    ∃ (N : Int) (a : Option Addr) (len cap : Nat) (X : Nat → Int), cs = [.int .i64 N, .slice a len cap] ∧ SlArg W a len cap X := by
  obtain ⟨y0, y1, n, hx, hl, h0, h1⟩ := trod_struct2 Tryz.underlying53 h
  rw [Tryz.cellsShr] at hl
  rw [Tryz.cellsInt] at h0
  rw [Tryz.cellsInts] at h1
  obtain ⟨N, e0, _, b0⟩ := DataW.trod_int Tryz.underlying3 h0
  have hd : x.1 = .agg [y0.1, y1.1] := congrArg Prod.fst hx
  obtain ⟨a, len, cap, X, e1, hX⟩ := isl_cell h1 (fun y hy => hs y (by
    rw [hd]
    simp only [DataW.weights, Tryz.underlying53, List.map_cons, List.map_nil, DataW.weightsEach, List.mem_append]
    exact Or.inr (Or.inl hy)))
  refine ⟨N, a, len, cap, X, ?_, hX⟩
  match cs, hl with
  | [u0, u1], _ =>
    simp at e0 e1
    subst e0 e1
    rfl

theorem kept_cells {fuel : Nat} {cs : List Value} {x : DataW H × List MemPlace} (h : DataW.trod enc Tryz.prog W 0 (fun _ => true) true fuel 55 cs = some x) (hs : ∀ y ∈ x.1.weights Tryz.prog 55, y ≤ reachBytes) :
    ∃ (ver N : Int) (a : Option Addr) (len cap : Nat) (X : Nat → Int), cs = [.int .i64 ver, .int .i64 N, .slice a len cap] ∧ SlArg W a len cap X := by
  obtain ⟨y0, y1, n, hx, hl, h0, h1⟩ := trod_struct2 Tryz.underlying55 h
  rw [Tryz.cellsKept] at hl
  rw [Tryz.cellsInt] at h0
  rw [Tryz.cellsShr] at h1
  obtain ⟨ver, e0, _, b0⟩ := DataW.trod_int Tryz.underlying3 h0
  have hd : x.1 = .agg [y0.1, y1.1] := congrArg Prod.fst hx
  obtain ⟨N, a, len, cap, X, e1, hX⟩ := shr_cells h1 (fun y hy => hs y (by
    rw [hd]
    simp only [DataW.weights, Tryz.underlying55, List.map_cons, List.map_nil, DataW.weightsEach, List.mem_append]
    exact Or.inr (Or.inl hy)))
  refine ⟨ver, N, a, len, cap, X, ?_, hX⟩
  match cs, hl with
  | [u0, u1, u2], _ =>
    simp at e0 e1
    obtain ⟨rfl, rfl⟩ := e1
    subst e0
    rfl

theorem kepts_cell {fuel : Nat} {cs : List Value} {x : DataW H × List MemPlace} (h : DataW.trod enc Tryz.prog W 0 (fun _ => true) true fuel 45 cs = some x) (hs : ∀ y ∈ x.1.weights Tryz.prog 45, y ≤ reachBytes) :
    ∃ v n UV t, cs = [v] ∧ KeSl W W.heap.size v n UV t := by
  rcases open_slice Tryz.underlying45 h with ⟨hcs, _⟩ | ⟨ad, len, cap, m, n, D, Pl, hcs, _, hl, hm, hmm, hx, hall⟩
  · exact ⟨_, 0, fun _ => undef, ⟨fun _ => 0, fun _ => 0, fun _ => 0, fun _ _ => 0⟩, hcs, none, 0, rfl, ⟨Nat.le_refl _, by omega⟩, Or.inl rfl⟩
  · simp only [if_true] at hmm
    subst hmm
    have hd : x.1 = .slice ((List.range len).map D) ((List.range (m - len)).map fun j => D (len + j)) := congrArg Prod.fst hx
    rw [Tryz.cellsKept] at hall
    have each : ∀ i, i < len → ∃ q : Int × Int × Value × Nat × (Nat → Int), W.cell? (Addr.add ad (i * 3)) = some (.int .i64 q.1) ∧ W.cell? (Addr.add ad (i * 3 + 1)) = some (.int .i64 q.2.1) ∧ W.cell? (Addr.add ad (i * 3 + 2)) = some q.2.2.1 ∧ IntSl W W.heap.size q.2.2.1 q.2.2.2.1 q.2.2.2.2 := by
      intro i hi
      obtain ⟨cs', h1, h2⟩ := hall i (by omega)
      obtain ⟨_, _, hcell⟩ := World.cells?_some h1
      obtain ⟨ver, N, a1, l1, c1, X1, e, hX⟩ := kept_cells h2 (fun y hy => hs y (by
        rw [hd]
        simp only [DataW.weights, Tryz.underlying45, List.mem_cons, List.mem_append]
        exact Or.inr (Or.inl (weightsAll_mem (d := D i) (List.mem_map.2 ⟨i, List.mem_range.2 hi, rfl⟩) hy))))
      subst e
      have e0 := hcell 0 (by omega)
      have e1 := hcell 1 (by omega)
      have e2 := hcell 2 (by omega)
      rw [add_add] at e0 e1 e2
      exact ⟨⟨ver, N, .slice a1 l1 c1, l1, X1⟩, e0, e1, e2, hX.isl⟩
    obtain ⟨q, hq⟩ := choose_lt each
    have hr : (len + (m - len)) * 40 ≤ 140737488351232 := by
      have h1 := hs ((len + (m - len)) * Tryz.prog.bytesOf 55) (by
        rw [hd]
        simp [DataW.weights, Tryz.underlying45])
      rw [Tryz.bytesKept] at h1
      simpa [reachBytes] using h1
    refine ⟨_, len, fun i => (q i).2.2.1, ⟨fun i => (q i).1, fun i => (q i).2.1, fun i => (q i).2.2.2.1, fun i => (q i).2.2.2.2⟩, hcs, some ad, m, rfl, ⟨hl, by omega⟩, ?_⟩
    by_cases h0 : len = 0
    · exact Or.inl h0
    · obtain ⟨b, off, spot⟩ := ad
      have hspot : spot = none := by simpa [Addr.add] using World.cell?_spot (hq 0 (by omega)).1
      subst hspot
      refine Or.inr ⟨b, off, rfl, ?_, fun j hj => ?_⟩
      · have h1 := cell_lt (hq 0 (by omega)).1
        simpa [Addr.add] using h1
      · obtain ⟨c0, c1, c2, hi⟩ := hq j hj
        rw [Go.WideShapes.add_plain] at c0 c1 c2
        exact ⟨c0, by simpa [Nat.add_assoc] using c1, by simpa [Nat.add_assoc] using c2, hi⟩

end Go.Proofs.YtikchpffkhohlaaGreat

namespace Go.Proofs.YtikchpffkhohlaaGreat

open Go.ChangeShapes Go.WideShapes Go.ChangeAt Go.RowKit Go.Deep
set_option linter.unusedVariables false

variable {H : Type} {enc : TypeId × Value → H} {W : World}

theorem Tryz.bytesPeer : Tryz.prog.bytesOf 47 = 40 := by kernel_rfl
theorem Tryz.cellsPeers : Tryz.prog.cellsOf 25 = 1 := by kernel_rfl

theorem peer_cells {fuel : Nat} {cs : List Value} {x : DataW H × List MemPlace} (h : DataW.trod enc Tryz.prog W 0 (fun _ => true) true fuel 47 cs = some x) (hs : ∀ y ∈ x.1.weights Tryz.prog 47, y ≤ reachBytes) :
    ∃ (th : Bool) (room : Int) (vk : Value) (m : Nat) (UV : Nat → Value) (t : Kt), cs = [.bool th, .int .i64 room, vk] ∧ KeSl W W.heap.size vk m UV t := by
  obtain ⟨y0, y1, y2, n, hx, hl, h0, h1, h2⟩ := trod_struct3 Tryz.underlying47 h
  rw [Tryz.cellsPeer] at hl
  rw [Tryz.cellsBool] at h0
  rw [Tryz.cellsInt] at h1
  rw [Tryz.cellsKepts] at h2
  obtain ⟨th, e0, _⟩ := DataW.trod_bool Tryz.underlying4 h0
  obtain ⟨room, e1, _, b1⟩ := DataW.trod_int Tryz.underlying3 h1
  have hd : x.1 = .agg [y0.1, y1.1, y2.1] := congrArg Prod.fst hx
  obtain ⟨vk, m, UV, t, e2, hk⟩ := kepts_cell h2 (fun y hy => hs y (by
    rw [hd]
    simp only [DataW.weights, Tryz.underlying47, List.map_cons, List.map_nil, DataW.weightsEach, List.mem_append]
    exact Or.inr (Or.inr (Or.inl hy))))
  refine ⟨th, room, vk, m, UV, t, ?_, hk⟩
  match cs, hl with
  | [u0, u1, u2], _ =>
    simp at e0 e1 e2
    subst e0 e1 e2
    rfl

theorem peers_cell {fuel : Nat} {cs : List Value} {x : DataW H × List MemPlace} (h : DataW.trod enc Tryz.prog W 0 (fun _ => true) true fuel 25 cs = some x) (hs : ∀ y ∈ x.1.weights Tryz.prog 25, y ≤ reachBytes) :
    ∃ v n KV UV P, cs = [v] ∧ PsSl W W.heap.size v n KV UV P := by
  rcases open_slice Tryz.underlying25 h with ⟨hcs, _⟩ | ⟨ad, len, cap, m, n, D, Pl, hcs, _, hl, hm, hmm, hx, hall⟩
  · exact ⟨_, 0, fun _ => undef, fun _ _ => undef, ⟨fun _ => false, fun _ => 0, fun _ => 0, fun _ => ⟨fun _ => 0, fun _ => 0, fun _ => 0, fun _ _ => 0⟩⟩, hcs, none, 0, rfl, ⟨Nat.le_refl _, by omega⟩, Or.inl rfl⟩
  · simp only [if_true] at hmm
    subst hmm
    have hd : x.1 = .slice ((List.range len).map D) ((List.range (m - len)).map fun j => D (len + j)) := congrArg Prod.fst hx
    rw [Tryz.cellsPeer] at hall
    have each : ∀ i, i < len → ∃ q : Bool × Int × Value × Nat × (Nat → Value) × Kt, W.cell? (Addr.add ad (i * 3)) = some (.bool q.1) ∧ W.cell? (Addr.add ad (i * 3 + 1)) = some (.int .i64 q.2.1) ∧ W.cell? (Addr.add ad (i * 3 + 2)) = some q.2.2.1 ∧ KeSl W W.heap.size q.2.2.1 q.2.2.2.1 q.2.2.2.2.1 q.2.2.2.2.2 := by
      intro i hi
      obtain ⟨cs', h1, h2⟩ := hall i (by omega)
      obtain ⟨_, _, hcell⟩ := World.cells?_some h1
      obtain ⟨th, room, vk, mk, UV, t, e, hX⟩ := peer_cells h2 (fun y hy => hs y (by
        rw [hd]
        simp only [DataW.weights, Tryz.underlying25, List.mem_cons, List.mem_append]
        exact Or.inr (Or.inl (weightsAll_mem (d := D i) (List.mem_map.2 ⟨i, List.mem_range.2 hi, rfl⟩) hy))))
      subst e
      have e0 := hcell 0 (by omega)
      have e1 := hcell 1 (by omega)
      have e2 := hcell 2 (by omega)
      rw [add_add] at e0 e1 e2
      exact ⟨⟨th, room, vk, mk, UV, t⟩, e0, e1, e2, hX⟩
    haveI : Inhabited Kt := ⟨⟨fun _ => 0, fun _ => 0, fun _ => 0, fun _ _ => 0⟩⟩
    obtain ⟨q, hq⟩ := choose_lt each
    have hr : (len + (m - len)) * 40 ≤ 140737488351232 := by
      have h1 := hs ((len + (m - len)) * Tryz.prog.bytesOf 47) (by
        rw [hd]
        simp [DataW.weights, Tryz.underlying25])
      rw [Tryz.bytesPeer] at h1
      simpa [reachBytes] using h1
    refine ⟨_, len, fun i => (q i).2.2.1, fun i => (q i).2.2.2.2.1, ⟨fun i => (q i).1, fun i => (q i).2.1, fun i => (q i).2.2.2.1, fun i => (q i).2.2.2.2.2⟩, hcs, some ad, m, rfl, ⟨hl, by omega⟩, ?_⟩
    by_cases h0 : len = 0
    · exact Or.inl h0
    · obtain ⟨b, off, spot⟩ := ad
      have hspot : spot = none := by simpa [Addr.add] using World.cell?_spot (hq 0 (by omega)).1
      subst hspot
      refine Or.inr ⟨b, off, rfl, ?_, fun j hj => ?_⟩
      · have h1 := cell_lt (hq 0 (by omega)).1
        simpa [Addr.add] using h1
      · obtain ⟨c0, c1, c2, hi⟩ := hq j hj
        rw [Go.WideShapes.add_plain] at c0 c1 c2
        exact ⟨c0, by simpa [Nat.add_assoc] using c1, by simpa [Nat.add_assoc] using c2, hi⟩

end Go.Proofs.YtikchpffkhohlaaGreat
