/- Several texts of one proof, in their order. -/
import Derived.Test.YtjfnpjmhippdoafGreatBundle14
import Derived.Test.YtjfnpjmhippdoafGreatBundle21
import Derived.Test.YtjfnpjmhippdoafGreatBundle8
import Derived.Test.YtjfnpjmhippdoafGreatBundle5
import Derived.Test.YtjfnpjmhippdoafGreatBundle13

/- What chapter 10's reference answers: how many shares lack, who is to blame. -/
namespace Go.Proofs.YtjfnpjmhippdoafGreat

open Go.RowKit CurveMath
set_option linter.unusedVariables false

/-- as many numbers as there are shares -/
theorem plan_bd {n : Nat} {b : Bk} {np : Nat} {P : Ps} (h : MeshR n b np P) {q : Nat} (hq : q < n) : (1 ≤ b.nd q ∧ b.nd q ≤ 4) ∧ (b.nd q ≤ b.of q ∧ b.of q ≤ 8) ∧ (1 ≤ b.sz q ∧ b.sz q ≤ 24) ∧ planOk (b.nd q) (b.of q) (b.sz q) = true := by
  have h1 := (right_of h.book).plan q hq
  unfold chkP at h1
  by_cases h2 : planOk (b.nd q) (b.of q) (b.sz q) = true
  · obtain ⟨g1, g2, g3⟩ := planOk_spec h2
    exact ⟨g1, g2, g3, h2⟩
  · rw [if_neg h2] at h1; omega

set_option maxHeartbeats 2000000 in
theorem lackingIn_any (vb : Value) (n : Nat) (PV : Nat → Value) (b : Bk) (vl : Value) (np : Nat) (KV : Nat → Value) (UV : Nat → Nat → Value) (P : Ps) (k : Int) (w : World) (hv : VeSl w w.heap.size vb n PV b) (hl : PsSl w w.heap.size vl np KV UV P) :
    Calls Tryz.prog 9 #[meshV vb vl, .int .i64 k] w fun e w' => e = .returned (.tuple #[.int .i64 (lackV n b np P k), .int .i64 (verM n b np P k)]) ∧ Below w.heap.size w w' := by
  have hb := below_alloc w (.cells #[vb, vl] 27)
  have CK := hid (version_any _ n PV b _ np KV UV P k _ (hv.up hb) (hl.up hb))
  have HB := hid hb
  have HK := hid (heap_alloc_new w (.cells #[vb, vl] 27))
  have HL := hid hl
  obtain ⟨ad, cap, rfl, _, hx⟩ := hv
  obtain ⟨al, cl, rfl, _, _⟩ := hl
  obtain ⟨c, hc⟩ : ∃ c, verM n b np P k = c := ⟨_, rfl⟩
  obtain ⟨lv, hlv⟩ : ∃ c, lackV n b np P k = c := ⟨_, rfl⟩
  rw [hc] at CK
  rw [hc, hlv]
  unfold lackV at hlv
  rw [hc] at hlv
  have HC := hid hc
  have HLv := hid hlv
  have HX := hid hx
  clear hb hc hx hlv
  unfold meshV at CK
  unfold meshV
  go_enter Tryz.func9, Tryz.ntmps9
  go_wp2_with fail
  refine Calls.mono CK.out ?_
  rintro e W ⟨rfl, hbW⟩
  have BW := hid (HB.out.trans (hbW.mono HB.out.size))
  obtain ⟨c0, c1⟩ := two_at (stayB HK.out hbW)
  clear hbW CK
  by_cases h0 : c = 0
  · subst h0
    obtain ⟨hR, hk0, hkn⟩ := verM_ok HC.out
    obtain ⟨q, rfl⟩ : ∃ q : Nat, k = q := ⟨k.toNat, by omega⟩
    have hqn : q < n := by omega
    have HR := hid hR
    have hpb := plan_bd hR hqn
    have hlv := HLv.out
    rw [if_pos rfl] at hlv
    unfold laN at hlv
    rw [Int.toNat_natCast] at hlv
    have hlen := thAll_len hR (q : Int) np (Nat.le_refl _)
    have h8 := hR.few
    rcases HX.out with h0 | ⟨bv, ov, rfl, hbv, hxv⟩
    · omega
    obtain ⟨_, v1, v2, v3, _⟩ := hxv q hqn
    have q2 : W.cell? ⟨bv, ov + q * 4 + 2, none⟩ = some (.int .i64 (b.of q)) := by rw [BW.out.cell hbv]; exact v2
    have hne : Nonempty (Of (Below W.heap.size W)) := ⟨⟨W, Below.refl _ _⟩⟩
    have F0 : ∀ u : Of (Below W.heap.size W), u.val.cell? ⟨w.heap.size, 0, none⟩ = some (.slice (some ⟨bv, ov, none⟩) n cap) := fun u => by rw [u.is.cell (cell_lt c0)]; exact c0
    have F1 : ∀ u : Of (Below W.heap.size W), u.val.cell? ⟨w.heap.size, 1, none⟩ = some (.slice al np cl) := fun u => by rw [u.is.cell (cell_lt c1)]; exact c1
    have F3 : ∀ u : Of (Below W.heap.size W), u.val.cell? ⟨bv, ov + q * 4 + 2, none⟩ = some (.int .i64 (b.of q)) := fun u => by rw [u.is.cell (cell_lt q2)]; exact q2
    have CT : Hid (∀ u, Below W.heap.size W u → Calls Tryz.prog 29 #[meshV (.slice (some ⟨bv, ov, none⟩) n cap) (.slice al np cl), .int .i64 (q : Int)] u fun e w' => Below u.heap.size u w' ∧ ∃ vo, e = .returned vo ∧ ShSl w' w'.heap.size vo (thereL P q np).length (nL P (thereL P q np)) (vaL UV (thereL P q np)) (lL P (thereL P q np)) (xL P (thereL P q np))) := fun u hbu =>
      there_any _ _ np KV UV P q u ⟨_, _, _, rfl⟩ (HL.out.up (BW.out.trans (hbu.mono BW.out.size))) HR.out.few HR.out.small HR.out.num
    unfold meshV at CT
    have hki : (q : Int) < (n : Int) := by omega
    obtain ⟨z, hz⟩ : ∃ z, (thereL P (q : Int) np).length = z := ⟨_, rfl⟩
    have hz8 : z ≤ 8 := by unfold thereL at hz; omega
    rw [hz] at hlv
    obtain ⟨o, ho⟩ : ∃ o, b.of q = o := ⟨_, rfl⟩
    rw [ho] at F3 hlv hpb
    have ho8 := hpb.2.1
    have hnd := hpb.1
    have HLv2 := hid hlv
    have HZ := hid hz
    clear hR hxv v1 v2 v3 q2 c0 c1 hlv hlen hz hpb ho
    go_wp2_with fail
    have HD1 : Hid (Below W.heap.size W W.drew) := drew_below W
    refine region_mixed (Below W.heap.size W) [([0, 1, 2, 3, 4, 5, 6, 7, 8, 9], 10)] [11, 12, 13, 14] (by kernel_rfl) (by kernel_rfl) HD1.out ?_
    refine mixO_cons (by simp only [pickO, List.getElem?_cons_zero, List.getElem?_cons_succ]; exact rfl) (by simp only [pickO, List.getElem?_cons_zero, List.getElem?_cons_succ]; exact rfl) ?_
    repeat (go_big_quiet_step (fail))
    refine wpQuiet_nil ?_
    intro K hK
    go_wp2_with fail
    refine Calls.mono (CT.out _ HD1.out) ?_
    rintro e W5 ⟨hb5, vo, rfl, hsh⟩
    have H5 : Hid (Below W.heap.size W W5) := HD1.out.trans (hb5.mono HD1.out.size)
    obtain ⟨ao, co, rfl, _, _⟩ := hsh
    rw [HZ.out]
    clear hb5
    go_wp2
    refine ⟨rfl, hK _ _ H5.out ?_⟩
    clear hK K
    refine mixO_nil (by simp only [pickO, List.getElem?_cons_zero, List.getElem?_cons_succ]; exact rfl) ?_
    repeat (go_big_quiet_step (fail))
    refine wpQuiet_nil ?_
    clear F0 F1 F3 hne
    go_wp2
    go_ret2
    exact ⟨by rw [← HLv2.out]; rfl, BW.out.trans (H5.out.mono BW.out.size)⟩
  · have hcb : (c != 0) = true := by simpa using h0
    have hlv := HLv.out
    rw [if_neg h0] at hlv
    subst hlv
    clear h0
    go_wp2
    go_ret2
    exact ⟨rfl, BW.out⟩

/-- is a share of the version among the first i that peer k keeps, and not as it should be? -/
def blI (P : Ps) (ver : Int) (R : Nat) (S : Nat → Nat → Int) (k i : Nat) : Bool := (P.th k && decide (0 ≤ fstAt (P.t k).V ver i 0)) && !goodK P ver R S k
/-- who is to blame among the first k peers and the first i that peer k keeps -/
def blR (P : Ps) (ver : Int) (R : Nat) (S : Nat → Nat → Int) (k i : Nat) : List Int := pickL (blB P ver R S) k ++ (if blI P ver R S k i = true then [(k : Int)] else [])

section

variable {P : Ps} {ver : Int} {R : Nat} {S : Nat → Nat → Int} {k i : Nat}

theorem blR_zero : blR P ver R S k 0 = pickL (blB P ver R S) k := by
  unfold blR blI
  simp [fstAt]

theorem blR_all : blR P ver R S k (P.m k) = pickL (blB P ver R S) (k + 1) := by
  rw [pickL_succ]
  rfl

theorem blR_not (h : (P.th k && decide ((P.t k).V i = ver)) = false) : blR P ver R S k (i + 1) = blR P ver R S k i := by
  have e := fstAt_succ (P.t k).V ver i 0
  rw [Nat.zero_add] at e
  have e2 : blI P ver R S k (i + 1) = blI P ver R S k i := by
    unfold blI
    cases ht : P.th k with
    | false => simp
    | true =>
      rw [ht, Bool.true_and] at h
      have hne : ¬ (P.t k).V i = ver := of_decide_eq_false h
      rw [e]
      by_cases c : 0 ≤ fstAt (P.t k).V ver i 0
      · rw [if_pos c]
      · rw [if_neg c, if_neg hne, decide_eq_false c]
        rfl
  unfold blR
  rw [e2]

/-- the share of the version that peer k keeps, at place i -/
theorem blR_is (hr : ∀ i j, i < j → j < P.m k → (P.t k).V i < (P.t k).V j) (hi : i < P.m k) (ht : P.th k = true) (hv : (P.t k).V i = ver) :
    hasK P ver k = true ∧ atK P ver k = i ∧ blR P ver R S k (i + 1) = blR P ver R S k i ++ (if goodK P ver R S k = true then [] else [(k : Int)]) := by
  have hx : 0 ≤ fstAt (P.t k).V ver (P.m k) 0 := (fstAt_neg _ _ _ 0).2 ⟨i, Nat.zero_le _, by omega, hv⟩
  obtain ⟨j, h1, _, h2, h3⟩ := fstAt_place _ _ _ _ hx
  have hji : j = i := by
    rcases Nat.lt_trichotomy j i with c | c | c
    · have := hr j i c hi; omega
    · exact c
    · have := hr i j c (by omega); omega
  subst hji
  have hno : ¬ 0 ≤ fstAt (P.t k).V ver j 0 := fun h => by
    obtain ⟨j2, _, g2, g3⟩ := (fstAt_neg _ _ _ 0).1 h
    have := hr j2 j (by omega) hi
    omega
  have e := fstAt_succ (P.t k).V ver j 0
  rw [Nat.zero_add, if_neg hno, if_pos hv] at e
  refine ⟨by unfold hasK; rw [ht, Bool.true_and, decide_eq_true hx], by unfold atK; rw [h1, Int.toNat_natCast], ?_⟩
  have b0 : blI P ver R S k j = false := by unfold blI; rw [decide_eq_false hno, Bool.and_false, Bool.false_and]
  have b1 : blI P ver R S k (j + 1) = !goodK P ver R S k := by unfold blI; rw [e, ht, decide_eq_true (by omega : (0 : Int) ≤ (j : Int)), Bool.true_and, Bool.true_and]
  unfold blR
  rw [b0, b1]
  cases goodK P ver R S k <;> simp

end

theorem blR_len (P : Ps) (ver : Int) (R : Nat) (S : Nat → Nat → Int) (k i : Nat) : (blR P ver R S k i).length ≤ k + 1 := by
  unfold blR
  have := pickL_len (blB P ver R S) k
  rw [List.length_append]
  split <;> simp <;> omega

theorem below_drew0 (w : World) : Below w.heap.size w w.drew := ⟨rfl, rfl, rfl, Nat.le_refl _, fun _ _ => rfl⟩

set_option maxHeartbeats 8000000 in
set_option maxRecDepth 10000 in
theorem blamedIn_any (vb : Value) (n : Nat) (PV : Nat → Value) (b : Bk) (vl : Value) (np : Nat) (KV : Nat → Value) (UV : Nat → Nat → Value) (P : Ps) (k : Int) (w : World) (hv : VeSl w w.heap.size vb n PV b) (hl : PsSl w w.heap.size vl np KV UV P) :
    Calls Tryz.prog 8 #[meshV vb vl, .int .i64 k] w (LiPost w (blameV n b np P k) (rsE n b np P k)) := by
  have hb0 := below_alloc w (.cells #[vb, vl] 27)
  have k1 := heap_alloc_new w (.cells #[vb, vl] 27)
  obtain ⟨W0, hW0⟩ : ∃ W, w.alloc (.cells #[vb, vl] 27) = W := ⟨_, rfl⟩
  rw [hW0] at hb0 k1
  have HV := hid hv
  have HL := hid hl
  obtain ⟨ad, cap0, rfl, _, hxv⟩ := hv
  obtain ⟨al, cl, rfl, _, _⟩ := hl
  have CR := hid (restored_any _ n PV b _ np KV UV P k W0 (HV.out.up hb0) (HL.out.up hb0))
  obtain ⟨c, hc⟩ : ∃ c, rsE n b np P k = c := ⟨_, rfl⟩
  obtain ⟨lv, hlv⟩ : ∃ c, blameV n b np P k = c := ⟨_, rfl⟩
  rw [hc, hlv]
  unfold blameV at hlv
  rw [hc] at hlv
  have HC := hid hc
  have HLv := hid hlv
  obtain ⟨m0, m1⟩ := two_at k1
  have B0 := hid hb0
  have K1 := hid k1
  have HXv := hid hxv
  obtain ⟨ii, hii, hzz0, hzz1, hzz2⟩ := info_parts Tryz.infoInt
  clear hb0 k1 hc hlv hxv
  unfold meshV at CR
  unfold meshV
  go_enter Tryz.func8, Tryz.ntmps8
  go_wp2_with fail
  refine Calls.mono CR.out ?_
  rintro e W ⟨hbW, vd, vbad, ld, rfl, hld, hvd, hbad⟩
  have B1 := hid (B0.out.trans (hbW.mono B0.out.size))
  have d1 := stayB K1.out hbW
  have D1 := hid d1
  have HVd := hid hvd
  obtain ⟨adt, cdt, rfl, _, _⟩ := hvd
  obtain ⟨abd, cbd, rfl, _, _⟩ := hbad
  rw [HC.out] at hld
  rw [HC.out]
  clear hbW m0 m1 CR hW0
  by_cases h0 : c = 0
  · subst h0
    rw [if_pos rfl] at hld
    have hlv := HLv.out
    rw [if_pos rfl] at hlv
    obtain ⟨hver, d, mo, sN, e1, e2, e3, hpl⟩ := rsE_ok HC.out
    obtain ⟨hR, hk0, hkn⟩ := verM_ok hver
    obtain ⟨q, rfl⟩ : ∃ q : Nat, k = q := ⟨k.toNat, by omega⟩
    rw [Int.toNat_natCast] at e1 e2 e3 hld
    have hqn : q < n := by omega
    have hki : (q : Int) < (n : Int) := by omega
    have hls : ld = sN := by rw [e3] at hld; omega
    subst hls
    have HR := hid hR
    have HPl := hid hpl
    have hps := planOk_spec hpl
    have h8 := hR.few
    obtain ⟨R, hRr⟩ : ∃ R : Nat, rowsN (d : Int) (ld : Int) = R := ⟨_, rfl⟩
    obtain ⟨S, hSs⟩ : ∃ S, rsS b np P (q : Int) = S := ⟨_, rfl⟩
    unfold blL at hlv
    rw [Int.toNat_natCast, e1, e3, hRr, hSs] at hlv
    have HNd := hid e1
    have HSz := hid e3
    have HRr := hid hRr
    have HSs := hid hSs
    have HLv2 := hid hlv
    rcases HXv.out with h0 | ⟨bv, ov, rfl, hbv, hxv⟩
    · omega
    obtain ⟨_, v1, v2, v3, _⟩ := hxv q hqn
    rw [e1] at v1
    rw [e2] at v2
    rw [e3] at v3
    have HQ : Hid (W.cell? ⟨bv, ov + q * 4 + 1, none⟩ = some (.int .i64 (d : Int)) ∧ W.cell? ⟨bv, ov + q * 4 + 2, none⟩ = some (.int .i64 (mo : Int)) ∧ W.cell? ⟨bv, ov + q * 4 + 3, none⟩ = some (.int .i64 (ld : Int))) := ⟨by rw [B1.out.cell hbv]; exact v1, by rw [B1.out.cell hbv]; exact v2, by rw [B1.out.cell hbv]; exact v3⟩
    obtain ⟨m0, m1⟩ := two_at d1
    have CO : Hid (∀ (u : World) (N : Nat), Below W.heap.size W u → N ≤ 30 → Calls Tryz.prog 27 #[planV (d : Int) (mo : Int) (ld : Int), .slice adt ld cdt, .int .i64 (N : Int)] u fun e w' => ShareIs u w' (N : Int) R (S N) e) := fun u N hbu hN => by
      have h9 := shareOf_any d mo ld (ld : Int) adt cdt (rsD b np P (q : Int)) N u HPl.out (fun j _ => rsD_num b np P (q : Int) j) (by omega) hN HRr.out (HVd.out.up hbu)
      have h8 : (fun r => shv d ld (rsD b np P (q : Int)) N r) = S N := by
        rw [← HSs.out]
        funext r
        unfold rsS
        simp only [Int.toNat_natCast]
        rw [HNd.out, HSz.out]
        simp only [Int.toNat_natCast]
      rw [h8] at h9
      exact h9
    unfold planV at CO
    clear d1 hxv v1 v2 v3 hld hver hR hpl e1 e2 e3 hRr hSs hlv
    go_wp2
    clear m0 m1
    go_loopw [9, 27] (fun vo kv wr => ∃ kk : Nat, kk ≤ np ∧ kv = .int .i64 kk ∧ Hid (OwnL W wr vo (pickL (blB P (q : Int) R S) kk))) (fun _ kv _ => np - (intOf kv).toNat)
    case atStart => exact ⟨0, Nat.zero_le _, rfl, OwnL.nil _⟩
    case round =>
      obtain ⟨kk, hkk, rfl, OW⟩ := hrel
      by_cases hlt : kk < np
      · have hkki : (kk : Int) < (np : Int) := by omega
        obtain ⟨bl, off, rfl, hbl, g0, g1, g2, g3⟩ := (HL.out.up (B1.out.trans (OW.out.2.mono B1.out.size))).at hlt
        obtain ⟨ak, ck, hke, _, _⟩ := g3
        rw [hke] at g2
        have HKe : Hid (∀ u, Below w.heap.size w u → KeSl u u.heap.size (.slice ak (P.m kk) ck) (P.m kk) (UV kk) (P.t kk)) := fun u hbu => by
          obtain ⟨_, _, _, _, _, _, _, h3⟩ := (HL.out.up hbu).at hlt
          rw [hke] at h3
          exact h3
        have hbA := below_alloc wr (.cells #[.bool (P.th kk), .int .i64 (P.rm kk), .slice ak (P.m kk) ck] 45)
        have kp := heap_alloc_new wr (.cells #[.bool (P.th kk), .int .i64 (P.rm kk), .slice ak (P.m kk) ck] 45)
        obtain ⟨W1, hW1⟩ : ∃ u, wr.alloc (.cells #[.bool (P.th kk), .int .i64 (P.rm kk), .slice ak (P.m kk) ck] 45) = u := ⟨_, rfl⟩
        rw [hW1] at hbA kp
        obtain ⟨bp, hbp⟩ : ∃ z, wr.heap.size = z := ⟨_, rfl⟩
        rw [hbp] at kp
        have OA : Hid (OwnL W W1 u9 (blR P (q : Int) R S kk 0)) := by show OwnL _ _ _ _; rw [blR_zero]; exact OW.out.up hbA
        have KA := hid kp
        obtain ⟨z0, z1, z2⟩ := three_at kp
        have hrise := (HR.out.peer kk hlt).rise
        have HRise := hid hrise
        have hm20 := HR.out.small kk hlt
        clear hbA kp hke hrise OW
        go_wp2
        clear hW1 hbp z0 z1 z2 g0 g1 g2
        obtain ⟨wa, hwa⟩ : ∃ wa, wr = wa := ⟨_, rfl⟩
        subst hwa
        go_loopw [9, 35] (fun vo iv wz => ∃ i : Nat, i ≤ P.m kk ∧ iv = .int .i64 i ∧ Hid (OwnL W wz vo (blR P (q : Int) R S kk i)) ∧ Hid (wz.heap[bp]? = some (.cells #[.bool (P.th kk), .int .i64 (P.rm kk), .slice ak (P.m kk) ck] 45 (0, 0)))) (fun _ iv _ => P.m kk - (intOf iv).toNat)
        case atStart => exact ⟨0, Nat.zero_le _, rfl, OA, KA⟩
        case round =>
          obtain ⟨i, hi, rfl, OZ, KP⟩ := hrel
          by_cases hil : i < P.m kk
          · have hii2 : (i : Int) < (P.m kk : Int) := by omega
            obtain ⟨b2, o2, rfl, _, x0, x1, x2, x3⟩ := (HKe.out wr (B1.out.trans (OZ.out.2.mono B1.out.size))).at hil
            have HIx : Hid (∀ u, Below wr.heap.size wr u → IntSl u u.heap.size (UV kk i) ((P.t kk).L i) ((P.t kk).X i)) := fun u hbu => x3.up hbu
            obtain ⟨au, cu, hue, _, _⟩ := x3
            rw [hue] at x2 HIx
            have hN := HR.out.num kk i hlt hil
            obtain ⟨N, hNe⟩ : ∃ N : Nat, (P.t kk).N i = N := ⟨((P.t kk).N i).toNat, by omega⟩
            rw [hNe] at x1
            have hN30 : N ≤ 30 := by omega
            have hb3 := below_alloc wr (.cells #[.int .i64 ((P.t kk).V i), .int .i64 (N : Int), .slice au ((P.t kk).L i) cu] 50)
            have k9 := heap_alloc_new wr (.cells #[.int .i64 ((P.t kk).V i), .int .i64 (N : Int), .slice au ((P.t kk).L i) cu] 50)
            obtain ⟨W3, hW3⟩ : ∃ u, wr.alloc (.cells #[.int .i64 ((P.t kk).V i), .int .i64 (N : Int), .slice au ((P.t kk).L i) cu] 50) = u := ⟨_, rfl⟩
            rw [hW3] at hb3 k9
            obtain ⟨bq, hbq⟩ : ∃ z, wr.heap.size = z := ⟨_, rfl⟩
            rw [hbq] at k9
            obtain ⟨x, hxx⟩ : ∃ x, (P.t kk).V i = x := ⟨_, rfl⟩
            rw [hxx] at x0 k9 hW3
            have O3 := hid (OZ.out.up hb3)
            have HB3 := hid hb3
            have HIy := hid (HIx.out W3 hb3)
            obtain ⟨s0, s1, s2⟩ := three_at k9
            obtain ⟨z0, z1, z2⟩ := three_at (stayB KP.out hb3)
            obtain ⟨mb0, mb1⟩ := two_at (stayB D1.out O3.out.2)
            have q1 : W3.cell? ⟨bv, ov + q * 4 + 1, none⟩ = some (.int .i64 (d : Int)) := by rw [O3.out.2.cell (cell_lt HQ.out.1)]; exact HQ.out.1
            have q2 : W3.cell? ⟨bv, ov + q * 4 + 2, none⟩ = some (.int .i64 (mo : Int)) := by rw [O3.out.2.cell (cell_lt HQ.out.2.1)]; exact HQ.out.2.1
            have q3 : W3.cell? ⟨bv, ov + q * 4 + 3, none⟩ = some (.int .i64 (ld : Int)) := by rw [O3.out.2.cell (cell_lt HQ.out.2.2)]; exact HQ.out.2.2
            have hne : Nonempty (Of (Below W3.heap.size W3)) := ⟨⟨W3, Below.refl _ _⟩⟩
            obtain ⟨tk, htk⟩ : ∃ t, P.th kk = t := ⟨_, rfl⟩
            rw [htk] at z0
            have F0 : ∀ u : Of (Below W3.heap.size W3), u.val.cell? ⟨bp, 0, none⟩ = some (.bool tk) := fun u => by rw [u.is.cell (cell_lt z0)]; exact z0
            have F1 : ∀ u : Of (Below W3.heap.size W3), u.val.cell? ⟨bq, 0, none⟩ = some (.int .i64 x) := fun u => by rw [u.is.cell (cell_lt s0)]; exact s0
            have F2 : ∀ u : Of (Below W3.heap.size W3), u.val.cell? ⟨bq, 1, none⟩ = some (.int .i64 (N : Int)) := fun u => by rw [u.is.cell (cell_lt s1)]; exact s1
            have F3 : ∀ u : Of (Below W3.heap.size W3), u.val.cell? ⟨bq, 2, none⟩ = some (.slice au ((P.t kk).L i) cu) := fun u => by rw [u.is.cell (cell_lt s2)]; exact s2
            have F4 : ∀ u : Of (Below W3.heap.size W3), u.val.cell? ⟨w.heap.size, 0, none⟩ = some (.slice (some ⟨bv, ov, none⟩) n cap0) := fun u => by rw [u.is.cell (cell_lt mb0)]; exact mb0
            have F5 : ∀ u : Of (Below W3.heap.size W3), u.val.cell? ⟨bv, ov + q * 4 + 1, none⟩ = some (.int .i64 (d : Int)) := fun u => by rw [u.is.cell (cell_lt q1)]; exact q1
            have F6 : ∀ u : Of (Below W3.heap.size W3), u.val.cell? ⟨bv, ov + q * 4 + 2, none⟩ = some (.int .i64 (mo : Int)) := fun u => by rw [u.is.cell (cell_lt q2)]; exact q2
            have F7 : ∀ u : Of (Below W3.heap.size W3), u.val.cell? ⟨bv, ov + q * 4 + 3, none⟩ = some (.int .i64 (ld : Int)) := fun u => by rw [u.is.cell (cell_lt q3)]; exact q3
            have F8 : (0 : Int) ≤ (N : Int) := by omega
            have HD1 : Hid (Below W3.heap.size W3 W3.drew) := drew_below W3
            have HTk := hid htk
            have HVx := hid hxx
            have HNe := hid hNe
            have hln := blR_len P (q : Int) R S kk i
            clear hb3 k9 hue hxx hNe htk mb0 mb1 q1 q2 q3
            cases tk with
            | false =>
              have hst : blR P (q : Int) R S kk (i + 1) = blR P (q : Int) R S kk i := blR_not (by rw [HTk.out, Bool.false_and])
              have HSt := hid hst
              clear hst
              go_wp2_with fail
              refine region_mixed (Below W3.heap.size W3) [([0, 1, 2, 3, 4, 5, 6, 7, 8, 9, 10, 11, 12, 13, 14, 15, 16, 17, 18, 19, 20, 21], 22), ([], 23)] [24, 25] (by kernel_rfl) (by kernel_rfl) HD1.out ?_
              refine mixO_cons (by simp only [pickO, List.getElem?_cons_zero, List.getElem?_cons_succ]; exact rfl) (by simp only [pickO, List.getElem?_cons_zero, List.getElem?_cons_succ]; exact rfl) ?_
              repeat (go_big_quiet_step (fail))
              refine wpQuiet_nil ?_
              intro K hK
              go_wp2
              refine ⟨rfl, hK _ _ HD1.out ?_⟩
              clear hK K
              refine mixO_cons (lq := []) rfl (by simp only [pickO, List.getElem?_cons_zero, List.getElem?_cons_succ]; exact rfl) ?_
              refine wpQuiet_nil ?_
              intro K hK
              go_wp2
              refine ⟨rfl, hK _ _ HD1.out ?_⟩
              clear hK K
              refine mixO_nil (by simp only [pickO, List.getElem?_cons_zero, List.getElem?_cons_succ]; exact rfl) ?_
              repeat (go_big_quiet_step (fail))
              refine wpQuiet_nil ?_
              clear F0 F1 F2 F3 F4 F5 F6 F7 F8 hne s0 s1 s2 z0 z1 z2 x0 x1 x2 hbq
              go_wp2
              go_roundw
              case rel => exact ⟨i + 1, by omega, by go_num, by rw [HSt.out]; exact O3.out.up (below_drew0 _), stayB (stayB KP.out HB3.out) (below_drew0 _)⟩
              case measure => simp only [intOf]; omega
            | true =>
              by_cases hxv : x = (q : Int)
              · subst hxv
                obtain ⟨h1, h2, h3⟩ := blR_is (R := R) (S := S) HRise.out hil HTk.out HVx.out
                have hgood : goodK P (q : Int) R S kk = sameB (N : Int) (N : Int) ((P.t kk).L i) R ((P.t kk).X i) (S N) := by unfold goodK numK; rw [h2, HNe.out, Int.toNat_natCast]
                rw [hgood] at h3
                have HSt := hid h3
                clear h1 h2 h3 hgood
                go_wp2_with fail
                refine region_mixed (Below W3.heap.size W3) [([0, 1, 2, 3, 4, 5, 6, 7, 8, 9, 10, 11, 12, 13, 14, 15, 16, 17, 18, 19, 20, 21], 22), ([], 23)] [24, 25] (by kernel_rfl) (by kernel_rfl) HD1.out ?_
                refine mixO_cons (by simp only [pickO, List.getElem?_cons_zero, List.getElem?_cons_succ]; exact rfl) (by simp only [pickO, List.getElem?_cons_zero, List.getElem?_cons_succ]; exact rfl) ?_
                repeat (go_big_quiet_step (fail))
                refine wpQuiet_nil ?_
                intro K hK
                go_wp2_with fail
                refine Calls.mono (CO.out _ N (O3.out.2.trans (HD1.out.mono O3.out.2.size)) hN30) ?_
                rintro e U2 ⟨Vn, rfl, hvn, hb2, _⟩
                have H2 : Hid (Below W3.heap.size W3 U2) := HD1.out.trans (hb2.mono HD1.out.size)
                have CS := hid (sameShare_any (N : Int) (N : Int) _ _ ((P.t kk).L i) R ((P.t kk).X i) (S N) U2 (HIy.out.up H2.out) hvn)
                obtain ⟨sb, hsb⟩ : ∃ t, sameB (N : Int) (N : Int) ((P.t kk).L i) R ((P.t kk).X i) (S N) = t := ⟨_, rfl⟩
                rw [hsb] at CS HSt
                obtain ⟨an, cn, rfl, _, _⟩ := hvn
                unfold shareV at CS
                unfold shareV
                clear hb2 hsb
                go_wp2
                refine ⟨rfl, hK _ _ H2.out ?_⟩
                clear hK K
                refine mixO_cons (lq := []) rfl (by simp only [pickO, List.getElem?_cons_zero, List.getElem?_cons_succ]; exact rfl) ?_
                refine wpQuiet_nil ?_
                intro K hK
                go_wp2_with fail
                refine Calls.mono CS.out ?_
                rintro e U3 ⟨rfl, hb3⟩
                have H3 : Hid (Below W3.heap.size W3 U3) := H2.out.trans (hb3.mono H2.out.size)
                clear hb3 CS
                go_wp2
                refine ⟨rfl, hK _ _ H3.out ?_⟩
                clear hK K
                have O5 := hid (O3.out.up H3.out)
                have KP5 := hid (stayB (stayB KP.out HB3.out) H3.out)
                cases sb with
                | true =>
                  refine mixO_nil (by simp only [pickO, List.getElem?_cons_zero, List.getElem?_cons_succ]; exact rfl) ?_
                  repeat (go_big_quiet_step (fail))
                  refine wpQuiet_nil ?_
                  clear F0 F1 F2 F3 F4 F5 F6 F7 F8 hne s0 s1 s2 z0 z1 z2 x0 x1 x2 hbq
                  have hst := HSt.out
                  rw [if_pos rfl, List.append_nil] at hst
                  have HSt2 := hid hst
                  clear hst
                  go_wp2
                  go_roundw
                  case rel => exact ⟨i + 1, by omega, by go_num, by rw [HSt2.out]; exact O5.out, KP5⟩
                  case measure => simp only [intOf]; omega
                | false =>
                  refine mixO_nil (by simp only [pickO, List.getElem?_cons_zero, List.getElem?_cons_succ]; exact rfl) ?_
                  repeat (go_big_quiet_step (fail))
                  refine wpQuiet_nil ?_
                  clear F0 F1 F2 F3 F4 F5 F6 F7 F8 hne s0 s1 s2 z0 z1 z2 x0 x1 x2 hbq
                  have hst := HSt.out
                  rw [if_neg (by decide)] at hst
                  have HSt2 := hid hst
                  have hge : W.heap.size ≤ U3.heap.size := O5.out.2.size
                  clear hst
                  go_wp2_with (at_builtin; go_must (refine wpList_append_own _ rfl (.tmp 65) (.tmp 67) 28 rfl W.heap.size 3 ii (.int .i64 0) 1 8 Tryz.underlying28 hii hzz0 hzz1 hzz2 rfl (by decide) _ _ _ rfl (World.ownsRow.alloc O5.out.1 _) ⟨_, 0, none⟩ 1 1 [.int .i64 (kk : Int)] rfl rfl (newCell _ _ _) (oneCell _) (by unfold maxLen; omega) (by omega) (by simp; omega) ?_; intro v1 w6 ho6 hg6 _; have O6 := hid (O5.out.push ho6 hg6); have hb5 := below_alloc U3 (.cells #[.int .i64 (kk : Int)] 3); have h5 := stayB KP5.out hb5; have h6 := row_ne (World.ownsRow.alloc O5.out.1 _) h5 (by decide); rw [← hg6.block _ (Array.getElem?_eq_some_iff.1 h5).1 h6] at h5; have KP6 := hid h5; clear ho6 hg6 hb5 h5 h6))
                  go_roundw
                  case rel => exact ⟨i + 1, by omega, by go_num, by rw [HSt2.out]; exact O6.out, KP6⟩
                  case measure => simp only [intOf]; omega
              · have hst : blR P (q : Int) R S kk (i + 1) = blR P (q : Int) R S kk i := blR_not (by rw [HVx.out, decide_eq_false hxv, Bool.and_false])
                have HSt := hid hst
                have hxb : (x == (q : Int)) = false := by rw [beq_eq_false_iff_ne]; exact hxv
                clear hst hxv
                go_wp2_with fail
                refine region_mixed (Below W3.heap.size W3) [([0, 1, 2, 3, 4, 5, 6, 7, 8, 9, 10, 11, 12, 13, 14, 15, 16, 17, 18, 19, 20, 21], 22), ([], 23)] [24, 25] (by kernel_rfl) (by kernel_rfl) HD1.out ?_
                refine mixO_cons (by simp only [pickO, List.getElem?_cons_zero, List.getElem?_cons_succ]; exact rfl) (by simp only [pickO, List.getElem?_cons_zero, List.getElem?_cons_succ]; exact rfl) ?_
                repeat (go_big_quiet_step (fail))
                refine wpQuiet_nil ?_
                intro K hK
                go_wp2
                refine ⟨rfl, hK _ _ HD1.out ?_⟩
                clear hK K
                refine mixO_cons (lq := []) rfl (by simp only [pickO, List.getElem?_cons_zero, List.getElem?_cons_succ]; exact rfl) ?_
                refine wpQuiet_nil ?_
                intro K hK
                go_wp2
                refine ⟨rfl, hK _ _ HD1.out ?_⟩
                clear hK K
                refine mixO_nil (by simp only [pickO, List.getElem?_cons_zero, List.getElem?_cons_succ]; exact rfl) ?_
                repeat (go_big_quiet_step (fail))
                refine wpQuiet_nil ?_
                clear F0 F1 F2 F3 F4 F5 F6 F7 F8 hne s0 s1 s2 z0 z1 z2 x0 x1 x2 hbq
                go_wp2
                go_roundw
                case rel => exact ⟨i + 1, by omega, by go_num, by rw [HSt.out]; exact O3.out.up (below_drew0 _), stayB (stayB KP.out HB3.out) (below_drew0 _)⟩
                case measure => simp only [intOf]; omega
          · have hie : P.m kk = i := by omega
            have hil2 : ¬ (i : Int) < (P.m kk : Int) := by omega
            have hal : pickL (blB P (q : Int) R S) (kk + 1) = blR P (q : Int) R S kk i := by rw [← hie, blR_all]
            have HAl := hid hal
            clear hal
            go_wp2
            go_roundw
            case rel => exact ⟨kk + 1, by omega, by go_num, by rw [HAl.out]; exact OZ.out⟩
            case measure => simp only [intOf]; omega
      · have hke : np = kk := by omega
        subst hke
        have hpl := pickL_len (blB P (q : Int) R S) np
        have hsl := OW.out.isl (by omega)
        have HSl := hid hsl
        clear hsl
        go_wp2
        go_ret2
        rw [← HLv2.out]
        exact ⟨B1.out.trans (OW.out.2.mono B1.out.size), _, rfl, HSl.out⟩
  · have hcb : (c != 0) = true := by simpa using h0
    have hlv := HLv.out
    rw [if_neg h0] at hlv
    subst hlv
    clear h0 d1
    go_wp2
    go_ret2
    exact liPost_nil B1.out

end Go.Proofs.YtjfnpjmhippdoafGreat

/- Where a peer keeps a version, asked by slices.IndexFunc with a function value that holds the version (peer.Find$1). -/
namespace Go.Proofs.YtjfnpjmhippdoafGreat

open Go.RowKit
set_option linter.unusedVariables false

theorem peFindF (bx : Nat) (ver V N : Int) (uv : Value) (w : World) (hx : w.cell? ⟨bx, 0, none⟩ = some (.int .i64 ver)) (hu : ∃ a l c, uv = .slice a l c) :
    Calls Tryz.prog 34 #[keptV V N uv, .pointer (some ⟨bx, 0, none⟩)] w fun e w' => e = .returned (.bool (decide (V = ver))) ∧ Below w.heap.size w w' := by
  obtain ⟨a, l, c, rfl⟩ := hu
  have hb := below_alloc w (.cells #[.int .i64 V, .int .i64 N, .slice a l c] 50)
  have HB := hid hb
  have c1 : (w.alloc (.cells #[.int .i64 V, .int .i64 N, .slice a l c] 50)).cell? ⟨bx, 0, none⟩ = some (.int .i64 ver) := by rw [hb.cell (cell_lt hx)]; exact hx
  clear hb
  have he : (V == ver) = decide (V = ver) := by by_cases h : V = ver <;> simp [h]
  unfold keptV
  go_enter Tryz.func34, Tryz.ntmps34
  go_wp2
  go_ret
  exact ⟨by first | rfl | rw [← he], HB.out⟩

set_option maxHeartbeats 1000000 in
theorem peIndex (bx : Nat) (ver : Int) (v : Value) (m : Nat) (UV : Nat → Value) (t : Kt) (w : World) (h : KeSl w w.heap.size v m UV t) (hx : w.cell? ⟨bx, 0, none⟩ = some (.int .i64 ver)) :
    Calls Tryz.prog 33 #[v, .func (.func 34) #[] #[.pointer (some ⟨bx, 0, none⟩)]] w fun e w' => e = .returned (.int .i64 (fstAt t.V ver m 0)) ∧ Below w.heap.size w w' := by
  obtain ⟨ad, cap, rfl, ⟨hc, hr⟩, hk⟩ := h
  obtain ⟨ans, hans⟩ : ∃ a, fstAt t.V ver m 0 = a := ⟨_, rfl⟩
  rw [hans]
  have HA := hid hans
  have HX := hid hk
  have HBx := hid hx
  clear hans hk hx
  go_enter Tryz.func33, Tryz.ntmps33
  go_wp2
  go_loopw [8] (fun iv wr => ∃ i : Nat, i ≤ m ∧ iv = .int .i64 i ∧ Hid (Below w.heap.size w wr) ∧ Hid (fstAt t.V ver (m - i) i = ans)) (fun iv _ => m - (intOf iv).toNat)
  case atStart => exact ⟨0, Nat.zero_le _, rfl, Below.refl _ _, HA⟩
  case round =>
    obtain ⟨i, hi, rfl, HB, HS⟩ := hrel
    by_cases hlt : i < m
    · have hii : (i : Int) < (m : Int) := by omega
      rcases HX.out with h0 | ⟨b1, o1, rfl, hb1, hk⟩
      · omega
      obtain ⟨x0, x1, x2, x3⟩ := hk i hlt
      obtain ⟨au, cu, hue, _, _⟩ := x3
      rw [hue] at x2
      have g0 : wr.cell? ⟨b1, o1 + i * 3, none⟩ = some (.int .i64 (t.V i)) := by rw [HB.out.cell hb1]; exact x0
      have g1 : wr.cell? ⟨b1, o1 + i * 3 + 1, none⟩ = some (.int .i64 (t.N i)) := by rw [HB.out.cell hb1]; exact x1
      have g2 : wr.cell? ⟨b1, o1 + i * 3 + 2, none⟩ = some (.slice au (t.L i) cu) := by rw [HB.out.cell hb1]; exact x2
      have hstep := HS.out
      rw [show m - i = (m - (i + 1)) + 1 by omega] at hstep
      simp only [fstAt] at hstep
      obtain ⟨x, hxx⟩ : ∃ x, t.V i = x := ⟨_, rfl⟩
      rw [hxx] at g0 hstep
      have HC := hid (peFindF bx ver x (t.N i) (.slice au (t.L i) cu) wr (by rw [HB.out.cell (cell_lt HBx.out)]; exact HBx.out) ⟨_, _, _, rfl⟩)
      unfold keptV at HC
      clear x0 x1 x2 hk hue hxx
      by_cases hv : ver = x
      · rw [if_pos hv] at hstep
        rw [decide_eq_true hv.symm] at HC
        have HF := hid hstep
        clear hstep hv
        go_wp2_with fail
        refine Calls.mono HC.out ?_
        rintro e w2 ⟨rfl, hb2⟩
        have HB2 := hid (HB.out.trans (hb2.mono HB.out.size))
        clear hb2
        go_wp2
        go_ret
        exact ⟨by rw [← HF.out]; rfl, HB2.out⟩
      · rw [if_neg hv] at hstep
        rw [decide_eq_false (fun h => hv h.symm)] at HC
        have HF := hid hstep
        clear hstep hv
        go_wp2_with fail
        refine Calls.mono HC.out ?_
        rintro e w2 ⟨rfl, hb2⟩
        have HB2 := hid (HB.out.trans (hb2.mono HB.out.size))
        clear hb2
        go_wp2
        go_roundw
        case rel => exact ⟨i + 1, by omega, by go_num, HB2, HF⟩
        case measure => simp only [intOf]; omega
    · have hie : m = i := by omega
      subst hie
      have hst := HS.out
      rw [Nat.sub_self] at hst
      have HFin : Hid ((-1 : Int) = ans) := hst
      clear hst
      go_wp2
      go_ret
      exact ⟨by rw [← HFin.out]; rfl, HB.out⟩

theorem peFind (th : Bool) (room : Int) (v : Value) (m : Nat) (UV : Nat → Value) (t : Kt) (ver : Int) (w : World) (h : KeSl w w.heap.size v m UV t) :
    Calls Tryz.prog 14 #[peerV th room v, .int .i64 ver] w fun e w' => e = .returned (.int .i64 (fstAt t.V ver m 0)) ∧ Below w.heap.size w w' := by
  have hb := ((Below.refl w.heap.size w).alloc (Nat.le_refl _) (.cells #[.bool th, .int .i64 room, v] 45)).alloc (by simp) (.cells #[.int .i64 ver] 3)
  have k2 := heap_two_new w (.cells #[.bool th, .int .i64 room, v] 45) (.cells #[.int .i64 ver] 3)
  have HI := hid (peIndex (w.heap.size + 1) ver v m UV t _ (h.up hb) (cell_at k2 rfl))
  have HB := hid hb
  obtain ⟨ad, cap, rfl, _, _⟩ := h
  clear hb k2
  generalize fstAt t.V ver m 0 = ans at *
  have hmf : ∀ (fn : Fn) (first cap : Array Value) (w : World), (Instr.makeFunc fn first cap).run Tryz.prog w = .ok (.func fn first cap) w := fun _ _ _ _ => rfl
  unfold peerV
  go_enter Tryz.func14, Tryz.ntmps14
  go_wp2_with fail
  refine Calls.mono HI.out ?_
  rintro e w2 ⟨rfl, hb2⟩
  have HB2 := hid (HB.out.trans (hb2.mono HB.out.size))
  clear hb2
  go_wp2
  go_ret
  exact ⟨rfl, HB2.out⟩

end Go.Proofs.YtjfnpjmhippdoafGreat

/- The peers that are there, each handed with what it keeps to a function value (audit.each): one copy a function value. -/
namespace Go.Proofs.YtjfnpjmhippdoafGreat

open Go.RowKit CurveMath
set_option linter.unusedVariables false

set_option maxHeartbeats 4000000 in
set_option maxRecDepth 10000 in
theorem auEachA (B : Nat) (w0 : World) (vb : Value) (vl : Value) (np : Nat) (KV : Nat → Value) (UV : Nat → Nat → Value) (P : Ps) (ver : Int) (ga gw : Nat) (I : Nat → World → Prop) (w : World) (hvb : ∃ a n c, vb = .slice a n c) (hl : PsSl w0 B vl np KV UV P) (h8 : np ≤ 1000)
    (hI : ∀ k wr, I k wr → Below B w0 wr ∧ B ≤ wr.heap.size) (hup : ∀ k wr w', I k wr → Below wr.heap.size wr w' → I k w') (hno : ∀ k wr, k < np → hasK P ver k = false → I k wr → I (k + 1) wr)
    (hyes : ∀ k wr, k < np → hasK P ver k = true → I k wr → Calls Tryz.prog 21 #[.int .i64 (k : Int), .agg #[.int .i64 (numK P ver k), UV k (atK P ver k)], .pointer (some ⟨ga, 0, none⟩), .pointer (some ⟨gw, 0, none⟩)] wr fun e w' => e = .returned (.tuple #[]) ∧ I (k + 1) w') (h0 : I 0 w) :
    Calls Tryz.prog 20 #[meshV vb vl, .int .i64 ver, .func (.func 21) #[] #[.pointer (some ⟨ga, 0, none⟩), .pointer (some ⟨gw, 0, none⟩)]] w fun e w' => e = .returned (.tuple #[]) ∧ I np w' := by
  obtain ⟨ab, nb, cb, rfl⟩ := hvb
  have HL := hid hl
  have HI : Hid (∀ k wr, I k wr → Below B w0 wr ∧ B ≤ wr.heap.size) := hI
  have HUp : Hid (∀ k wr w', I k wr → Below wr.heap.size wr w' → I k w') := hup
  have HNo : Hid (∀ k wr, k < np → hasK P ver k = false → I k wr → I (k + 1) wr) := hno
  have HYes := hid hyes
  obtain ⟨al, cl, rfl, _, _⟩ := hl
  have hb0 := below_alloc w (.cells #[.slice ab nb cb, .slice al np cl] 27)
  have k0 := heap_alloc_new w (.cells #[.slice ab nb cb, .slice al np cl] 27)
  have J0 := hid (HUp.out _ _ _ h0 hb0)
  obtain ⟨U, hU⟩ : ∃ u, w.alloc (.cells #[.slice ab nb cb, .slice al np cl] 27) = u := ⟨_, rfl⟩
  rw [hU] at J0 k0
  obtain ⟨c0, c1⟩ := two_at k0
  clear hI hup hno hyes h0 hb0 k0
  unfold meshV
  go_enter Tryz.func20, Tryz.ntmps20
  go_wp2
  clear c0 c1 hU
  go_loopw [12] (fun kv wr => ∃ k : Nat, k ≤ np ∧ kv = .int .i64 k ∧ Hid (I k wr)) (fun kv _ => np - (intOf kv).toNat)
  case atStart => exact ⟨0, Nat.zero_le _, rfl, J0⟩
  case round =>
    obtain ⟨k, hk, rfl, J⟩ := hrel
    by_cases hlt : k < np
    · have hki : (k : Int) < (np : Int) := by omega
      obtain ⟨hbw, hbz⟩ := HI.out _ _ J.out
      obtain ⟨bl, off, rfl, hbl, g0, g1, g2, g3⟩ := ((HL.out.below hbw).mono hbz).at hlt
      have G3 := hid g3
      obtain ⟨ak, ck, hke, _, hk3⟩ := g3
      rw [hke] at g2 G3
      have HK3 := hid hk3
      have hbA := below_alloc wr (.cells #[.bool (P.th k), .int .i64 (P.rm k), .slice ak (P.m k) ck] 45)
      have kp := heap_alloc_new wr (.cells #[.bool (P.th k), .int .i64 (P.rm k), .slice ak (P.m k) ck] 45)
      obtain ⟨W1, hW1⟩ : ∃ u, wr.alloc (.cells #[.bool (P.th k), .int .i64 (P.rm k), .slice ak (P.m k) ck] 45) = u := ⟨_, rfl⟩
      rw [hW1] at hbA kp
      obtain ⟨p0, p1, p2⟩ := three_at kp
      have HBA := hid hbA
      have CS := hid (peFind (P.th k) (P.rm k) _ (P.m k) (UV k) (P.t k) ver W1 (G3.out.up hbA))
      obtain ⟨at9, hat⟩ : ∃ a, fstAt (P.t k).V ver (P.m k) 0 = a := ⟨_, rfl⟩
      have HHas : Hid (hasK P ver k = (P.th k && decide (0 ≤ at9)) ∧ atK P ver k = at9.toNat) := by unfold hasK atK; rw [hat]; exact ⟨rfl, rfl⟩
      rw [hat] at CS
      obtain ⟨t0, ht0⟩ : ∃ t, P.th k = t := ⟨_, rfl⟩
      have HT0 := hid ht0
      unfold peerV at CS
      rw [ht0] at CS p0 kp
      have KP := hid kp
      clear hbA kp hke hat hbw hbz hk3 ht0
      go_wp2_with fail
      refine Calls.mono CS.out ?_
      rintro e w2 ⟨rfl, hb2⟩
      have J2 := hid (HUp.out _ _ _ J.out (HBA.out.trans (hb2.mono HBA.out.size)))
      obtain ⟨p0, p1, p2⟩ := three_at (stayB KP.out hb2)
      have HB2 := hid hb2
      clear hb2 CS
      cases t0 with
      | false =>
        have hh : hasK P ver k = false := by rw [HHas.out.1, HT0.out]; rfl
        have JB := hid (HNo.out k _ hlt hh J2.out)
        clear hh
        go_wp2
        go_roundw
        case rel => exact ⟨k + 1, by omega, by go_num, JB⟩
        case measure => simp only [intOf]; omega
      | true =>
        by_cases hge : 0 ≤ at9
        · have hh : hasK P ver k = true := by rw [HHas.out.1, HT0.out, decide_eq_true hge]; rfl
          obtain ⟨q, rfl⟩ : ∃ q : Nat, at9 = q := ⟨at9.toNat, by omega⟩
          obtain ⟨_, hqm, _⟩ := hasK_at hh
          have hqe : atK P ver k = q := by rw [HHas.out.2, Int.toNat_natCast]
          rw [hqe] at hqm
          have HC := hid (HYes.out k w2 hlt hh J2.out)
          have hne : numK P ver k = (P.t k).N q := by unfold numK; rw [hqe]
          rw [hne, hqe] at HC
          rcases HK3.out with h9 | ⟨bk, ok, rfl, hbk, hx⟩
          · omega
          obtain ⟨_, x1, x2, x3⟩ := hx q hqm
          obtain ⟨au, cu, hue, _, _⟩ := x3
          rw [hue] at x2 HC
          have hb12 := HBA.out.trans (HB2.out.mono HBA.out.size)
          have y1 : w2.cell? ⟨bk, ok + q * 3 + 1, none⟩ = some (.int .i64 ((P.t k).N q)) := by rw [hb12.cell hbk]; exact x1
          have y2 : w2.cell? ⟨bk, ok + q * 3 + 2, none⟩ = some (.slice au ((P.t k).L q) cu) := by rw [hb12.cell hbk]; exact x2
          have hqi : (q : Int) < (P.m k : Int) := by omega
          clear hh hqe hne hx x1 x2 hue hb12
          go_wp2_with fail
          refine Calls.mono HC.out ?_
          rintro e w3 ⟨rfl, hI3⟩
          have JB := hid hI3
          clear hI3 HC p0 p1 p2 y1 y2
          go_wp2
          go_roundw
          case rel => exact ⟨k + 1, by omega, by go_num, JB⟩
          case measure => simp only [intOf]; omega
        · have hh : hasK P ver k = false := by rw [HHas.out.1, decide_eq_false hge, Bool.and_false]
          have JB := hid (HNo.out k _ hlt hh J2.out)
          have hgn : ¬ (at9 ≥ 0) := hge
          clear hh hge
          go_wp2
          go_roundw
          case rel => exact ⟨k + 1, by omega, by go_num, JB⟩
          case measure => simp only [intOf]; omega
    · have hke : np = k := by omega
      subst hke
      have hjn : ¬ (np : Int) < (np : Int) := by omega
      go_wp2
      refine bodyPost_end (results_none rfl _ _ _) rfl ?_
      exact ⟨rfl, J.out⟩

set_option maxHeartbeats 4000000 in
set_option maxRecDepth 10000 in
theorem auEachB (B : Nat) (w0 : World) (vb : Value) (vl : Value) (np : Nat) (KV : Nat → Value) (UV : Nat → Nat → Value) (P : Ps) (ver : Int) (gt : Nat) (I : Nat → World → Prop) (w : World) (hvb : ∃ a n c, vb = .slice a n c) (hl : PsSl w0 B vl np KV UV P) (h8 : np ≤ 1000)
    (hI : ∀ k wr, I k wr → Below B w0 wr ∧ B ≤ wr.heap.size) (hup : ∀ k wr w', I k wr → Below wr.heap.size wr w' → I k w') (hno : ∀ k wr, k < np → hasK P ver k = false → I k wr → I (k + 1) wr)
    (hyes : ∀ k wr, k < np → hasK P ver k = true → I k wr → Calls Tryz.prog 24 #[.int .i64 (k : Int), .agg #[.int .i64 (numK P ver k), UV k (atK P ver k)], .pointer (some ⟨gt, 0, none⟩)] wr fun e w' => e = .returned (.tuple #[]) ∧ I (k + 1) w') (h0 : I 0 w) :
    Calls Tryz.prog 20 #[meshV vb vl, .int .i64 ver, .func (.func 24) #[] #[.pointer (some ⟨gt, 0, none⟩)]] w fun e w' => e = .returned (.tuple #[]) ∧ I np w' := by
  obtain ⟨ab, nb, cb, rfl⟩ := hvb
  have HL := hid hl
  have HI : Hid (∀ k wr, I k wr → Below B w0 wr ∧ B ≤ wr.heap.size) := hI
  have HUp : Hid (∀ k wr w', I k wr → Below wr.heap.size wr w' → I k w') := hup
  have HNo : Hid (∀ k wr, k < np → hasK P ver k = false → I k wr → I (k + 1) wr) := hno
  have HYes := hid hyes
  obtain ⟨al, cl, rfl, _, _⟩ := hl
  have hb0 := below_alloc w (.cells #[.slice ab nb cb, .slice al np cl] 27)
  have k0 := heap_alloc_new w (.cells #[.slice ab nb cb, .slice al np cl] 27)
  have J0 := hid (HUp.out _ _ _ h0 hb0)
  obtain ⟨U, hU⟩ : ∃ u, w.alloc (.cells #[.slice ab nb cb, .slice al np cl] 27) = u := ⟨_, rfl⟩
  rw [hU] at J0 k0
  obtain ⟨c0, c1⟩ := two_at k0
  clear hI hup hno hyes h0 hb0 k0
  unfold meshV
  go_enter Tryz.func20, Tryz.ntmps20
  go_wp2
  clear c0 c1 hU
  go_loopw [12] (fun kv wr => ∃ k : Nat, k ≤ np ∧ kv = .int .i64 k ∧ Hid (I k wr)) (fun kv _ => np - (intOf kv).toNat)
  case atStart => exact ⟨0, Nat.zero_le _, rfl, J0⟩
  case round =>
    obtain ⟨k, hk, rfl, J⟩ := hrel
    by_cases hlt : k < np
    · have hki : (k : Int) < (np : Int) := by omega
      obtain ⟨hbw, hbz⟩ := HI.out _ _ J.out
      obtain ⟨bl, off, rfl, hbl, g0, g1, g2, g3⟩ := ((HL.out.below hbw).mono hbz).at hlt
      have G3 := hid g3
      obtain ⟨ak, ck, hke, _, hk3⟩ := g3
      rw [hke] at g2 G3
      have HK3 := hid hk3
      have hbA := below_alloc wr (.cells #[.bool (P.th k), .int .i64 (P.rm k), .slice ak (P.m k) ck] 45)
      have kp := heap_alloc_new wr (.cells #[.bool (P.th k), .int .i64 (P.rm k), .slice ak (P.m k) ck] 45)
      obtain ⟨W1, hW1⟩ : ∃ u, wr.alloc (.cells #[.bool (P.th k), .int .i64 (P.rm k), .slice ak (P.m k) ck] 45) = u := ⟨_, rfl⟩
      rw [hW1] at hbA kp
      obtain ⟨p0, p1, p2⟩ := three_at kp
      have HBA := hid hbA
      have CS := hid (peFind (P.th k) (P.rm k) _ (P.m k) (UV k) (P.t k) ver W1 (G3.out.up hbA))
      obtain ⟨at9, hat⟩ : ∃ a, fstAt (P.t k).V ver (P.m k) 0 = a := ⟨_, rfl⟩
      have HHas : Hid (hasK P ver k = (P.th k && decide (0 ≤ at9)) ∧ atK P ver k = at9.toNat) := by unfold hasK atK; rw [hat]; exact ⟨rfl, rfl⟩
      rw [hat] at CS
      obtain ⟨t0, ht0⟩ : ∃ t, P.th k = t := ⟨_, rfl⟩
      have HT0 := hid ht0
      unfold peerV at CS
      rw [ht0] at CS p0 kp
      have KP := hid kp
      clear hbA kp hke hat hbw hbz hk3 ht0
      go_wp2_with fail
      refine Calls.mono CS.out ?_
      rintro e w2 ⟨rfl, hb2⟩
      have J2 := hid (HUp.out _ _ _ J.out (HBA.out.trans (hb2.mono HBA.out.size)))
      obtain ⟨p0, p1, p2⟩ := three_at (stayB KP.out hb2)
      have HB2 := hid hb2
      clear hb2 CS
      cases t0 with
      | false =>
        have hh : hasK P ver k = false := by rw [HHas.out.1, HT0.out]; rfl
        have JB := hid (HNo.out k _ hlt hh J2.out)
        clear hh
        go_wp2
        go_roundw
        case rel => exact ⟨k + 1, by omega, by go_num, JB⟩
        case measure => simp only [intOf]; omega
      | true =>
        by_cases hge : 0 ≤ at9
        · have hh : hasK P ver k = true := by rw [HHas.out.1, HT0.out, decide_eq_true hge]; rfl
          obtain ⟨q, rfl⟩ : ∃ q : Nat, at9 = q := ⟨at9.toNat, by omega⟩
          obtain ⟨_, hqm, _⟩ := hasK_at hh
          have hqe : atK P ver k = q := by rw [HHas.out.2, Int.toNat_natCast]
          rw [hqe] at hqm
          have HC := hid (HYes.out k w2 hlt hh J2.out)
          have hne : numK P ver k = (P.t k).N q := by unfold numK; rw [hqe]
          rw [hne, hqe] at HC
          rcases HK3.out with h9 | ⟨bk, ok, rfl, hbk, hx⟩
          · omega
          obtain ⟨_, x1, x2, x3⟩ := hx q hqm
          obtain ⟨au, cu, hue, _, _⟩ := x3
          rw [hue] at x2 HC
          have hb12 := HBA.out.trans (HB2.out.mono HBA.out.size)
          have y1 : w2.cell? ⟨bk, ok + q * 3 + 1, none⟩ = some (.int .i64 ((P.t k).N q)) := by rw [hb12.cell hbk]; exact x1
          have y2 : w2.cell? ⟨bk, ok + q * 3 + 2, none⟩ = some (.slice au ((P.t k).L q) cu) := by rw [hb12.cell hbk]; exact x2
          have hqi : (q : Int) < (P.m k : Int) := by omega
          clear hh hqe hne hx x1 x2 hue hb12
          go_wp2_with fail
          refine Calls.mono HC.out ?_
          rintro e w3 ⟨rfl, hI3⟩
          have JB := hid hI3
          clear hI3 HC p0 p1 p2 y1 y2
          go_wp2
          go_roundw
          case rel => exact ⟨k + 1, by omega, by go_num, JB⟩
          case measure => simp only [intOf]; omega
        · have hh : hasK P ver k = false := by rw [HHas.out.1, decide_eq_false hge, Bool.and_false]
          have JB := hid (HNo.out k _ hlt hh J2.out)
          have hgn : ¬ (at9 ≥ 0) := hge
          clear hh hge
          go_wp2
          go_roundw
          case rel => exact ⟨k + 1, by omega, by go_num, JB⟩
          case measure => simp only [intOf]; omega
    · have hke : np = k := by omega
      subst hke
      have hjn : ¬ (np : Int) < (np : Int) := by omega
      go_wp2
      refine bodyPost_end (results_none rfl _ _ _) rfl ?_
      exact ⟨rfl, J.out⟩

end Go.Proofs.YtjfnpjmhippdoafGreat
