/- Several texts of one proof, in their order. -/
import Derived.Test.YtfcpmpcfbhkacaaVb32
import Derived.Laws.EntriesVeiled
import Derived.OwnWalk

/- What package vote owes, it pays: what most shares are of, and the numbers of all others. -/
namespace Go.Proofs.Ytfcpmpcfbhkacaa

open Go.RowKit CurveMath
set_option linter.unusedVariables false

theorem three_new (w : World) (o1 o2 o3 : Obj) : Below w.heap.size w (((w.alloc o1).alloc o2).alloc o3) ∧ (((w.alloc o1).alloc o2).alloc o3).heap[w.heap.size]? = some o1 ∧ (((w.alloc o1).alloc o2).alloc o3).heap[w.heap.size + 1]? = some o2 ∧ (((w.alloc o1).alloc o2).alloc o3).heap[w.heap.size + 2]? = some o3 := by
  refine ⟨((Below.refl _ _).alloc (Nat.le_refl _) _).alloc (by simp) _ |>.alloc (by simp; omega) _, ?_, ?_, ?_⟩
  · rw [Below.heap_alloc _ _ _ (by simp; omega), Below.heap_alloc _ _ _ (by simp)]; exact heap_alloc_new _ _
  · rw [Below.heap_alloc _ _ _ (by simp)]; have := heap_alloc_new (w.alloc o1) o2; simpa using this
  · have := heap_alloc_new ((w.alloc o1).alloc o2) o3; simpa using this

theorem two_new (w : World) (o1 o2 : Obj) : Below w.heap.size w ((w.alloc o1).alloc o2) ∧ ((w.alloc o1).alloc o2).heap[w.heap.size]? = some o1 ∧ ((w.alloc o1).alloc o2).heap[w.heap.size + 1]? = some o2 := by
  refine ⟨((Below.refl _ _).alloc (Nat.le_refl _) _).alloc (by simp) _, ?_, ?_⟩
  · rw [Below.heap_alloc _ _ _ (by simp)]; exact heap_alloc_new _ _
  · have := heap_alloc_new (w.alloc o1) o2; simpa using this

set_option maxHeartbeats 2000000 in
set_option maxRecDepth 10000 in
theorem each_any {w wr : World} {d m s R n : Nat} {N : Nat → Int} {V : Nat → Value} {L : Nat → Nat} {X : Nat → Nat → Int} {a : Option Addr} {cp bb : Nat} {st : Option (List Nat)} (hS : Shares d m s R n N L X) (h : ShSl w w.heap.size (.slice a n cp) n N V L X)
    (I : VInv w wr d m s R n N X (.slice a n cp) bb st) (hlt : bb + 1 < wr.heap.size) :
    Calls Try.prog 49 #[.int .i64 (d : Int), .slice a n cp, askF w.heap.size bb] wr
      (TryPost w wr d m s R n N X (.slice a n cp) bb ((comb d (List.range n)).foldl (stepV d s R n N X) st)) := by
  obtain ⟨hb3, c1, c2, c3⟩ := three_new wr (.cells #[.int .i64 (d : Int)] 3) (.cells #[askF w.heap.size bb] 56) (.cells #[tryF wr.heap.size] 89)
  have hE : EInv _ d wr.heap.size w.heap.size bb := ⟨cell_at c1 rfl, cell_at c2 rfl, cell_at c3 rfl, hlt⟩
  have hT := try_any (bb := bb) (em := wr.heap.size) hS h d [] 0 _ (.slice none 0 0) (.slice a n cp) st (by simp) ⟨List.Pairwise.nil, fun x hx => by cases hx⟩ (Nat.zero_le _) (I.up hb3) hE (Or.inl ⟨rfl, rfl⟩) (by simpa using h)
  have e1 : (comb d (List.range' 0 (n - 0))).map (([] : List Nat) ++ ·) = comb d (List.range n) := by
    rw [Nat.sub_zero, List.range_eq_range']
    simp
  rw [e1] at hT
  unfold askF tryF at hT
  unfold askF tryF at hb3
  unfold askF
  have HT := hid hT
  have HB3 := hid hb3
  clear hT hb3 hE c1 c2 c3 hS h I
  go_enter Try.func49, Try.ntmps49
  go_wp2_with fail
  refine HT.out.mono ?_
  rintro e w1 ⟨rfl, h1, h2⟩
  have H1 := hid h1
  have H2 := hid h2
  clear h1 h2
  go_wp2
  go_end0
  exact ⟨rfl, H1.out, (Kp.of_below HB3.out).trans H2.out⟩

theorem joinE_nine {nd of sz : Int} {n : Nat} {N : Nat → Int} {L : Nat → Nat} {X : Nat → Nat → Int} (h : joinE nd of sz n N L X = 9) : checksE nd of sz n N L X = 0 := by
  rw [joinE_checks] at h
  by_cases hc : checksE nd of sz n N L X = 0
  · exact hc
  · rw [if_neg hc] at h
    exfalso
    unfold checksE at h
    by_cases h1 : planOk nd of sz = true
    · rw [if_pos h1] at h
      by_cases h2 : n ≤ 8
      · rw [if_pos h2] at h
        by_cases h3 : scanS nd of sz N L X n 0 = 0
        · rw [if_pos h3] at h
          by_cases h4 : nd ≤ (n : Int)
          · rw [if_pos h4] at h; omega
          · rw [if_neg h4] at h; omega
        · rw [if_neg h3] at h
          have key : ∀ m k, scanS nd of sz N L X m k ≠ 9 := by
            intro m
            induction m with
            | zero => intro k; simp [scanS]
            | succ m ih =>
              intro k
              simp only [scanS]
              by_cases g1 : oneE nd of sz (N k) (L k) (X k) = 0
              · rw [if_pos g1]
                by_cases g2 : hasB N k (N k) = true
                · rw [if_pos g2]; decide
                · rw [if_neg g2]; exact ih _
              · rw [if_neg g1]
                unfold oneE
                repeat' split
                all_goals decide
          exact key n 0 h
      · rw [if_neg h2] at h; omega
    · rw [if_neg h1] at h; omega

set_option maxHeartbeats 2000000 in
set_option maxRecDepth 10000 in
theorem most_any (nd of sz : Int) (v : Value) (n : Nat) (N : Nat → Int) (V : Nat → Value) (L : Nat → Nat) (X : Nat → Nat → Int) (w : World) (h : ShSl w w.heap.size v n N V L X) :
    Calls Try.prog 30 #[planV nd of sz, v] w (MostPost w nd of sz n N L X) := by
  have HS := hid h
  obtain ⟨ad, cap, rfl, ⟨hcap, hbig⟩, hx⟩ := h
  obtain ⟨hb2, c1, c2⟩ := two_new w (.cells #[.int .i64 nd, .int .i64 of, .int .i64 sz] 23) (.cells #[.slice ad n cap] 25)
  have HJ := hid (owes.join nd of sz _ n N V L X _ (HS.out.up hb2))
  have q0 := cell_at (i := 0) c1 rfl
  have q1 := cell_at (i := 1) c1 rfl
  have q2 := cell_at (i := 2) c1 rfl
  have ql := cell_at (i := 0) c2 rfl
  have HB2 := hid hb2
  have HC1 := hid c1
  have HC2 := hid c2
  clear hb2 c1 c2 hx
  have q24 : ∀ (w : World) (a : Option Addr) (n c : Nat), (binOp .eql 24 (.slice a n c) (.slice none 0 0)).run Try.prog w = .ok (.bool a.isNone) w := fun w a n c => Lib.run_eql_slice_nil w _ _ a n c 0 0 Try.underlying24
  by_cases hj : joinE nd of sz n N L X = 9
  · obtain ⟨d, m, s, R, rfl, rfl, rfl, hSh⟩ := checks_ok (joinE_nine hj)
    rw [hj] at HJ
    have HSh := hid hSh
    have hsp : 1 ≤ s := by have := (planOk_spec hSh.plan).2.2; omega
    have hch := hSh.checks
    have HCh := hid hch
    clear hj hSh hch
    unfold planV
    go_enter Try.func30, Try.ntmps30
    go_wp2_with fail
    refine HJ.out.mono ?_
    rintro e w1 ⟨hb1, r, mm, rfl, hmm, hr⟩
    obtain ⟨ar, cr, hre, _, _⟩ := hr
    subst hre
    have r0 : w1.cell? ⟨w.heap.size, 0, none⟩ = some (.int .i64 (d : Int)) := by rw [hb1.cell (cell_lt q0)]; exact q0
    have r1 : w1.cell? ⟨w.heap.size, 1, none⟩ = some (.int .i64 (m : Int)) := by rw [hb1.cell (cell_lt q1)]; exact q1
    have r2 : w1.cell? ⟨w.heap.size, 2, none⟩ = some (.int .i64 (s : Int)) := by rw [hb1.cell (cell_lt q2)]; exact q2
    have rl : w1.cell? ⟨w.heap.size + 1, 0, none⟩ = some (.slice ad n cap) := by rw [hb1.cell (cell_lt ql)]; exact ql
    have HB1 := hid (HB2.out.trans (hb1.mono HB2.out.size))
    clear hb1 hmm q0 q1 q2 ql
    obtain ⟨hb3, d1, d2⟩ := two_new w1 (.cells #[.slice none 0 0] 24) (.cells #[.slice none 0 0] 24)
    obtain ⟨w2, hw2⟩ : ∃ w2, (w1.alloc (.cells #[.slice none 0 0] 24)).alloc (.cells #[.slice none 0 0] 24) = w2 := ⟨_, rfl⟩
    rw [hw2] at hb3 d1 d2
    have t0 : w2.cell? ⟨w.heap.size, 0, none⟩ = some (.int .i64 (d : Int)) := by rw [hb3.cell (cell_lt r0)]; exact r0
    have t1 : w2.cell? ⟨w.heap.size, 1, none⟩ = some (.int .i64 (m : Int)) := by rw [hb3.cell (cell_lt r1)]; exact r1
    have t2 : w2.cell? ⟨w.heap.size, 2, none⟩ = some (.int .i64 (s : Int)) := by rw [hb3.cell (cell_lt r2)]; exact r2
    have tl : w2.cell? ⟨w.heap.size + 1, 0, none⟩ = some (.slice ad n cap) := by rw [hb3.cell (cell_lt rl)]; exact rl
    have I2 : VInv w w2 d m s R n N X (.slice ad n cap) w1.heap.size none := ⟨HB1.out.trans (hb3.mono HB1.out.size), t0, t1, t2, tl, cell_lt rl, _, _, ⟨d1, _, _, _, rfl⟩, ⟨d2, _, _, _, rfl⟩, Or.inl ⟨rfl, rfl, rfl⟩⟩
    have hE := each_any HSh.out HS.out I2 (Array.getElem?_eq_some_iff.1 d2).1
    unfold askF at hE
    have HE := hid hE
    clear hE I2 hb3 d1 d2 r0 r1 r2 rl
    go_wp2_with fail
    refine HE.out.mono ?_
    rintro e w3 ⟨rfl, h3, -⟩
    have HI3 := hid h3
    obtain ⟨vb, vo, B1, B2, Hd⟩ := h3.held
    have b1 := B1.cell
    have b2 := B2.cell
    clear h3 t0 t1 t2 tl B1 B2
    rcases Hd with ⟨hst, rfl, rfl⟩ | ⟨c, hst, hb1, hb2⟩
    · have hE : mostE (d : Int) (m : Int) (s : Int) n N L X = 9 := by
        unfold mostE mostC electV
        rw [if_pos HCh.out, Int.toNat_natCast, Int.toNat_natCast, HSh.out.rows, hst]
        rfl
      have HE9 := hid hE
      clear hE hst
      go_wp2
      go_ret3
      exact most_err HI3.out.below HE9.out (by decide) none 0
    · have hC : mostC (d : Int) (s : Int) n N X = some c := by
        unfold mostC electV
        rw [Int.toNat_natCast, Int.toNat_natCast, HSh.out.rows, hst]
      have hE : mostE (d : Int) (m : Int) (s : Int) n N L X = 0 := by
        unfold mostE
        rw [if_pos HCh.out, hC]
        rfl
      have hD : mostD (d : Int) (s : Int) n N X = conD d N X c := by
        unfold mostD
        rw [hC, Int.toNat_natCast]
        rfl
      have hB : mostB (d : Int) (m : Int) (s : Int) n N L X = srt (badL d s R n N X (conD d N X c)) := by
        unfold mostB
        rw [if_pos hE, hD, Int.toNat_natCast, Int.toNat_natCast, HSh.out.rows]
      have HEE := hid hE
      have HDD := hid hD
      have HBB := hid hB
      have H1 := hid hb1
      have H2 := hid hb2
      obtain ⟨avb, cvb, hve, _, hvv⟩ := hb1
      obtain ⟨avo, cvo, hoe, _, _⟩ := hb2
      subst hve
      subst hoe
      have hav : avb.isNone = false := by
        rcases hvv with h0 | ⟨b, o, rfl, _⟩
        · omega
        · rfl
      clear hE hD hB hC hst hvv
      go_wp2
      go_quiet (fail)
      go_wp2
      have hdr : Below w3.heap.size w3 (w3.drewN nq) := ⟨rfl, rfl, rfl, Nat.le_refl _, fun _ _ => rfl⟩
      go_ret3
      refine ⟨HI3.out.below.trans (hdr.mono HI3.out.below.size), _, _, s, by rw [HEE.out]; rfl, by rw [HEE.out, if_pos rfl], ?_, ?_⟩
      · rw [HDD.out]; exact H1.out.up hdr
      · rw [HBB.out, srt_len]; exact H2.out.up hdr
  · obtain ⟨k1, k2, k3⟩ := most_join hj
    have K1 := hid k1
    have K2 := hid k2
    have K3 := hid k3
    obtain ⟨c, hc⟩ : ∃ c, joinE nd of sz n N L X = c := ⟨_, rfl⟩
    rw [hc] at HJ hj K1 K3
    have hcb : (c != 9) = true := by simpa using hj
    clear hc hj k1 k2 k3
    unfold planV
    go_enter Try.func30, Try.ntmps30
    go_wp2_with fail
    refine HJ.out.mono ?_
    rintro e w1 ⟨hb1, r, mm, rfl, hmm, hr⟩
    have HR := hid hr
    have HM := hid hmm
    have HB1 := hid (HB2.out.trans (hb1.mono HB2.out.size))
    obtain ⟨ar, cr, hre, _, _⟩ := hr
    subst hre
    clear hb1 hmm q0 q1 q2 ql
    go_wp2
    go_ret3
    refine ⟨HB1.out, _, _, mm, by rw [K1.out]; rfl, by rw [K1.out]; exact HM.out, ?_, ?_⟩
    · refine HR.out.congr fun i hi => ?_
      have hmm := HM.out
      by_cases h0 : c = 0
      · rw [if_pos h0] at hmm
        exact (K3.out h0 i (by omega)).symm
      · rw [if_neg h0] at hmm
        omega
    · rw [K2.out]
      exact ⟨none, 0, rfl, ⟨Nat.le_refl _, by decide⟩, Or.inl rfl⟩

end Go.Proofs.Ytfcpmpcfbhkacaa
