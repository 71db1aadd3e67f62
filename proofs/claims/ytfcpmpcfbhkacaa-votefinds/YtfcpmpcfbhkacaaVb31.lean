/- Several texts of one proof, in their order. -/
import Derived.Test.YtfcpmpcfbhkacaaVb30

/- What package vote asks of one choice: is it better than the best one so far? -/
namespace Go.Proofs.Ytfcpmpcfbhkacaa

open Go.RowKit CurveMath
set_option linter.unusedVariables false

set_option maxHeartbeats 2000000 in
set_option maxRecDepth 10000 in
theorem ask_any {w wr : World} {d m s R n : Nat} {N : Nat → Int} {V : Nat → Value} {L : Nat → Nat} {X : Nat → Nat → Int} {a : Option Addr} {cp bb : Nat} {st : Option (List Nat)} (hS : Shares d m s R n N L X) (h : ShSl w w.heap.size (.slice a n cp) n N V L X)
    (I : VInv w wr d m s R n N X (.slice a n cp) bb st) (c : List Nat) (hc : Rise n c) (hl : c.length = d) (vc : Value) (hv : ShSl wr wr.heap.size vc d (tak N c) (tak V c) (tak L c) (tak X c)) :
    Calls Try.prog 50 #[vc, .pointer (some ⟨w.heap.size, 0, none⟩), .pointer (some ⟨w.heap.size + 1, 0, none⟩), .pointer (some ⟨bb, 0, none⟩), .pointer (some ⟨bb + 1, 0, none⟩)] wr fun e w' =>
      e = .returned (.tuple #[]) ∧ VInv w w' d m s R n N X (.slice a n cp) bb (stepV d s R n N X st c) ∧ Kp bb (bb + 1) wr w' := by
  have HSt := hS.take hc hl
  have hJ := owes.join (d : Int) (m : Int) (s : Int) vc d (tak N c) (tak V c) (tak L c) (tak X c) wr hv
  rw [HSt.joinE] at hJ
  have e0 : madeB d s R (tak N c) (tak X c) = mkB d s R N X c := rfl
  rw [e0] at hJ
  obtain ⟨advc, cvc, hvc, _, _⟩ := hv
  subst hvc
  have q0 := I.p0
  have q1 := I.p1
  have q2 := I.p2
  have ql := I.l
  have HI := hid I
  have HS := hid hS
  have HL := hid h
  clear HSt hc hl h I hS e0
  have q24 : ∀ (w : World) (a : Option Addr) (n c : Nat), (binOp .eql 24 (.slice a n c) (.slice none 0 0)).run Try.prog w = .ok (.bool a.isNone) w := fun w a n c => Lib.run_eql_slice_nil w _ _ a n c 0 0 Try.underlying24
  cases hm : mkB d s R N X c with
  | false =>
    have hst : stepV d s R n N X st c = st := by unfold stepV; rw [if_neg (by rw [hm]; decide)]
    rw [hst]
    rw [hm, if_neg (by decide)] at hJ
    have HJ := hid hJ
    clear hJ hm hst
    go_enter Try.func50, Try.ntmps50
    go_wp2_with fail
    refine HJ.out.mono ?_
    rintro e w1 ⟨hb1, r, mm, rfl, -, hr⟩
    obtain ⟨ar, cr, hre, _, _⟩ := hr
    subst hre
    have HB1 := hid hb1
    clear hb1
    go_wp2
    refine bodyPost_ret (results_none rfl _ _ _) rfl ?_
    exact ⟨rfl, HI.out.up HB1.out, Kp.of_below HB1.out⟩
  | true =>
    rw [hm, if_pos rfl] at hJ
    have HJ := hid hJ
    have HM := hid hm
    clear hJ hm
    go_enter Try.func50, Try.ntmps50
    go_wp2_with fail
    refine HJ.out.mono ?_
    rintro e w1 ⟨hb1, r, mm, rfl, hmm, hr⟩
    simp only [if_true] at hmm
    have hmm' : s = mm := by omega
    subst hmm'
    rw [Int.toNat_natCast] at hr
    have HR := hid hr
    obtain ⟨ar, cr, hre, _, hrr⟩ := hr
    subst hre
    have HB1 := hid hb1
    have I1 := hid (HI.out.up hb1)
    have r0 := I1.out.p0
    have r1 := I1.out.p1
    have r2 := I1.out.p2
    have rl := I1.out.l
    have hsp : 1 ≤ s := by have := (planOk_spec HS.out.plan).2.2; omega
    have har : ar.isNone = false := by
      rcases hrr with h0 | ⟨b, o, rfl, _⟩
      · omega
      · rfl
    clear hb1 hrr hmm
    go_wp2_with fail
    refine Calls.mono (bent_any owes d m s R n _ N V L X _ (conD d N X c) w1 HS.out (HL.out.up I1.out.below) HR.out (fun j _ => by unfold conD joinD; exact crv_num _ _ _ _)) ?_
    rintro e w2 ⟨hb2, b, rfl, hob⟩
    have hbl := badL_len d s R n N X (conD d N X c)
    have hn8 := HS.out.le.2
    have HO := hid (hob.isl (by rw [srt_len]; omega))
    rw [srt_len] at HO
    have hsh := HO.out
    obtain ⟨ab, cb, hbe, _, _⟩ := hsh
    subst hbe
    have HB2 := hid (HB1.out.trans (hb2.mono HB1.out.size))
    have I2 := hid (I1.out.up hb2)
    have R2 := hid (HR.out.up hb2)
    clear hb2 hob
    obtain ⟨vb, vo, B1, B2, Hd⟩ := I2.out.held
    have c1 := B1.cell
    have c2 := B2.cell
    have f1 := B1.free
    have f2 := B2.free
    have hP : VInv w ((w2.setCell ⟨bb, 0, none⟩ (.slice ar s cr)).setCell ⟨bb + 1, 0, none⟩ (.slice ab (badL d s R n N X (conD d N X c)).length cb)) d m s R n N X (.slice a n cp) bb (some c) ∧ Kp bb (bb + 1) w2 ((w2.setCell ⟨bb, 0, none⟩ (.slice ar s cr)).setCell ⟨bb + 1, 0, none⟩ (.slice ab (badL d s R n N X (conD d N X c)).length cb)) := I2.out.put R2.out HO.out
    have HP := hid hP
    clear hP
    rcases Hd with ⟨hst, rfl, rfl⟩ | ⟨b, hst, hb1, hb2⟩
    · have hs2 : stepV d s R n N X st c = some c := by unfold stepV; rw [if_pos HM.out, hst]
      have HS2 := hid hs2
      clear hst hs2
      go_wp2
      go_end0
      exact ⟨rfl, by rw [HS2.out]; exact HP.out.1, (Kp.of_below HB2.out).trans HP.out.2⟩
    · obtain ⟨avb, cvb, hve, _, hvv⟩ := hb1
      obtain ⟨avo, cvo, hoe, _, _⟩ := hb2
      subst hve
      subst hoe
      have hav : avb.isNone = false := by
        rcases hvv with h0 | ⟨b, o, rfl, _⟩
        · omega
        · rfl
      clear hvv
      have HSt := hid hst
      clear hst
      by_cases hlt : (badL d s R n N X (conD d N X c)).length < (badL d s R n N X (conD d N X b)).length
      · have hs2 : stepV d s R n N X st c = some c := by unfold stepV; rw [if_pos HM.out, HSt.out]; simp only [hlt, if_true]
        have HS2 := hid hs2
        have hli : ((badL d s R n N X (conD d N X c)).length : Int) < ((badL d s R n N X (conD d N X b)).length : Int) := by omega
        clear hs2
        go_wp2
        go_end0
        exact ⟨rfl, by rw [HS2.out]; exact HP.out.1, (Kp.of_below HB2.out).trans HP.out.2⟩
      · have hs2 : stepV d s R n N X st c = some b := by unfold stepV; rw [if_pos HM.out, HSt.out]; simp only [hlt, if_false]
        have HS2 := hid hs2
        have hli : ¬ ((badL d s R n N X (conD d N X c)).length : Int) < ((badL d s R n N X (conD d N X b)).length : Int) := by omega
        clear hs2
        go_wp2
        go_end0
        exact ⟨rfl, by rw [HS2.out, ← HSt.out]; exact I2.out, Kp.of_below HB2.out⟩

end Go.Proofs.Ytfcpmpcfbhkacaa
