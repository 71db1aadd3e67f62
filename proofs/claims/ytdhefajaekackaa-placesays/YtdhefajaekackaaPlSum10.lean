/- Several texts of one proof, in their order. -/
import Derived.Test.YtdhefajaekackaaPlSum9

/- What chapter 8's reference answers: the peers' error; who gets a share. -/
namespace Go.Proofs.Ytdhefajaekackaa

open Go.RowKit
set_option linter.unusedVariables false

set_option maxHeartbeats 4000000 in
theorem checkPeers_any (vb : Value) (n : Nat) (PV : Nat → Value) (b : Bk) (vl : Value) (np : Nat) (KV : Nat → Value) (UV : Nat → Nat → Value) (P : Ps) (w : World) (hv : VeSl w w.heap.size vb n PV b) (hl : PsSl w w.heap.size vl np KV UV P) :
    Calls Try.prog 47 #[bookV vb, vl] w fun e w' => e = .returned (.int .i64 (peersE n b np P)) ∧ Below w.heap.size w w' := by
  have HV := hid hv
  have HL := hid hl
  obtain ⟨ad, cap, rfl, _, _⟩ := hv
  obtain ⟨al, cl, rfl, ⟨hcl, hbig⟩, _⟩ := hl
  have hbx := below_alloc w (.cells #[.slice ad n cap] 24)
  have HCk := hid (checkBook_any _ n PV b _ (HV.out.up hbx))
  have k0 := heap_alloc_new w (.cells #[.slice ad n cap] 24)
  have c0 : (w.alloc (.cells #[.slice ad n cap] 24)).cell? ⟨w.heap.size, 0, none⟩ = some (.slice ad n cap) := cell_at k0 rfl
  have HK0 := hid k0
  have HBx := hid hbx
  obtain ⟨ans, hans⟩ : ∃ c, peersE n b np P = c := ⟨_, rfl⟩
  rw [hans]
  unfold peersE at hans
  obtain ⟨c, hcc⟩ : ∃ c, bookE n b = c := ⟨_, rfl⟩
  rw [hcc] at HCk hans
  have HA := hid hans
  clear hbx hans hcc k0
  unfold bookV at HCk
  unfold bookV
  go_enter Try.func47, Try.ntmps47
  go_wp2_with fail
  refine Calls.mono HCk.out ?_
  rintro e W ⟨rfl, hbW⟩
  have HBW := hid (HBx.out.trans (hbW.mono HBx.out.size))
  have HKW := hid (stayB HK0.out hbW)
  clear hbW HCk c0
  by_cases hc0 : c = 0
  · subst hc0
    have ha := HA.out
    rw [if_pos rfl] at ha
    by_cases h8 : np ≤ 8
    · rw [if_pos h8] at ha
      have HS0 := hid ha
      clear ha HA
      have h8i : ¬ (8 : Int) < (np : Int) := by omega
      go_wp2
      go_loopw [19] (fun iv wr => ∃ k : Nat, k ≤ np ∧ iv = .int .i64 k ∧ Hid (Below W.heap.size W wr) ∧ Hid (scanP n b P (np - k) k = ans)) (fun iv _ => np - (intOf iv).toNat)
      case atStart => exact ⟨0, Nat.zero_le _, rfl, Below.refl _ _, HS0⟩
      case round =>
        obtain ⟨k, hk, rfl, HB, HS⟩ := hrel
        by_cases hlt : k < np
        · have hki : (k : Int) < (np : Int) := by omega
          have HBr := hid (HBW.out.trans (HB.out.mono HBW.out.size))
          obtain ⟨bl, off, rfl, hbl, g0, g1, g2, g3⟩ := (HL.out.up HBr.out).at hlt
          have G3 := hid g3
          obtain ⟨ak, ck, hke, _, _⟩ := g3
          rw [hke] at g2 G3
          have hbA := below_alloc wr (.cells #[.bool (P.th k), .int .i64 (P.rm k), .slice ak (P.m k) ck] 58)
          have hstep := HS.out
          rw [show np - k = (np - (k + 1)) + 1 by omega] at hstep
          simp only [scanP] at hstep
          have HCp := hid (checkPeer_any _ n PV b (P.th k) (P.rm k) _ (P.m k) (UV k) (P.t k) _ ((HV.out.up HBr.out).up hbA) (G3.out.up hbA))
          have cb : wr.cell? ⟨w.heap.size, 0, none⟩ = some (.slice ad n cap) := cell_at (stayB HKW.out HB.out) rfl
          have cb2 : (wr.alloc (.cells #[.bool (P.th k), .int .i64 (P.rm k), .slice ak (P.m k) ck] 58)).cell? ⟨w.heap.size, 0, none⟩ = some (.slice ad n cap) := by rw [hbA.cell (cell_lt cb)]; exact cb
          have HBA := hid (HB.out.trans (hbA.mono HB.out.size))
          obtain ⟨ep, hep⟩ : ∃ x, peerE n b (P.rm k) (P.m k) (P.t k) = x := ⟨_, rfl⟩
          rw [hep] at HCp hstep
          have HSt := hid hstep
          clear hep hstep hbA hke
          unfold bookV peerV at HCp
          go_wp2_with fail
          refine Calls.mono HCp.out ?_
          rintro e w2 ⟨rfl, hb2⟩
          have HB2 := hid (HBA.out.trans (hb2.mono HBA.out.size))
          clear hb2 HCp cb cb2 g0 g1 g2
          by_cases he : ep = 0
          · have hst := HSt.out
            rw [if_pos he] at hst
            have HNx := hid hst
            have heb : (ep != 0) = false := by rw [bne_eq_false_iff_eq]; exact he
            clear hst he
            go_wp2
            go_roundw
            case rel => exact ⟨k + 1, by omega, by go_num, HB2, HNx⟩
            case measure => simp only [intOf]; omega
          · have hst := HSt.out
            rw [if_neg he] at hst
            have heb : (ep != 0) = true := by simpa using he
            have HFn := hid hst
            clear hst he
            go_wp2
            go_ret
            exact ⟨by rw [HFn.out]; rfl, HBW.out.trans (HB2.out.mono HBW.out.size)⟩
        · have hke : np = k := by omega
          subst hke
          have hst := HS.out
          rw [Nat.sub_self] at hst
          have HFin : Hid ((0 : Int) = ans) := hst
          clear hst
          go_wp2
          go_ret
          exact ⟨by rw [← HFin.out]; rfl, HBW.out.trans (HB.out.mono HBW.out.size)⟩
    · rw [if_neg h8] at ha
      subst ha
      have h8i : (8 : Int) < (np : Int) := by omega
      clear HA
      go_wp2
      go_ret
      exact ⟨rfl, HBW.out⟩
  · have hcb : (c != 0) = true := by simpa using hc0
    have ha := HA.out
    rw [if_neg hc0] at ha
    subst ha
    clear hc0 HA
    go_wp2
    go_ret
    exact ⟨rfl, HBW.out⟩

/-- some of them -/
theorem isl_take {w : World} {B : Nat} {a : Option Addr} {c q : Nat} {l : List Int} (h : IntSl w B (.slice a l.length c) l.length (fun j => l.getD j 0)) (hq : q ≤ l.length) : IntSl w B (.slice a q c) (l.take q).length (fun j => (l.take q).getD j 0) := by
  obtain ⟨ad, cap, he, ⟨h0, h1⟩, h2⟩ := h
  injection he with e1 _ e3
  subst e1 e3
  have hl : (l.take q).length = q := by rw [List.length_take]; omega
  rw [hl]
  refine ⟨a, c, rfl, ⟨by omega, by omega⟩, ?_⟩
  by_cases hq0 : q = 0
  · exact Or.inl hq0
  rcases h2 with h2 | ⟨b, off, rfl, h4, h5⟩
  · omega
  · refine Or.inr ⟨b, off, rfl, h4, fun j hj => ?_⟩
    rw [h5 j (by omega)]
    congr 2
    simp [List.getD_eq_getElem?_getD, hj]

set_option maxHeartbeats 4000000 in
set_option maxRecDepth 10000 in
theorem placesFor_any (vl : Value) (np : Nat) (KV : Nat → Value) (UV : Nat → Nat → Value) (P : Ps) (ver many : Int) (w : World) (hn : np ≤ 8) (hr : ∀ k, k < np → (0 ≤ P.rm k ∧ P.rm k ≤ 20) ∧ (P.m k : Int) ≤ P.rm k) (hl : PsSl w w.heap.size vl np KV UV P) :
    Calls Try.prog 50 #[vl, .int .i64 ver, .int .i64 many] w (LiPost w (forL P ver np many) (manyE P ver np many)) := by
  have HL := hid hl
  have HR := hid hr
  obtain ⟨al, cl, rfl, ⟨hcl, hbig⟩, _⟩ := hl
  obtain ⟨ii, hii, hzz0, hzz1, hzz2⟩ := info_parts Try.infoInt
  obtain ⟨er, her⟩ : ∃ c, manyE P ver np many = c := ⟨_, rfl⟩
  obtain ⟨lo, hlo⟩ : ∃ c, forL P ver np many = c := ⟨_, rfl⟩
  rw [her, hlo]
  unfold forL at hlo
  rw [her] at hlo
  unfold manyE at her
  have HEr := hid her
  have HLo := hid hlo
  have HIn := hid (in_any many 0 8 w)
  clear hr her hlo
  by_cases h8 : 0 ≤ many ∧ many ≤ 8
  · rw [decide_eq_true h8] at HIn
    obtain ⟨q, rfl⟩ : ∃ q : Nat, many = q := ⟨many.toNat, by omega⟩
    go_enter Try.func50, Try.ntmps50
    go_wp2_with fail
    refine Calls.mono HIn.out ?_
    rintro e w1 ⟨rfl, hw1⟩
    subst w1
    go_wp2
    go_loopw [8, 9] (fun vo lv wr => ∃ (r : Nat) (D : List Int), r ≤ 20 ∧ lv = .int .i64 r ∧ Hid (OwnL w wr vo D) ∧ Hid (D ++ lefts P ver np r = orderL P ver np) ∧ Hid (D.length ≤ (20 - r) * 8)) (fun _ lv _ => (intOf lv).toNat)
    case atStart => exact ⟨20, [], Nat.le_refl _, rfl, OwnL.nil _, rfl, Nat.zero_le _⟩
    case round =>
      obtain ⟨r, D, hr20, rfl, OW, HO, HDl⟩ := hrel
      by_cases hr0 : r = 0
      · subst hr0
        have hD : D = orderL P ver np := by have h := HO.out; simpa [lefts] using h
        have hdl := HDl.out
        have hs := OW.out.isl (by omega)
        have HS := hid hs
        obtain ⟨ao, co, rfl, ⟨hco, _⟩, _⟩ := hs
        have hE := HEr.out
        have hL := HLo.out
        rw [if_pos h8, ← hD] at hE
        rw [← hD] at hL
        clear hD HO
        by_cases hsh : D.length < q
        · rw [if_pos (by omega)] at hE
          subst hE
          rw [if_neg (by decide)] at hL
          subst hL
          have hsi : (D.length : Int) < (q : Int) := by omega
          go_wp2
          go_ret2
          exact liPost_nil OW.out.2
        · rw [if_neg (by omega)] at hE
          subst hE
          rw [if_pos rfl, Int.toNat_natCast] at hL
          have HLl := hid hL
          have hsi : ¬ (D.length : Int) < (q : Int) := by omega
          have hqc : (q : Int) ≤ (co : Int) := by omega
          clear hL
          go_wp2
          go_ret2
          exact ⟨OW.out.2, _, rfl, by rw [← HLl.out]; exact isl_take HS.out (by omega)⟩
      · obtain ⟨r', rfl⟩ : ∃ r', r = r' + 1 := ⟨r - 1, by omega⟩
        have hrp : (0 : Int) < ((r' + 1 : Nat) : Int) := by omega
        go_wp2
        obtain ⟨vo, hvo⟩ : ∃ vo, u8 = vo := ⟨_, rfl⟩
        subst hvo
        obtain ⟨w0, hw0⟩ : ∃ w0, wr = w0 := ⟨_, rfl⟩
        subst hw0
        go_loopw [8, 21] (fun vo kv wz => ∃ k : Nat, k ≤ np ∧ kv = .int .i64 k ∧ Hid (OwnL w wz vo (D ++ pickL (fitK P ver ((r' + 1 : Nat) : Int)) k))) (fun _ kv _ => np - (intOf kv).toNat)
        case atStart => exact ⟨0, Nat.zero_le _, rfl, by show OwnL _ _ _ _; rw [show pickL (fitK P ver ((r' + 1 : Nat) : Int)) 0 = [] from rfl, List.append_nil]; exact OW.out⟩
        case round =>
          obtain ⟨k, hk, rfl, OZ⟩ := hrel
          obtain ⟨R, hR⟩ : ∃ R : Int, ((r' + 1 : Nat) : Int) = R := ⟨_, rfl⟩
          rw [hR] at OZ ⊢
          have hRb : 1 ≤ R ∧ R ≤ 20 := by omega
          have HRr := hid hR
          clear hR hrp
          by_cases hlt : k < np
          · have hki : (k : Int) < (np : Int) := by omega
            obtain ⟨bl, off, rfl, hbl, g0, g1, g2, g3⟩ := (HL.out.up OZ.out.2).at hlt
            have G3 := hid g3
            obtain ⟨ak, ck, hke, _, _⟩ := g3
            rw [hke] at g2 G3
            have hbA := below_alloc wr (.cells #[.bool (P.th k), .int .i64 (P.rm k), .slice ak (P.m k) ck] 58)
            have HAt := hid (atPeer_any (P.th k) (P.rm k) _ (P.m k) (UV k) (P.t k) ver _ (G3.out.up hbA))
            have hrk := HR.out k hlt
            have hsc := pickL_succ (fitK P ver R) k
            have hll := pickL_len (fitK P ver R) k
            have hdl := HDl.out
            have OA := hid (OZ.out.up hbA)
            have hfit : fitK P ver R k = (P.th k && (decide (leftK P k = R) && noneK P ver k)) := rfl
            unfold leftK noneK at hfit
            obtain ⟨fa, hfa⟩ : ∃ x, fstAt (P.t k).V ver (P.m k) 0 = x := ⟨_, rfl⟩
            rw [hfa] at HAt hfit
            obtain ⟨rm, hrm⟩ : ∃ x, P.rm k = x := ⟨_, rfl⟩
            obtain ⟨mk, hmk⟩ : ∃ x, P.m k = x := ⟨_, rfl⟩
            obtain ⟨thk, hthk⟩ : ∃ x, P.th k = x := ⟨_, rfl⟩
            rw [hrm] at g1 HAt hrk hfit OA
            rw [hmk] at g2 HAt hrk hfit OA
            rw [hthk] at g0 HAt hfit OA
            clear hbA hke hfa hrm hmk hthk G3
            unfold peerV at HAt
            cases thk with
            | false =>
              rw [Bool.false_and] at hfit
              rw [hfit, if_neg (by decide), List.append_nil] at hsc
              have HSc := hid hsc
              clear hsc hfit
              go_wp2
              go_roundw
              case rel => exact ⟨k + 1, by omega, by go_num, by rw [HSc.out]; exact OA.out⟩
              case measure => simp only [intOf]; omega
            | true =>
              rw [Bool.true_and] at hfit
              by_cases hle : rm - (mk : Int) = R
              · rw [decide_eq_true hle, Bool.true_and] at hfit
                have hlb : (rm - (mk : Int) == R) = true := by rw [beq_iff_eq]; exact hle
                have HLe := hid hle
                clear hle
                go_wp2_with fail
                refine Calls.mono HAt.out ?_
                rintro e w2 ⟨rfl, hb2⟩
                have O2 := hid (OA.out.up hb2)
                have hge : w.heap.size ≤ w2.heap.size := O2.out.2.size
                clear hb2 HAt
                by_cases hfn : fa < 0
                · rw [decide_eq_true hfn] at hfit
                  rw [hfit, if_pos rfl] at hsc
                  have HSc := hid hsc
                  have hlen : (D ++ pickL (fitK P ver R) k).length ≤ 200 := by rw [List.length_append]; omega
                  clear hsc hfit
                  go_wp2_with (at_builtin; go_must (refine wpList_append_own _ rfl (.tmp 44) (.tmp 46) 25 rfl w.heap.size 3 ii (.int .i64 0) 1 8 Try.underlying25 hii hzz0 hzz1 hzz2 rfl (by decide) _ _ _ rfl (World.ownsRow.alloc O2.out.1 _) ⟨_, 0, none⟩ 1 1 [.int .i64 (k : Int)] rfl rfl (newCell _ _ _) (oneCell _) (by unfold maxLen; omega) (by omega) (by simp; omega) ?_; intro v1 w6 ho6 hg6 _; have O6 := hid (O2.out.push ho6 hg6); clear ho6 hg6))
                  go_roundw
                  case rel => exact ⟨k + 1, by omega, by go_num, by rw [HSc.out, ← List.append_assoc]; exact O6.out⟩
                  case measure => simp only [intOf]; omega
                · rw [decide_eq_false hfn] at hfit
                  rw [hfit, if_neg (by decide), List.append_nil] at hsc
                  have HSc := hid hsc
                  clear hsc hfit
                  go_wp2
                  go_roundw
                  case rel => exact ⟨k + 1, by omega, by go_num, by rw [HSc.out]; exact O2.out⟩
                  case measure => simp only [intOf]; omega
              · rw [decide_eq_false hle, Bool.false_and] at hfit
                have hlb : (rm - (mk : Int) == R) = false := by rw [beq_eq_false_iff_ne]; exact hle
                rw [hfit, if_neg (by decide), List.append_nil] at hsc
                have HSc := hid hsc
                clear hsc hfit hle
                go_wp2
                go_roundw
                case rel => exact ⟨k + 1, by omega, by go_num, by rw [HSc.out]; exact OA.out⟩
                case measure => simp only [intOf]; omega
          · have hke : np = k := by omega
            subst hke
            have hll := pickL_len (fitK P ver R) np
            have hdl := HDl.out
            have hR2 : R - 1 = (r' : Int) := by have := HRr.out; omega
            go_wp2
            go_roundw
            case rel => exact ⟨r', D ++ pickL (fitK P ver R) np, by omega, by have := HRr.out; go_num, OZ, by show _ = _; rw [← HO.out, List.append_assoc, ← HRr.out]; rfl, by show _ ≤ _; rw [List.length_append]; omega⟩
            case measure => simp only [intOf]; omega
  · rw [decide_eq_false h8] at HIn
    have hE := HEr.out
    have hL := HLo.out
    rw [if_neg h8] at hE
    subst hE
    rw [if_neg (by decide)] at hL
    subst hL
    go_enter Try.func50, Try.ntmps50
    go_wp2_with fail
    refine Calls.mono HIn.out ?_
    rintro e w1 ⟨rfl, hw1⟩
    subst w1
    go_wp2
    go_ret2
    exact liPost_nil (Below.refl _ _)

end Go.Proofs.Ytdhefajaekackaa
