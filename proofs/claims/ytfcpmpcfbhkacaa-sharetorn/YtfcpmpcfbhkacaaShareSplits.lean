/- What chapter 3's reference splits: all shares of a content, errors too. -/
import Derived.Test.YtfcpmpcfbhkacaaShareMake
import Derived.Test.YtfcpmpcfbhkacaaPicked
namespace Go.Proofs.Ytfcpmpcfbhkacaa
open Go.RowKit CurveMath
set_option linter.unusedVariables false

theorem OwnS.pushS {w0 wr w1 : World} {v v' : Value} {k : Nat} {N N' : Nat → Int} {V V' : Nat → Value} {x : Int} {u : Value} {o : Obj} (h : OwnS w0 wr v k N V)
    (ho : w1.ownsRow w0.heap.size 27 2 v' (k + 1) (flatS k N V ++ [.int .i64 x, u])) (hg : (wr.alloc o).grownBy w1 v.ownBlock) (hN : ∀ j, j < k → N' j = N j ∧ V' j = V j) (hx : N' k = x) (hu : V' k = u) : OwnS w0 w1 v' (k + 1) N' V' := by
  refine ⟨?_, ?_⟩
  · rw [flatS_succ, hx, hu, flatS_congr (N' := N) (V' := V) hN]
    exact ho
  · have hbA : Below w0.heap.size w0 (wr.alloc o) := h.2.alloc h.2.size o
    exact hbA.grown hg hbA.size (fun g hgg => (h.1.lt g hgg).1)

theorem OwnS.up {w0 wr w' : World} {v : Value} {k : Nat} {N : Nat → Int} {V : Nat → Value} (h : OwnS w0 wr v k N V) (hb : Below wr.heap.size wr w') : OwnS w0 w' v k N V :=
  ⟨owns_below h.1 hb, h.2.trans (hb.mono h.2.size)⟩

/-- a list that lies in another block -/
def Off (vo v : Value) : Prop := ∀ ad n c, v = .slice (some ad) n c → some ad.block ≠ vo.ownBlock

theorem IntSl.grown {w w' : World} {vo v : Value} {n : Nat} {X : Nat → Int} (h : IntSl w w.heap.size v n X) (hg : w.grownBy w' vo.ownBlock) (ho : Off vo v) : IntSl w' w'.heap.size v n X := by
  obtain ⟨ad, cap, rfl, h0, h2⟩ := h
  refine ⟨ad, cap, rfl, h0, ?_⟩
  rcases h2 with h2 | ⟨b, off, rfl, h4, h5⟩
  · exact Or.inl h2
  · exact Or.inr ⟨b, off, rfl, Nat.lt_of_lt_of_le h4 hg.size, fun j hj => hg.cell (h5 j hj) (ho ⟨b, off, none⟩ _ _ rfl)⟩

theorem IntSl.lt {w : World} {ad : Addr} {c n : Nat} {X : Nat → Int} (h : IntSl w w.heap.size (.slice (some ad) n c) n X) (hn : 1 ≤ n) : ad.block < w.heap.size := by
  obtain ⟨ad', cap, e, h0, h2⟩ := h
  injection e with e1
  rcases h2 with h2 | ⟨b, off, e2, h4, h5⟩
  · omega
  · rw [← e1] at e2
    injection e2 with e2
    rw [e2]
    exact h4

theorem off_step {w3 w4 : World} {vo v1 v : Value} {R : Nat} {X : Nat → Int} {o : Obj} (hR : 1 ≤ R) (hv : IntSl w3 w3.heap.size v R X) (hoff : Off vo v) (hg : (w3.alloc o).grownBy w4 vo.ownBlock) (hat : v1.ownBlock = vo.ownBlock ∨ v1.ownBlock = some (w3.alloc o).heap.size) : IntSl w4 w4.heap.size v R X ∧ Off v1 v := by
  refine ⟨(hv.alloc o).grown hg hoff, fun ad n' c' e' => ?_⟩
  rcases hat with e | e
  · rw [e]; exact hoff ad n' c' e'
  · rw [e]
    obtain ⟨ad2, cap, e2, h0, h2⟩ := hv
    rw [e'] at e2
    injection e2 with e3
    rcases h2 with h2 | ⟨b, off, e4, h4, h5⟩
    · omega
    · rw [← e3] at e4
      injection e4 with e4
      rw [e4]
      intro e5
      injection e5 with e5
      simp at e5
      omega

theorem off_new {w0 wr : World} {vo v : Value} {k : Nat} {N : Nat → Int} {V : Nat → Value} (h : OwnS w0 wr vo k N V) (ha : Above wr.heap.size v) : Off vo v := fun ad n c e e2 => by
  have h1 := ha ad n c e
  have h2 := (h.1.lt ad.block e2.symm).2
  omega

/-- what Splits leaves -/
def SplitPost (w : World) (nd of sz : Int) (n : Nat) (D : Nat → Int) (e : Ending) (w' : World) : Prop :=
  Below w.heap.size w w' ∧ ∃ (r : Value) (m : Nat) (V : Nat → Value), e = .returned (.tuple #[r, .int .i64 (splitE nd of sz n D)]) ∧ (m : Int) = (if splitE nd of sz n D = 0 then of else 0) ∧ ShSl w' w'.heap.size r m (fun k => (k : Int)) V (fun _ => rowsN nd sz) (fun k i => shv nd.toNat n D k i)

theorem split_err {w w' : World} {nd of sz : Int} {n : Nat} {D : Nat → Int} {c : Int} (hb : Below w.heap.size w w') (he : splitE nd of sz n D = c) (hc : c ≠ 0) : SplitPost w nd of sz n D (.returned (.tuple #[.slice none 0 0, .int .i64 c])) w' := by
  refine ⟨hb, _, 0, fun _ => .bool false, by rw [he], ?_, none, 0, rfl, ⟨Nat.le_refl _, by omega⟩, Or.inl rfl⟩
  rw [he, if_neg hc]
  rfl

set_option maxHeartbeats 2000000 in
theorem splits_any (nd of sz : Int) (a : Option Addr) (n cp : Nat) (D : Nat → Int) (w : World) (h : IntSl w w.heap.size (.slice a n cp) n D) :
    Calls Try.prog 14 #[planV nd of sz, .slice a n cp] w fun e w' => SplitPost w nd of sz n D e w' := by
  have hbx := below_alloc w (.cells #[.int .i64 nd, .int .i64 of, .int .i64 sz] 23)
  have HC := hid (checkPlan_any nd of sz (w.alloc (.cells #[.int .i64 nd, .int .i64 of, .int .i64 sz] 23)))
  have HI := hid h
  have HBx := hid hbx
  have hbig : n * 8 ≤ 140737488351232 := by obtain ⟨_, _, _, ⟨_, h2⟩, _⟩ := h; exact h2
  clear h hbx
  by_cases hp : planOk nd of sz = true
  · have e : chkP nd of sz = 0 := by unfold chkP; rw [if_pos hp]
    rw [e] at HC
    obtain ⟨hnd, hof, hsz⟩ := planOk_spec hp
    have HPl := hid hp
    clear hp e
    unfold planV
    go_enter Try.func14, Try.ntmps14
    go_wp2_with fail
    refine HC.out.mono ?_
    rintro e w1 ⟨rfl, hb1⟩
    have p0 : w1.cell? ⟨w.heap.size, 0, none⟩ = some (.int .i64 nd) := by rw [hb1.cell (by simp)]; exact cell_at (heap_alloc_new _ _) rfl
    have p1 : w1.cell? ⟨w.heap.size, 1, none⟩ = some (.int .i64 of) := by rw [hb1.cell (by simp)]; exact cell_at (heap_alloc_new _ _) rfl
    have p2 : w1.cell? ⟨w.heap.size, 2, none⟩ = some (.int .i64 sz) := by rw [hb1.cell (by simp)]; exact cell_at (heap_alloc_new _ _) rfl
    have HB1 := hid (HBx.out.trans (hb1.mono HBx.out.size))
    clear hb1
    by_cases hn : (n : Int) = sz
    · subst hn
      have hnn : 1 ≤ n ∧ n ≤ 24 := by omega
      go_wp2
      go_loop [23] (fun iv => ∃ k : Nat, k ≤ n ∧ iv = .int .i64 k ∧ Hid (numsFrom D n k = numsB n D)) (fun iv => n - (intOf iv).toNat)
      case atStart => exact ⟨0, Nat.zero_le _, rfl, numsFrom_zero D n⟩
      case round =>
        obtain ⟨k, hk, rfl, HF⟩ := hrel
        by_cases hlt : k < n
        · have hki : (k : Int) < (n : Int) := by omega
          have hod : ∃ bo oo, a = some ⟨bo, oo, none⟩ ∧ w1.cell? ⟨bo, oo + k, none⟩ = some (.int .i64 (D k)) := by
            obtain ⟨ad, cp', e, _, h2⟩ := HI.out
            injection e with e4
            subst e4
            rcases h2 with h0 | ⟨bo, oo, rfl, hb, hx⟩
            · omega
            · exact ⟨bo, oo, rfl, by rw [HB1.out.cell hb]; exact hx k hlt⟩
          obtain ⟨bo, oo, rfl, god⟩ := hod
          cases hnm : isNum (D k) with
          | true =>
            go_wp2_with (go_at_call 43; go_must (refine (isNumber_any _ _).mono ?_; rintro e wq ⟨rfl, hwq⟩; subst wq; rw [hnm]))
            go_round
            case rel => exact ⟨k + 1, by omega, by go_num, numsFrom_next HF.out hnm⟩
            case measure => simp only [intOf]; omega
          | false =>
            have hnb := hid (numsFrom_bad hlt HF.out hnm)
            go_wp2_with (go_at_call 43; go_must (refine (isNumber_any _ _).mono ?_; rintro e wq ⟨rfl, hwq⟩; subst wq; rw [hnm]))
            go_ret2
            refine split_err HB1.out ?_ (by decide)
            unfold splitE
            rw [if_pos HPl.out, if_pos rfl, hnb.out, if_neg (by decide)]
        · have hke : k = n := by omega
          subst hke
          have hnb := numsFrom_end HF.out
          have hes : splitE nd of (k : Int) k D = 0 := by
            unfold splitE
            rw [if_pos HPl.out, if_pos rfl, if_pos hnb]
          obtain ⟨_, _, hD⟩ := splitE_ok hes
          obtain ⟨d, rfl⟩ : ∃ d : Nat, nd = d := ⟨nd.toNat, by omega⟩
          obtain ⟨m, rfl⟩ : ∃ m : Nat, of = m := ⟨of.toNat, by omega⟩
          obtain ⟨R, hR⟩ : ∃ R : Nat, rowsN (d : Int) (k : Int) = R := ⟨_, rfl⟩
          have hrb := rowsN_bd hnd hsz
          rw [hR] at hrb
          have hRR : 1 ≤ R ∧ R ≤ 24 := by omega
          have HSo : Hid (∀ w' j, Below w.heap.size w w' → j < m → Calls Try.prog 44 #[.agg #[.int .i64 (d : Int), .int .i64 (m : Int), .int .i64 (k : Int)], .slice a k cp, .int .i64 (j : Int)] w' fun e w'' => ShareIs w' w'' j R (fun r => shv d k D j r) e) := fun w' j hb' hj =>
            shareOf_any d m k (k : Int) a cp D j w' HPl.out hD (by omega) (by omega) hR (HI.out.up hb')
          have HES := hid hes
          have HR := hid hR
          obtain ⟨ii, hi, hz0, hz1, hz2⟩ := info_parts Try.infoShare
          have KP : Hid (∀ w', Below w1.heap.size w1 w' → w'.cell? ⟨w.heap.size, 0, none⟩ = some (.int .i64 (d : Int)) ∧ w'.cell? ⟨w.heap.size, 1, none⟩ = some (.int .i64 (m : Int)) ∧ w'.cell? ⟨w.heap.size, 2, none⟩ = some (.int .i64 (k : Int))) := fun w' hb' =>
            ⟨by rw [hb'.cell (cell_lt p0)]; exact p0, by rw [hb'.cell (cell_lt p1)]; exact p1, by rw [hb'.cell (cell_lt p2)]; exact p2⟩
          clear hnb hes hD hR hrb HF
          go_wp2
          go_loopw [9, 33] (fun vo iv wr => ∃ (j : Nat) (V : Nat → Value), j ≤ m ∧ iv = .int .i64 j ∧ Hid (OwnS w1 wr vo j (fun k => (k : Int)) V) ∧ Hid (∀ i, i < j → IntSl wr wr.heap.size (V i) R (fun r => shv d k D i r) ∧ Off vo (V i))) (fun _ iv _ => m - (intOf iv).toNat)
          case atStart => exact ⟨0, fun _ => .bool false, Nat.zero_le _, rfl, OwnS.nil _ _ _, fun i hi => by omega⟩
          case round =>
            obtain ⟨j, V, hj, rfl, OW, IW⟩ := hrel
            by_cases hjm : j < m
            · have hji : (j : Int) < (m : Int) := by omega
              obtain ⟨q0, q1, q2⟩ := KP.out wr OW.out.2
              have HBr := hid (HB1.out.trans (OW.out.2.mono HB1.out.size))
              go_wp2_with fail
              refine Calls.mono (HSo.out wr j HBr.out hjm) ?_
              rintro e w3 ⟨Vn, rfl, hvn, hb3, hab⟩
              have O3 := hid (OW.out.up hb3)
              have I3 : Hid (∀ i, i < j → IntSl w3 w3.heap.size (V i) R (fun r => shv d k D i r)) := fun i hi => (IW.out i hi).1.up hb3
              have HAb := hid hab
              have HVn := hid hvn
              obtain ⟨av, cv, hve, _, _⟩ := hvn
              subst hve
              clear hb3 hab
              unfold shareV
              go_wp2_with (at_builtin; go_must (refine wpList_append_own_at _ rfl (.tmp 36) (.tmp 41) 25 rfl w1.heap.size 27 ii (.agg #[.int .i64 0, .slice none 0 0]) 2 32 Try.underlying25 hi hz0 hz1 hz2 rfl (by decide) _ _ _ rfl (World.ownsRow.alloc O3.out.1 _) ⟨_, 0, none⟩ 1 1 [.int .i64 (j : Int), .slice av R cv] rfl rfl (cells_two _ _ _ _) (by intro u hu; simp at hu; rcases hu with rfl | rfl <;> rfl) (by unfold maxLen; omega) (by omega) (by have := O3.out.2.size; simp; omega) ?_; intro v1 w4 ho4 hg4 _ hat4; have HO4 := hid ho4; have HG4 := hid hg4; have HA4 := hid hat4; clear ho4 hg4 hat4))
              go_roundw
              case rel =>
                have o4 := O3.out.pushS (N' := fun k => (k : Int)) (V' := fun i => if i < j then V i else .slice av R cv) HO4.out HG4.out (fun i hi => ⟨rfl, by rw [if_pos hi]⟩) rfl (by rw [if_neg (Nat.lt_irrefl _)])
                refine ⟨j + 1, _, by omega, by go_num, o4, fun i hi => ?_⟩
                by_cases hij : i < j
                · rw [if_pos hij]
                  exact off_step hRR.1 (I3.out i hij) (IW.out i hij).2 HG4.out HA4.out
                · obtain rfl : i = j := by omega
                  rw [if_neg (Nat.lt_irrefl _)]
                  exact off_step hRR.1 HVn.out (off_new OW.out HAb.out) HG4.out HA4.out
              case measure => simp only [intOf]; omega
            · have hje : j = m := by omega
              subst hje
              have q1 := (KP.out wr OW.out.2).2.1
              go_wp2
              go_ret2
              refine ⟨HB1.out.trans (OW.out.2.mono HB1.out.size), _, j, V, by rw [HES.out]; rfl, ?_, ?_⟩
              · rw [HES.out, if_pos rfl]
              · rw [HR.out, Int.toNat_natCast]
                exact OW.out.shl (by omega) (fun i hi => (IW.out i hi).1)
    · have hne : ((n : Int) != sz) = true := by simpa using hn
      have hes : splitE nd of sz n D = 3 := by unfold splitE; rw [if_pos HPl.out, if_neg hn]
      have HES := hid hes
      clear hes hn
      go_wp2
      go_ret2
      exact split_err HB1.out HES.out (by decide)
  · have e : chkP nd of sz = 2 := by unfold chkP; rw [if_neg hp]
    rw [e] at HC
    have hes : splitE nd of sz n D = 2 := by unfold splitE; rw [if_neg hp]
    have HES := hid hes
    clear hes hp e
    unfold planV
    go_enter Try.func14, Try.ntmps14
    go_wp2_with (go_at_call 18; go_must (refine HC.out.mono ?_; rintro e w1 ⟨rfl, hb1⟩; have HB1 := hid (HBx.out.trans (hb1.mono HBx.out.size)); clear hb1))
    go_ret2
    exact split_err HB1.out HES.out (by decide)

end Go.Proofs.Ytfcpmpcfbhkacaa
