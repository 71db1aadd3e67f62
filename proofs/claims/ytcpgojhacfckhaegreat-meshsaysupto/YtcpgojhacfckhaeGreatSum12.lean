/- Several texts of one proof, in their order. -/
import Derived.Test.YtcpgojhacfckhaeGreatSum11
import Derived.Maps.AppendAt

namespace Go.Proofs.YtcpgojhacfckhaeGreat

open Go.RowKit CurveMath
set_option linter.unusedVariables false

theorem flatS_congr {n : Nat} {N N' : Nat → Int} {V V' : Nat → Value} (h : ∀ j, j < n → N j = N' j ∧ V j = V' j) : flatS n N V = flatS n N' V' := by
  apply List.ext_getElem?
  intro i
  rw [flatS_get, flatS_get]
  by_cases hi : i < n * 2
  · rw [if_pos hi, if_pos hi]
    unfold cellS
    obtain ⟨h1, h2⟩ := h (i / 2) (by omega)
    rw [h1, h2]
  · rw [if_neg hi, if_neg hi]

theorem OwnS.shape {w0 wr : World} {v : Value} {n : Nat} {N : Nat → Int} {V : Nat → Value} (h : OwnS w0 wr v n N V) : ∃ ad cap, v = .slice ad n cap := by
  obtain ⟨_, h2⟩ := h.1
  rcases h2 with ⟨h1, h0⟩ | ⟨g, cap, cur, h1, _⟩
  · exact ⟨none, 0, by rw [h0]; exact h1⟩
  · exact ⟨_, _, h1⟩

theorem cells_two (w : World) (N : Int) (v : Value) (T : TypeId) : ∀ j u, ([.int .i64 N, v] : List Value)[j]? = some u → (w.alloc (.cells #[.int .i64 N, v] T)).cell? (Addr.add ⟨w.heap.size, 0, none⟩ j) = some u := by
  intro j u hj
  rw [Addr.add_lit]
  match j, hj with
  | 0, hj => simp at hj; subst hj; exact cell_at (heap_alloc_new _ _) rfl
  | 1, hj => simp at hj; subst hj; exact cell_at (heap_alloc_new _ _) rfl

end Go.Proofs.YtcpgojhacfckhaeGreat

namespace Go.Proofs.YtcpgojhacfckhaeGreat

open Go.RowKit CurveMath
set_option linter.unusedVariables false

theorem OwnS.pushS {w0 wr w1 : World} {v v' : Value} {k : Nat} {N N' : Nat → Int} {V V' : Nat → Value} {x : Int} {u : Value} {o : Obj} (h : OwnS w0 wr v k N V)
    (ho : w1.ownsRow w0.heap.size 53 2 v' (k + 1) (flatS k N V ++ [.int .i64 x, u])) (hg : (wr.alloc o).grownBy w1 v.ownBlock) (hN : ∀ j, j < k → N' j = N j ∧ V' j = V j) (hx : N' k = x) (hu : V' k = u) : OwnS w0 w1 v' (k + 1) N' V' := by
  refine ⟨?_, ?_⟩
  · rw [flatS_succ, hx, hu, flatS_congr (N' := N) (V' := V) hN]
    exact ho
  · have hbA : Below w0.heap.size w0 (wr.alloc o) := h.2.alloc h.2.size o
    exact hbA.grown hg hbA.size (fun g hgg => (h.1.lt g hgg).1)

theorem OwnS.up {w0 wr w' : World} {v : Value} {k : Nat} {N : Nat → Int} {V : Nat → Value} (h : OwnS w0 wr v k N V) (hb : Below wr.heap.size wr w') : OwnS w0 w' v k N V :=
  ⟨owns_below h.1 hb, h.2.trans (hb.mono h.2.size)⟩

def Off (vo v : Value) : Prop := ∀ ad n c, v = .slice (some ad) n c → some ad.block ≠ vo.ownBlock

theorem IntSl.grown {w w' : World} {vo v : Value} {n : Nat} {X : Nat → Int} (h : IntSl w w.heap.size v n X) (hg : w.grownBy w' vo.ownBlock) (ho : Off vo v) : IntSl w' w'.heap.size v n X := by
  obtain ⟨ad, cap, rfl, h0, h2⟩ := h
  refine ⟨ad, cap, rfl, h0, ?_⟩
  rcases h2 with h2 | ⟨b, off, rfl, h4, h5⟩
  · exact Or.inl h2
  · exact Or.inr ⟨b, off, rfl, Nat.lt_of_lt_of_le h4 hg.size, fun j hj => hg.cell (h5 j hj) (ho ⟨b, off, none⟩ _ _ rfl)⟩

theorem off_step {w3 w4 : World} {vo v1 v : Value} {R : Nat} {X : Nat → Int} {o : Obj} (hR : 1 ≤ R) (hv : IntSl w3 w3.heap.size v R X) (hoff : Off vo v) (hg : (w3.alloc o).grownBy w4 vo.ownBlock) (hat : v1.ownBlock = vo.ownBlock ∨ v1.ownBlock = some (w3.alloc o).heap.size) : IntSl w4 w4.heap.size v R X ∧ Off v1 v := by
  refine ⟨(hv.alloc o).grown hg hoff, fun ad n' c' e' => ?_⟩
  rcases hat with e | e
  · rw [e]; exact hoff ad n' c' e'
  · rw [e]
    obtain ⟨ad2, cap, e2, h0, h2⟩ := hv
    rw [e'] at e2
    injection e2 with e3
    rcases h2 with h2 | ⟨b, off, e4, h4, h5⟩
    · omega
    · rw [← e3] at e4
      injection e4 with e4
      rw [e4]
      intro e5
      injection e5 with e5
      simp at e5
      omega

theorem off_new {w0 wr : World} {vo v : Value} {k : Nat} {N : Nat → Int} {V : Nat → Value} (h : OwnS w0 wr vo k N V) (ha : Above wr.heap.size v) : Off vo v := fun ad n c e e2 => by
  have h1 := ha ad n c e
  have h2 := (h.1.lt ad.block e2.symm).2
  omega

def SplitPost (w : World) (nd of sz : Int) (n : Nat) (D : Nat → Int) (e : Ending) (w' : World) : Prop :=
  Below w.heap.size w w' ∧ ∃ (r : Value) (m : Nat) (V : Nat → Value), e = .returned (.tuple #[r, .int .i64 (splitE nd of sz n D)]) ∧ (m : Int) = (if splitE nd of sz n D = 0 then of else 0) ∧ ShSl w' w'.heap.size r m (fun k => (k : Int)) V (fun _ => rowsN nd sz) (fun k i => shv nd.toNat n D k i)

theorem split_err {w w' : World} {nd of sz : Int} {n : Nat} {D : Nat → Int} {c : Int} (hb : Below w.heap.size w w') (he : splitE nd of sz n D = c) (hc : c ≠ 0) : SplitPost w nd of sz n D (.returned (.tuple #[.slice none 0 0, .int .i64 c])) w' := by
  refine ⟨hb, _, 0, fun _ => .bool false, by rw [he], ?_, none, 0, rfl, ⟨Nat.le_refl _, by omega⟩, Or.inl rfl⟩
  rw [he, if_neg hc]
  rfl

set_option maxHeartbeats 2000000 in
theorem splits_any (nd of sz : Int) (a : Option Addr) (n cp : Nat) (D : Nat → Int) (w : World) (h : IntSl w w.heap.size (.slice a n cp) n D) :
    Calls Tryz.prog 41 #[planV nd of sz, .slice a n cp] w fun e w' => SplitPost w nd of sz n D e w' := by
  have hbx := below_alloc w (.cells #[.int .i64 nd, .int .i64 of, .int .i64 sz] 30)
  have HC := hid (checkPlan_any nd of sz (w.alloc (.cells #[.int .i64 nd, .int .i64 of, .int .i64 sz] 30)))
  have HI := hid h
  have HBx := hid hbx
  have hbig : n * 8 ≤ 140737488351232 := by obtain ⟨_, _, _, ⟨_, h2⟩, _⟩ := h; exact h2
  clear h hbx
  by_cases hp : planOk nd of sz = true
  · have e : chkP nd of sz = 0 := by unfold chkP; rw [if_pos hp]
    rw [e] at HC
    obtain ⟨hnd, hof, hsz⟩ := planOk_spec hp
    have HPl := hid hp
    clear hp e
    unfold planV
    go_enter Tryz.func41, Tryz.ntmps41
    go_wp2_with fail
    refine HC.out.mono ?_
    rintro e w1 ⟨rfl, hb1⟩
    have p0 : w1.cell? ⟨w.heap.size, 0, none⟩ = some (.int .i64 nd) := by rw [hb1.cell (by simp)]; exact cell_at (heap_alloc_new _ _) rfl
    have p1 : w1.cell? ⟨w.heap.size, 1, none⟩ = some (.int .i64 of) := by rw [hb1.cell (by simp)]; exact cell_at (heap_alloc_new _ _) rfl
    have p2 : w1.cell? ⟨w.heap.size, 2, none⟩ = some (.int .i64 sz) := by rw [hb1.cell (by simp)]; exact cell_at (heap_alloc_new _ _) rfl
    have HB1 := hid (HBx.out.trans (hb1.mono HBx.out.size))
    clear hb1
    by_cases hn : (n : Int) = sz
    · subst hn
      have hnn : 1 ≤ n ∧ n ≤ 24 := by omega
      go_wp2
      go_loop [23] (fun iv => ∃ k : Nat, k ≤ n ∧ iv = .int .i64 k ∧ Hid (numsFrom D n k = numsB n D)) (fun iv => n - (intOf iv).toNat)
      case atStart => exact ⟨0, Nat.zero_le _, rfl, numsFrom_zero D n⟩
      case round =>
        obtain ⟨k, hk, rfl, HF⟩ := hrel
        by_cases hlt : k < n
        · have hki : (k : Int) < (n : Int) := by omega
          have hod : ∃ bo oo, a = some ⟨bo, oo, none⟩ ∧ w1.cell? ⟨bo, oo + k, none⟩ = some (.int .i64 (D k)) := by
            obtain ⟨ad, cp', e, _, h2⟩ := HI.out
            injection e with e4
            subst e4
            rcases h2 with h0 | ⟨bo, oo, rfl, hb, hx⟩
            · omega
            · exact ⟨bo, oo, rfl, by rw [HB1.out.cell hb]; exact hx k hlt⟩
          obtain ⟨bo, oo, rfl, god⟩ := hod
          cases hnm : isNum (D k) with
          | true =>
            go_wp2_with (go_at_call 86; go_must (refine (isNumber_any _ _).mono ?_; rintro e wq ⟨rfl, hwq⟩; subst wq; rw [hnm]))
            go_round
            case rel => exact ⟨k + 1, by omega, by go_num, numsFrom_next HF.out hnm⟩
            case measure => simp only [intOf]; omega
          | false =>
            have hnb := hid (numsFrom_bad hlt HF.out hnm)
            go_wp2_with (go_at_call 86; go_must (refine (isNumber_any _ _).mono ?_; rintro e wq ⟨rfl, hwq⟩; subst wq; rw [hnm]))
            go_ret2
            refine split_err HB1.out ?_ (by decide)
            unfold splitE
            rw [if_pos HPl.out, if_pos rfl, hnb.out, if_neg (by decide)]
        · have hke : k = n := by omega
          subst hke
          have hnb := numsFrom_end HF.out
          have hes : splitE nd of (k : Int) k D = 0 := by
            unfold splitE
            rw [if_pos HPl.out, if_pos rfl, if_pos hnb]
          obtain ⟨_, _, hD⟩ := splitE_ok hes
          obtain ⟨d, rfl⟩ : ∃ d : Nat, nd = d := ⟨nd.toNat, by omega⟩
          obtain ⟨m, rfl⟩ : ∃ m : Nat, of = m := ⟨of.toNat, by omega⟩
          obtain ⟨R, hR⟩ : ∃ R : Nat, rowsN (d : Int) (k : Int) = R := ⟨_, rfl⟩
          have hrb := rowsN_bd hnd hsz
          rw [hR] at hrb
          have hRR : 1 ≤ R ∧ R ≤ 24 := by omega
          have HSo : Hid (∀ w' j, Below w.heap.size w w' → j < m → Calls Tryz.prog 38 #[.agg #[.int .i64 (d : Int), .int .i64 (m : Int), .int .i64 (k : Int)], .slice a k cp, .int .i64 (j : Int)] w' fun e w'' => ShareIs w' w'' j R (fun r => shv d k D j r) e) := fun w' j hb' hj =>
            shareOf_any d m k (k : Int) a cp D j w' HPl.out hD (by omega) (by omega) hR (HI.out.up hb')
          have HES := hid hes
          have HR := hid hR
          obtain ⟨ii, hi, hz0, hz1, hz2⟩ := info_parts Tryz.infoShare
          have KP : Hid (∀ w', Below w1.heap.size w1 w' → w'.cell? ⟨w.heap.size, 0, none⟩ = some (.int .i64 (d : Int)) ∧ w'.cell? ⟨w.heap.size, 1, none⟩ = some (.int .i64 (m : Int)) ∧ w'.cell? ⟨w.heap.size, 2, none⟩ = some (.int .i64 (k : Int))) := fun w' hb' =>
            ⟨by rw [hb'.cell (cell_lt p0)]; exact p0, by rw [hb'.cell (cell_lt p1)]; exact p1, by rw [hb'.cell (cell_lt p2)]; exact p2⟩
          clear hnb hes hD hR hrb HF
          go_wp2
          go_loopw [9, 33] (fun vo iv wr => ∃ (j : Nat) (V : Nat → Value), j ≤ m ∧ iv = .int .i64 j ∧ Hid (OwnS w1 wr vo j (fun k => (k : Int)) V) ∧ Hid (∀ i, i < j → IntSl wr wr.heap.size (V i) R (fun r => shv d k D i r) ∧ Off vo (V i))) (fun _ iv _ => m - (intOf iv).toNat)
          case atStart => exact ⟨0, fun _ => .bool false, Nat.zero_le _, rfl, OwnS.nil _ _ _, fun i hi => by omega⟩
          case round =>
            obtain ⟨j, V, hj, rfl, OW, IW⟩ := hrel
            by_cases hjm : j < m
            · have hji : (j : Int) < (m : Int) := by omega
              obtain ⟨q0, q1, q2⟩ := KP.out wr OW.out.2
              have HBr := hid (HB1.out.trans (OW.out.2.mono HB1.out.size))
              go_wp2_with fail
              refine Calls.mono (HSo.out wr j HBr.out hjm) ?_
              rintro e w3 ⟨Vn, rfl, hvn, hb3, hab⟩
              have O3 := hid (OW.out.up hb3)
              have I3 : Hid (∀ i, i < j → IntSl w3 w3.heap.size (V i) R (fun r => shv d k D i r)) := fun i hi => (IW.out i hi).1.up hb3
              have HAb := hid hab
              have HVn := hid hvn
              obtain ⟨av, cv, hve, _, _⟩ := hvn
              subst hve
              clear hb3 hab
              unfold shareV
              go_wp2_with (at_builtin; go_must (refine wpList_append_own_at _ rfl (.tmp 36) (.tmp 41) 64 rfl w1.heap.size 53 ii (.agg #[.int .i64 0, .slice none 0 0]) 2 32 Tryz.underlying64 hi hz0 hz1 hz2 rfl (by decide) _ _ _ rfl (World.ownsRow.alloc O3.out.1 _) ⟨_, 0, none⟩ 1 1 [.int .i64 (j : Int), .slice av R cv] rfl rfl (cells_two _ _ _ _) (by intro u hu; simp at hu; rcases hu with rfl | rfl <;> rfl) (by unfold maxLen; omega) (by omega) (by have := O3.out.2.size; simp; omega) ?_; intro v1 w4 ho4 hg4 _ hat4; have HO4 := hid ho4; have HG4 := hid hg4; have HA4 := hid hat4; clear ho4 hg4 hat4))
              go_roundw
              case rel =>
                have o4 := O3.out.pushS (N' := fun k => (k : Int)) (V' := fun i => if i < j then V i else .slice av R cv) HO4.out HG4.out (fun i hi => ⟨rfl, by rw [if_pos hi]⟩) rfl (by rw [if_neg (Nat.lt_irrefl _)])
                refine ⟨j + 1, _, by omega, by go_num, o4, fun i hi => ?_⟩
                by_cases hij : i < j
                · rw [if_pos hij]
                  exact off_step hRR.1 (I3.out i hij) (IW.out i hij).2 HG4.out HA4.out
                · obtain rfl : i = j := by omega
                  rw [if_neg (Nat.lt_irrefl _)]
                  exact off_step hRR.1 HVn.out (off_new OW.out HAb.out) HG4.out HA4.out
              case measure => simp only [intOf]; omega
            · have hje : j = m := by omega
              subst hje
              have q1 := (KP.out wr OW.out.2).2.1
              go_wp2
              go_ret2
              refine ⟨HB1.out.trans (OW.out.2.mono HB1.out.size), _, j, V, by rw [HES.out]; rfl, ?_, ?_⟩
              · rw [HES.out, if_pos rfl]
              · rw [HR.out, Int.toNat_natCast]
                exact OW.out.shl (by omega) (fun i hi => (IW.out i hi).1)
    · have hne : ((n : Int) != sz) = true := by simpa using hn
      have hes : splitE nd of sz n D = 3 := by unfold splitE; rw [if_pos HPl.out, if_neg hn]
      have HES := hid hes
      clear hes hn
      go_wp2
      go_ret2
      exact split_err HB1.out HES.out (by decide)
  · have e : chkP nd of sz = 2 := by unfold chkP; rw [if_neg hp]
    rw [e] at HC
    have hes : splitE nd of sz n D = 2 := by unfold splitE; rw [if_neg hp]
    have HES := hid hes
    clear hes hp e
    unfold planV
    go_enter Tryz.func41, Tryz.ntmps41
    go_wp2_with (go_at_call 85; go_must (refine HC.out.mono ?_; rintro e w1 ⟨rfl, hb1⟩; have HB1 := hid (HBx.out.trans (hb1.mono HBx.out.size)); clear hb1))
    go_ret2
    exact split_err HB1.out HES.out (by decide)

end Go.Proofs.YtcpgojhacfckhaeGreat

namespace Go.Proofs.YtcpgojhacfckhaeGreat

open Go.RowKit CurveMath
set_option linter.unusedVariables false

section

variable {nd of sz : Int} {N : Nat → Int} {L : Nat → Nat} {X : Nat → Nat → Int} {n k : Nat} {e : Int}

theorem scanS_bad (hk : k < n) (h : scanS nd of sz N L X (n - k) k = e) (hb : oneE nd of sz (N k) (L k) (X k) ≠ 0) : e = oneE nd of sz (N k) (L k) (X k) := by
  rw [show n - k = (n - k - 1) + 1 by omega] at h
  simp only [scanS] at h
  rw [if_neg hb] at h
  exact h.symm

theorem scanS_dup (hk : k < n) (h : scanS nd of sz N L X (n - k) k = e) (hb : oneE nd of sz (N k) (L k) (X k) = 0) (hd : hasB N k (N k) = true) : e = 5 := by
  rw [show n - k = (n - k - 1) + 1 by omega] at h
  simp only [scanS] at h
  rw [if_pos hb, if_pos hd] at h
  exact h.symm

theorem scanS_next (hk : k < n) (h : scanS nd of sz N L X (n - k) k = e) (hb : oneE nd of sz (N k) (L k) (X k) = 0) (hd : hasB N k (N k) = false) : scanS nd of sz N L X (n - (k + 1)) (k + 1) = e := by
  rw [show n - k = (n - (k + 1)) + 1 by omega] at h
  simp only [scanS] at h
  rw [if_pos hb, if_neg (by rw [hd]; decide)] at h
  exact h

theorem oneE_who (h : oneE nd of sz (N k) (L k) (X k) = 0) : planOk nd of sz = true ∧ (0 ≤ N k ∧ N k < of) ∧ (L k : Int) = rowsN nd sz ∧ ∀ j, j < L k → 0 ≤ X k j ∧ X k j ≤ 30 := by
  unfold oneE at h
  by_cases h1 : planOk nd of sz = true
  · rw [if_pos h1] at h
    by_cases h2 : 0 ≤ N k ∧ N k < of
    · rw [if_pos h2] at h
      by_cases h3 : (L k : Int) = rowsN nd sz
      · rw [if_pos h3] at h
        by_cases h4 : numsB (L k) (X k) = true
        · exact ⟨h1, h2, h3, fun j hj => (isNum_iff _).1 ((of_decide_eq_true h4) j hj)⟩
        · rw [if_neg h4] at h; omega
      · rw [if_neg h3] at h; omega
    · rw [if_neg h2] at h; omega
  · rw [if_neg h1] at h; omega

end

def checksE (nd of sz : Int) (n : Nat) (N : Nat → Int) (L : Nat → Nat) (X : Nat → Nat → Int) : Int :=
  if planOk nd of sz = true then (if n ≤ 8 then (if scanS nd of sz N L X n 0 = 0 then (if nd ≤ (n : Int) then 0 else 7) else scanS nd of sz N L X n 0) else 1) else 2

theorem hasB_next (X : Nat → Int) (k : Nat) (v : Int) : hasB X (k + 1) v = (if X k = v then true else hasB X k v) := by
  by_cases h : X k = v
  · rw [if_pos h, hasB_iff]
    exact ⟨k, by omega, h⟩
  · rw [if_neg h]
    rw [Bool.eq_iff_iff, hasB_iff, hasB_iff]
    constructor
    · rintro ⟨j, hj, e⟩
      by_cases hjk : j = k
      · subst hjk; exact absurd e h
      · exact ⟨j, by omega, e⟩
    · rintro ⟨j, hj, e⟩; exact ⟨j, by omega, e⟩

structure SeenInv (w wr : World) (A : Nat) (nd of sz : Int) (N : Nat → Int) (j : Nat) : Prop where
  below : Below w.heap.size w wr
  ge : w.heap.size < A
  p0 : wr.cell? ⟨w.heap.size, 0, none⟩ = some (.int .i64 nd)
  p1 : wr.cell? ⟨w.heap.size, 1, none⟩ = some (.int .i64 of)
  p2 : wr.cell? ⟨w.heap.size, 2, none⟩ = some (.int .i64 sz)
  s : ∀ i, i < 8 → wr.cell? ⟨A, i, none⟩ = some (.bool (hasB N j (i : Int)))
  f : ∀ i, i < 8 → wr.frozen? ⟨A, i, none⟩ = false

theorem SeenInv.up {w wr w' : World} {A : Nat} {nd of sz : Int} {N : Nat → Int} {j : Nat} (h : SeenInv w wr A nd of sz N j) (hb : Below wr.heap.size wr w') : SeenInv w w' A nd of sz N j :=
  ⟨h.below.trans (hb.mono h.below.size), h.ge, by rw [hb.cell (cell_lt h.p0)]; exact h.p0, by rw [hb.cell (cell_lt h.p1)]; exact h.p1, by rw [hb.cell (cell_lt h.p2)]; exact h.p2,
    fun i hi => by rw [hb.cell (cell_lt (h.s i hi))]; exact h.s i hi, fun i hi => by rw [hb.frozen (cell_lt (h.s i hi))]; exact h.f i hi⟩

theorem SeenInv.next {w wr : World} {A : Nat} {nd of sz : Int} {N : Nat → Int} {j ν : Nat} (h : SeenInv w wr A nd of sz N j) (hν : ν < 8) (e : N j = (ν : Int)) : SeenInv w (wr.setCell ⟨A, ν, none⟩ (.bool true)) A nd of sz N (j + 1) := by
  have hge := h.ge
  have ho : ∀ (o : Nat) (v : Value), wr.cell? ⟨w.heap.size, o, none⟩ = some v → (wr.setCell ⟨A, ν, none⟩ (.bool true)).cell? ⟨w.heap.size, o, none⟩ = some v := fun o v hv => by
    rw [World.cell?_setCell_other _ _ _ _ (by intro e; injection e with e1; omega)]; exact hv
  refine ⟨h.below.setCell (p := ⟨A, ν, none⟩) (by show w.heap.size ≤ A; omega) _, h.ge, ho _ _ h.p0, ho _ _ h.p1, ho _ _ h.p2, fun i hi => ?_, fun i hi => by rw [World.frozen?_setCell]; exact h.f i hi⟩
  rw [hasB_next, e]
  by_cases hie : i = ν
  · subst hie
    rw [if_pos rfl]
    exact World.cell?_setCell_same _ _ _ (h.s i hi)
  · rw [if_neg (by omega), World.cell?_setCell_other _ _ _ _ (by intro e; injection e with _ e2; omega)]
    exact h.s i hi

set_option maxHeartbeats 2000000 in
theorem checkShares_any (nd of sz : Int) (v : Value) (n : Nat) (N : Nat → Int) (V : Nat → Value) (L : Nat → Nat) (X : Nat → Nat → Int) (w : World) (h : ShSl w w.heap.size v n N V L X) :
    Calls Tryz.prog 75 #[planV nd of sz, v] w fun e w' => e = .returned (.int .i64 (checksE nd of sz n N L X)) ∧ Below w.heap.size w w' := by
  have hbx := below_alloc w (.cells #[.int .i64 nd, .int .i64 of, .int .i64 sz] 30)
  have HC := hid (checkPlan_any nd of sz (w.alloc (.cells #[.int .i64 nd, .int .i64 of, .int .i64 sz] 30)))
  have HS := hid h
  have HBx := hid hbx
  obtain ⟨ad, cap, rfl, ⟨hcap, hbig⟩, hx⟩ := h
  obtain ⟨ans, hans⟩ : ∃ a, checksE nd of sz n N L X = a := ⟨_, rfl⟩
  rw [hans]
  unfold checksE at hans
  clear hbx
  by_cases hp : planOk nd of sz = true
  · have e : chkP nd of sz = 0 := by unfold chkP; rw [if_pos hp]
    rw [e] at HC
    rw [if_pos hp] at hans
    obtain ⟨hnd, hof, hsz⟩ := planOk_spec hp
    clear hp e
    unfold planV
    go_enter Tryz.func75, Tryz.ntmps75
    go_wp2_with fail
    refine HC.out.mono ?_
    rintro e w1 ⟨rfl, hb1⟩
    have p0 : w1.cell? ⟨w.heap.size, 0, none⟩ = some (.int .i64 nd) := by rw [hb1.cell (by simp)]; exact cell_at (heap_alloc_new _ _) rfl
    have p1 : w1.cell? ⟨w.heap.size, 1, none⟩ = some (.int .i64 of) := by rw [hb1.cell (by simp)]; exact cell_at (heap_alloc_new _ _) rfl
    have p2 : w1.cell? ⟨w.heap.size, 2, none⟩ = some (.int .i64 sz) := by rw [hb1.cell (by simp)]; exact cell_at (heap_alloc_new _ _) rfl
    have HB1 := hid (HBx.out.trans (hb1.mono HBx.out.size))
    have hwl : w.heap.size < w1.heap.size := cell_lt p0
    clear hb1
    by_cases hn8 : n ≤ 8
    · rw [if_pos hn8] at hans
      have hn9 : ((n : Int) ≤ 8) := by omega
      have HA := hid hans
      clear hans
      have J0 : Hid (SeenInv w (w1.alloc (.cells #[.bool false, .bool false, .bool false, .bool false, .bool false, .bool false, .bool false, .bool false] 74)) w1.heap.size nd of sz N 0) := by
        have hb := below_alloc w1 (.cells #[.bool false, .bool false, .bool false, .bool false, .bool false, .bool false, .bool false, .bool false] 74)
        have hh := heap_alloc_new w1 (.cells #[.bool false, .bool false, .bool false, .bool false, .bool false, .bool false, .bool false, .bool false] 74)
        refine ⟨HB1.out.trans (hb.mono HB1.out.size), hwl, by rw [hb.cell (cell_lt p0)]; exact p0, by rw [hb.cell (cell_lt p1)]; exact p1, by rw [hb.cell (cell_lt p2)]; exact p2, fun i hi => ?_, fun i hi => frozen_at hh⟩
        have e : hasB N 0 (i : Int) = false := rfl
        rw [e]
        rcases (show i = 0 ∨ i = 1 ∨ i = 2 ∨ i = 3 ∨ i = 4 ∨ i = 5 ∨ i = 6 ∨ i = 7 by omega) with rfl | rfl | rfl | rfl | rfl | rfl | rfl | rfl <;> exact cell_at hh rfl
      clear p0 p1 p2
      go_wp2
      go_loopw [20] (fun iv wr => ∃ j : Nat, j ≤ n ∧ iv = .int .i64 j ∧ Hid (SeenInv w wr w1.heap.size nd of sz N j) ∧ Hid (scanS nd of sz N L X (n - j) j = scanS nd of sz N L X n 0)) (fun iv _ => n - (intOf iv).toNat)
      case atStart => exact ⟨0, Nat.zero_le _, rfl, J0, rfl⟩
      case round =>
        obtain ⟨j, hj, rfl, J, SC⟩ := hrel
        by_cases hlt : j < n
        · have hji : (j : Int) < (n : Int) := by omega
          have hx5 : ∃ b off, ad = some ⟨b, off, none⟩ ∧ b < w.heap.size ∧ (w.cell? ⟨b, off + j * 2, none⟩ = some (.int .i64 (N j)) ∧ w.cell? ⟨b, off + j * 2 + 1, none⟩ = some (V j) ∧ IntSl w w.heap.size (V j) (L j) (X j)) := by
            rcases hx with h0 | ⟨b, off, rfl, hb, h5⟩
            · omega
            · exact ⟨b, off, rfl, hb, h5 j hlt⟩
          obtain ⟨b, off, rfl, hb, x1, x2, x3⟩ := hx5
          have HI3 : Hid (∀ w', Below w.heap.size w w' → IntSl w' w'.heap.size (V j) (L j) (X j)) := fun w' hb' => x3.up hb'
          obtain ⟨av, cv, hve, _, _⟩ := x3
          rw [hve] at HI3
          have g1 : wr.cell? ⟨b, off + j * 2, none⟩ = some (.int .i64 (N j)) := by rw [J.out.below.cell hb]; exact x1
          have g2 : wr.cell? ⟨b, off + j * 2 + 1, none⟩ = some (.slice av (L j) cv) := by rw [J.out.below.cell hb, x2, hve]
          have q0 := J.out.p0
          have q1 := J.out.p1
          have q2 := J.out.p2
          have lp : w.heap.size < wr.heap.size := cell_lt q0
          obtain ⟨W, hW⟩ : ∃ W, wr.alloc (.cells #[.int .i64 (N j), .slice av (L j) cv] 53) = W := ⟨_, rfl⟩
          have JA := J.out.up (below_alloc wr (.cells #[.int .i64 (N j), .slice av (L j) cv] 53))
          have bx : W.cell? ⟨wr.heap.size, 0, none⟩ = some (.int .i64 (N j)) := by rw [← hW]; exact cell_at (heap_alloc_new _ _) rfl
          have by' : W.cell? ⟨wr.heap.size, 1, none⟩ = some (.slice av (L j) cv) := by rw [← hW]; exact cell_at (heap_alloc_new _ _) rfl
          rw [hW] at JA
          have q0' := JA.p0
          have q1' := JA.p1
          have q2' := JA.p2
          have HOn := hid (checkShare_any nd of sz (N j) _ (L j) (X j) W (HI3.out W JA.below))
          have HJA := hid JA
          clear x1 x2 hve JA
          obtain ⟨c, hc⟩ : ∃ c, oneE nd of sz (N j) (L j) (X j) = c := ⟨_, rfl⟩
          rw [hc] at HOn
          have HCc := hid hc
          clear hc
          by_cases hc0 : c = 0
          · subst hc0
            obtain ⟨_, hwho, _, _⟩ := oneE_who HCc.out
            obtain ⟨ν, hν⟩ : ∃ ν : Nat, N j = ν := ⟨(N j).toNat, by omega⟩
            have hν8 : ν < 8 := by omega
            have hνi : (ν : Int) < 8 := by omega
            have HN := hid hν
            clear hν hwho
            go_wp2_with fail
            refine Calls.mono HOn.out ?_
            rintro e w2 ⟨rfl, hb2⟩
            have J2 := hid (HJA.out.up hb2)
            have bx2 : w2.cell? ⟨wr.heap.size, 0, none⟩ = some (.int .i64 (ν : Int)) := by rw [hb2.cell (cell_lt bx), ← HN.out]; exact bx
            have sc := J2.out.s ν hν8
            have sf := J2.out.f ν hν8
            clear hb2
            cases hd : hasB N j (ν : Int) with
            | true =>
              rw [hd] at sc
              have h5 := scanS_dup hlt SC.out HCc.out (by rw [HN.out]; exact hd)
              have hA := HA.out
              rw [h5, if_neg (by decide)] at hA
              subst hA
              clear h5
              go_wp2
              go_ret
              exact ⟨rfl, J2.out.below⟩
            | false =>
              rw [hd] at sc
              go_wp2
              go_roundw
              case rel => exact ⟨j + 1, by omega, by go_num, J2.out.next hν8 HN.out, scanS_next hlt SC.out HCc.out (by rw [HN.out]; exact hd)⟩
              case measure => simp only [intOf]; omega
          · have hcb : (c != 0) = true := by simpa using hc0
            have h5 := scanS_bad hlt SC.out (by rw [HCc.out]; exact hc0)
            rw [HCc.out] at h5
            have hA := HA.out
            rw [h5, if_neg hc0] at hA
            subst hA
            clear h5 hc0
            go_wp2_with fail
            refine Calls.mono HOn.out ?_
            rintro e w2 ⟨rfl, hb2⟩
            have J2 := hid (HJA.out.up hb2)
            clear hb2
            go_wp2
            go_ret
            exact ⟨rfl, J2.out.below⟩
        · have hje : j = n := by omega
          subst hje
          have h5 := SC.out
          rw [Nat.sub_self] at h5
          have h6 : scanS nd of sz N L X j 0 = 0 := h5.symm
          have hA := HA.out
          rw [if_pos h6] at hA
          have q0 := J.out.p0
          clear h5 h6
          by_cases hle : nd ≤ (j : Int)
          · rw [if_pos hle] at hA
            subst hA
            go_wp2
            go_ret
            exact ⟨rfl, J.out.below⟩
          · rw [if_neg hle] at hA
            subst hA
            have hle2 : (j : Int) < nd := by omega
            clear hle
            go_wp2
            go_ret
            exact ⟨rfl, J.out.below⟩
    · rw [if_neg hn8] at hans
      subst hans
      have hn9 : (8 : Int) < (n : Int) := by omega
      go_wp2
      go_ret
      exact ⟨rfl, HB1.out⟩
  · have e : chkP nd of sz = 2 := by unfold chkP; rw [if_neg hp]
    rw [e] at HC
    rw [if_neg hp] at hans
    subst hans
    clear hp e
    unfold planV
    go_enter Tryz.func75, Tryz.ntmps75
    go_wp2_with (go_at_call 85; go_must (refine HC.out.mono ?_; rintro e w1 ⟨rfl, hb1⟩; have HB1 := hid (HBx.out.trans (hb1.mono HBx.out.size)); clear hb1))
    go_ret
    exact ⟨rfl, HB1.out⟩

end Go.Proofs.YtcpgojhacfckhaeGreat
