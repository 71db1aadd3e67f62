/- Several texts of one proof, in their order. -/
import Derived.Test.YtdhefajaekackaaPrSum4
import Derived.Test.YtdhefajaekackaaPrSum1
import Derived.Test.YtdhefajaekackaaPrSum7
import Derived.Laws.CopyOwn
import Derived.Laws.ResultCell
import Derived.Test.YtdhefajaekackaaPrSum10

/- What package book answers of a book: its error. -/
namespace Go.Proofs.Ytdhefajaekackaa

open Go.RowKit
set_option linter.unusedVariables false

/-- the parent ahead of number i; -1: there is none -/
def lastP (X : Nat → Int) (i : Nat) : Int := if i = 0 then -1 else X (i - 1)

/-- the error of version k with these parents, of this plan -/
def oneV (k : Int) (m : Nat) (X : Nat → Int) (nd of sz : Int) : Int := if parE k X m 0 (-1) = 0 then chkP nd of sz else parE k X m 0 (-1)

set_option maxHeartbeats 2000000 in
theorem bkOne (k : Nat) (pv : Value) (m : Nat) (X : Nat → Int) (nd of sz : Int) (w : World) (h : IntSl w w.heap.size pv m X) :
    Calls Try.prog 61 #[.int .i64 (k : Int), verV pv nd of sz] w fun e w' => e = .returned (.int .i64 (oneV k m X nd of sz)) ∧ Below w.heap.size w w' := by
  have hbA := below_alloc w (.cells #[pv, .int .i64 nd, .int .i64 of, .int .i64 sz] 29)
  obtain ⟨ap, cp, rfl, ⟨hcap, hbig⟩, hpc⟩ := h
  obtain ⟨W, hW⟩ : ∃ W, w.alloc (.cells #[.slice ap m cp, .int .i64 nd, .int .i64 of, .int .i64 sz] 29) = W := ⟨_, rfl⟩
  rw [hW] at hbA
  have s0 : W.cell? ⟨w.heap.size, 0, none⟩ = some (.slice ap m cp) := by rw [← hW]; exact cell_at (heap_alloc_new _ _) rfl
  have s1 : W.cell? ⟨w.heap.size, 1, none⟩ = some (.int .i64 nd) := by rw [← hW]; exact cell_at (heap_alloc_new _ _) rfl
  have s2 : W.cell? ⟨w.heap.size, 2, none⟩ = some (.int .i64 of) := by rw [← hW]; exact cell_at (heap_alloc_new _ _) rfl
  have s3 : W.cell? ⟨w.heap.size, 3, none⟩ = some (.int .i64 sz) := by rw [← hW]; exact cell_at (heap_alloc_new _ _) rfl
  have HBW := hid hbA
  have HPc := hid hpc
  obtain ⟨ans, hans⟩ : ∃ a, oneV k m X nd of sz = a := ⟨_, rfl⟩
  rw [hans]
  unfold oneV at hans
  have HA := hid hans
  clear hbA hpc hans
  unfold verV
  go_enter Try.func61, Try.ntmps61
  go_wp2
  go_loopw [10] (fun iv wz => ∃ i : Nat, i ≤ m ∧ iv = .int .i64 i ∧ wz = W ∧ Hid (parE k X (m - i) i (lastP X i) = parE k X m 0 (-1))) (fun iv _ => m - (intOf iv).toNat)
  case atStart => exact ⟨0, Nat.zero_le _, rfl, rfl, rfl⟩
  case round =>
    obtain ⟨i, hi, rfl, hwz, HP⟩ := hrel
    subst hwz
    by_cases him : i < m
    · have himi : (i : Int) < (m : Int) := by omega
      rcases HPc.out with h0 | ⟨bp, op, rfl, hbp, hpx⟩
      · omega
      have e0 : wr.cell? ⟨bp, op + i, none⟩ = some (.int .i64 (X i)) := by rw [HBW.out.cell hbp]; exact hpx i him
      have hp := HP.out
      rw [show m - i = (m - (i + 1)) + 1 by omega] at hp
      simp only [parE] at hp
      obtain ⟨x, hxx⟩ : ∃ x, X i = x := ⟨_, rfl⟩
      have hlast : lastP X (i + 1) = x := by unfold lastP; rw [if_neg (by omega)]; exact hxx
      rw [hxx] at e0 hp
      have HLx := hid hlast
      clear hxx hlast
      by_cases c1 : x < 0 ∨ (k : Int) ≤ x
      · rw [if_pos c1] at hp
        have hst := HA.out
        rw [← hp, if_neg (by decide)] at hst
        have HFin := hid hst
        clear hp hst hpx
        by_cases c2 : x < 0
        · go_wp2
          go_ret
          exact ⟨by rw [← HFin.out]; rfl, HBW.out⟩
        · have c3 : (k : Int) ≤ x := by omega
          go_wp2
          go_ret
          exact ⟨by rw [← HFin.out]; rfl, HBW.out⟩
      · rw [if_neg c1] at hp
        have c2 : ¬ x < 0 := fun h => c1 (Or.inl h)
        have c3 : ¬ (k : Int) ≤ x := fun h => c1 (Or.inr h)
        by_cases h0 : i = 0
        · have hz : ¬ 0 < (i : Int) := by omega
          rw [show lastP X i = -1 from if_pos h0, if_neg (by omega)] at hp
          have HP2 := hid hp
          clear hp c1 hpx h0
          go_wp2
          go_roundw
          case rel => exact ⟨i + 1, by omega, by go_num, trivial, by rw [HLx.out]; exact HP2.out⟩
          case measure => simp only [intOf]; omega
        · have hpos : 0 < (i : Int) := by omega
          obtain ⟨j, rfl⟩ : ∃ j, i = j + 1 := ⟨i - 1, by omega⟩
          have e1 : wr.cell? ⟨bp, op + j, none⟩ = some (.int .i64 (X j)) := by rw [HBW.out.cell hbp]; exact hpx j (by omega)
          have hjm : (j : Int) < (m : Int) := by omega
          rw [show lastP X (j + 1) = X j from rfl] at hp
          obtain ⟨y, hyy⟩ : ∃ y, X j = y := ⟨_, rfl⟩
          rw [hyy] at e1 hp
          clear hpx hyy
          by_cases c4 : x ≤ y
          · rw [if_pos c4] at hp
            have hst := HA.out
            rw [← hp, if_neg (by decide)] at hst
            have HFin := hid hst
            clear hp hst c1
            go_wp2
            go_ret
            exact ⟨by rw [← HFin.out]; rfl, HBW.out⟩
          · rw [if_neg c4] at hp
            have HP2 := hid hp
            clear hp c1
            go_wp2
            go_roundw
            case rel => exact ⟨j + 1 + 1, by omega, by go_num, trivial, by rw [HLx.out]; exact HP2.out⟩
            case measure => simp only [intOf]; omega
    · have hie : m = i := by omega
      subst hie
      have hp := HP.out
      rw [Nat.sub_self] at hp
      have hp0 : parE k X m 0 (-1) = 0 := hp.symm
      have hst := HA.out
      rw [hp0, if_pos rfl] at hst
      have HCk := hid (shCheck nd of sz wr)
      rw [hst] at HCk
      clear hp hp0 hst
      unfold planV at HCk
      go_wp2_with fail
      refine Calls.mono HCk.out ?_
      rintro e w5 ⟨rfl, hb5⟩
      have HB5 := hid (HBW.out.trans (hb5.mono HBW.out.size))
      clear hb5
      go_wp2
      go_ret
      exact ⟨rfl, HB5.out⟩

set_option maxHeartbeats 2000000 in
theorem bkCheck (v : Value) (n : Nat) (PV : Nat → Value) (b : Bk) (w : World) (h : VeSl w w.heap.size v n PV b) :
    Calls Try.prog 18 #[bookV v] w fun e w' => e = .returned (.int .i64 (bookE n b)) ∧ Below w.heap.size w w' := by
  obtain ⟨ad, cap, rfl, ⟨hcap, hbig⟩, hx⟩ := h
  have hbx := below_alloc w (.cells #[.slice ad n cap] 24)
  have HBx := hid hbx
  have HX := hid hx
  obtain ⟨ans, hans⟩ : ∃ a, bookE n b = a := ⟨_, rfl⟩
  rw [hans]
  unfold bookE at hans
  clear hbx hx
  unfold bookV
  by_cases hn : n ≤ 12
  · rw [if_pos hn] at hans
    have HA := hid hans
    have hni : (n : Int) ≤ 12 := by omega
    clear hans
    go_enter Try.func18, Try.ntmps18
    go_wp2
    go_loopw [13] (fun iv wr => ∃ k : Nat, k ≤ n ∧ iv = .int .i64 k ∧ Hid (Below w.heap.size w wr) ∧ Hid (scanV b (n - k) k = ans)) (fun iv _ => n - (intOf iv).toNat)
    case atStart => exact ⟨0, Nat.zero_le _, rfl, HBx, HA⟩
    case round =>
      obtain ⟨k, hk, rfl, HB, HS⟩ := hrel
      by_cases hlt : k < n
      · have hki : (k : Int) < (n : Int) := by omega
        rcases HX.out with h0 | ⟨bl, off, rfl, hbl, hx⟩
        · omega
        obtain ⟨x0, x1, x2, x3, x4⟩ := hx k hlt
        have hstep := HS.out
        rw [show n - k = (n - (k + 1)) + 1 by omega] at hstep
        simp only [scanV] at hstep
        have HI : Hid (∀ w', Below w.heap.size w w' → IntSl w' w'.heap.size (PV k) (b.PL k) (b.PX k)) := fun w' hb => x4.up hb
        obtain ⟨ap, cp, hpe, _, _⟩ := x4
        rw [hpe] at x0 HI
        have g0 : wr.cell? ⟨bl, off + k * 4, none⟩ = some (.slice ap (b.PL k) cp) := by rw [HB.out.cell hbl]; exact x0
        have g1 : wr.cell? ⟨bl, off + k * 4 + 1, none⟩ = some (.int .i64 (b.nd k)) := by rw [HB.out.cell hbl]; exact x1
        have g2 : wr.cell? ⟨bl, off + k * 4 + 2, none⟩ = some (.int .i64 (b.of k)) := by rw [HB.out.cell hbl]; exact x2
        have g3 : wr.cell? ⟨bl, off + k * 4 + 3, none⟩ = some (.int .i64 (b.sz k)) := by rw [HB.out.cell hbl]; exact x3
        have hbA := below_alloc wr (.cells #[.slice ap (b.PL k) cp, .int .i64 (b.nd k), .int .i64 (b.of k), .int .i64 (b.sz k)] 29)
        have HBW := hid (HB.out.trans (hbA.mono HB.out.size))
        have HC := hid (bkOne k _ _ _ (b.nd k) (b.of k) (b.sz k) _ (HI.out _ HBW.out))
        rw [show oneV k (b.PL k) (b.PX k) (b.nd k) (b.of k) (b.sz k) = verE b k from rfl] at HC
        obtain ⟨c, hcc⟩ : ∃ c, verE b k = c := ⟨_, rfl⟩
        rw [hcc] at HC hstep
        clear x0 x1 x2 x3 hx hpe hbA hcc
        unfold verV at HC
        by_cases hc0 : c = 0
        · subst hc0
          rw [if_pos rfl] at hstep
          have HNx := hid hstep
          clear hstep
          go_wp2_with fail
          refine Calls.mono HC.out ?_
          rintro e w5 ⟨rfl, hb5⟩
          have HB5 := hid (HBW.out.trans (hb5.mono HBW.out.size))
          clear hb5
          go_wp2
          go_roundw
          case rel => exact ⟨k + 1, by omega, by go_num, HB5, HNx⟩
          case measure => simp only [intOf]; omega
        · rw [if_neg hc0] at hstep
          have HFin := hid hstep
          have hcb : (c != 0) = true := by simpa using hc0
          clear hstep hc0
          go_wp2_with fail
          refine Calls.mono HC.out ?_
          rintro e w5 ⟨rfl, hb5⟩
          have HB5 := hid (HBW.out.trans (hb5.mono HBW.out.size))
          clear hb5
          go_wp2
          go_ret
          exact ⟨by rw [← HFin.out]; rfl, HB5.out⟩
      · have hke : n = k := by omega
        subst hke
        have hst := HS.out
        rw [Nat.sub_self] at hst
        have HFin : Hid ((0 : Int) = ans) := hst
        clear hst
        go_wp2
        go_ret
        exact ⟨by rw [← HFin.out]; rfl, HB.out⟩
  · rw [if_neg hn] at hans
    have HA := hid hans
    have hni : ¬ (n : Int) ≤ 12 := by omega
    clear hans
    go_enter Try.func18, Try.ntmps18
    go_wp2
    go_ret
    exact ⟨by rw [← HA.out]; rfl, HBx.out⟩

end Go.Proofs.Ytdhefajaekackaa

/- Lists in new memory, which may be written to. Plain: it speaks of no program. -/
namespace Go.Proofs.Ytdhefajaekackaa

open Go.RowKit
set_option linter.unusedVariables false

/-- the list v lies at or above block B, in memory that may be written to -/
def NewV (B : Nat) (w : World) (v : Value) : Prop := ∀ ad n c, v = .slice (some ad) n c → B ≤ ad.block ∧ ad.block < w.heap.size ∧ ∀ i, w.frozen? ⟨ad.block, i, none⟩ = false

theorem NewV.none (B : Nat) (w : World) (n c : Nat) : NewV B w (.slice .none n c) := fun ad n' c' e => by cases e

theorem NewV.up {B : Nat} {w w' : World} {v : Value} (h : NewV B w v) (hb : Below w.heap.size w w') : NewV B w' v := fun ad n c e => by
  obtain ⟨h1, h2, h3⟩ := h ad n c e
  exact ⟨h1, Nat.lt_of_lt_of_le h2 hb.size, fun i => by rw [← h3 i]; exact World.frozen?_of_block (hb.block _ h2)⟩

theorem NewV.mono {B B' : Nat} {w : World} {v : Value} (h : NewV B w v) (hb : B' ≤ B) : NewV B' w v := fun ad n c e => ⟨Nat.le_trans hb (h ad n c e).1, (h ad n c e).2⟩

theorem frozen_setN {w : World} {a b : Addr} {u : Value} : (w.setCell a u).frozen? b = w.frozen? b := by
  unfold World.frozen? World.setCell
  simp only [Array.getElem?_modify]
  by_cases h : a.block = b.block
  · rw [if_pos h]
    cases hb : w.heap[b.block]? with
    | none => rfl
    | some x => cases x <;> rfl
  · rw [if_neg h]

theorem NewV.set {B : Nat} {w : World} {v : Value} (h : NewV B w v) (a : Addr) (u : Value) : NewV B (w.setCell a u) v := fun ad n c e => by
  obtain ⟨h1, h2, h3⟩ := h ad n c e
  exact ⟨h1, by simpa [World.setCell] using h2, fun i => by rw [frozen_setN]; exact h3 i⟩

theorem NewV.above {B : Nat} {w : World} {v : Value} (h : NewV B w v) : Above B v := fun ad n c e => (h ad n c e).1

theorem NewV.grown {B : Nat} {w w' : World} {v : Value} {row : Option Nat} (h : NewV B w v) (hg : w.grownBy w' row) (hne : ∀ ad n c, v = .slice (some ad) n c → some ad.block ≠ row) : NewV B w' v := fun ad n c e => by
  obtain ⟨h1, h2, h3⟩ := h ad n c e
  exact ⟨h1, Nat.lt_of_lt_of_le h2 hg.size, fun i => by rw [← h3 i]; exact World.frozen?_of_block (hg.block _ h2 (hne ad n c e))⟩

theorem newV_block {B : Nat} {w : World} {g n c : Nat} {cs : Array Value} {T : TypeId} (h : w.heap[g]? = some (.cells cs T (0, 0))) (hB : B ≤ g) : NewV B w (.slice (some ⟨g, 0, .none⟩) n c) := fun ad n' c' e => by
  injection e with e1
  injection e1 with e1
  subst e1
  exact ⟨hB, (Array.getElem?_eq_some_iff.1 h).1, fun i => frozen_at h⟩

theorem owns_new {w : World} {base : Nat} {e : TypeId} {size : Nat} {v : Value} {n : Nat} {xs : List Value} (h : w.ownsRow base e size v n xs) : NewV base w v := by
  rcases h.2 with ⟨rfl, _⟩ | ⟨g, cap, cur, rfl, hg, hh, _⟩
  · exact NewV.none base w _ _
  · exact newV_block hh hg

end Go.Proofs.Ytdhefajaekackaa

/- What package book makes of its own: a version, a book, copied whole. -/
namespace Go.Proofs.Ytdhefajaekackaa

open Go.RowKit
set_option linter.unusedVariables false

theorem splice_all {n : Nat} (D : Nat → Int) (j : Nat) (hj : j < n) :
    (splice (List.replicate n (Value.int .i64 0)) 0 ((List.range n).map fun j => Value.int .i64 (D j)))[j]? = some (.int .i64 (D j)) := by
  unfold splice
  simp only [List.take_zero, List.nil_append]
  rw [List.getElem?_append_left (by simpa using hj)]
  simp [hj]

/-- a list copied over as many noughts -/
theorem copy_all2 {w0 w : World} {g m cp : Nat} {a : Option Addr} {D : Nat → Int} (hg : w.heap[g]? = some (.cells (List.replicate m (Value.int .i64 0)).toArray 3 (0, 0))) (h : IntSl w w.heap.size (.slice a m cp) m D) (hb0 : Below g w0 w) :
    ∃ w', (Builtin.copy_ #[25, 25] 3 #[.slice (some ⟨g, 0, none⟩) m m, .slice a m cp]).run Try.prog w = .ok (.int .i64 (m : Int)) w' ∧ (∀ j, j < m → w'.cell? ⟨g, j, none⟩ = some (.int .i64 (D j))) ∧ Below g w0 w' ∧ ∃ cs : Array Value, w'.heap[g]? = some (.cells cs 3 (0, 0)) := by
  obtain ⟨ad, cp', e, _, hx⟩ := h
  injection e with e1
  subst e1
  by_cases hm : m = 0
  · subst hm
    exact ⟨w, run_copy_none (P := Try.prog) w 25 25 3 3 _ _ 0 0 0 cp Try.underlying25 Try.sizeInt rfl, fun j hj => by omega, hb0, _, hg⟩
  rcases hx with h0 | ⟨b, o, rfl, hb, hx⟩
  · omega
  have hsrc : ∀ j v, ((List.range m).map fun j => Value.int .i64 (D j))[j]? = some v → w.cell? (Addr.add ⟨b, o, none⟩ j) = some v := fun j v hj => by
    have hjs : j < m := by
      rcases Nat.lt_or_ge j m with h | h
      · exact h
      · rw [List.getElem?_eq_none (by simpa using h)] at hj; cases hj
    simp only [List.getElem?_map, List.getElem?_range hjs, Option.map_some, Option.some.injEq] at hj
    rw [Addr.add_lit, hx j hjs, hj]
  have hrun := run_copy_row (P := Try.prog) w 25 25 3 3 g 0 m m ⟨b, o, none⟩ m cp (List.replicate m (Value.int .i64 0)).toArray 3 ((List.range m).map fun j => Value.int .i64 (D j)) Try.underlying25 Try.sizeInt hg (by simp) hsrc (by simp) (fun v hv => by obtain ⟨j, _, rfl⟩ := List.mem_map.1 hv; rfl)
  have hl : (((List.range m).map fun j => Value.int .i64 (D j)).length : Int) = (m : Int) := by simp
  refine ⟨_, by rw [hrun, hl]; rfl, fun j hj => ?_, below_setRow hb0 (Nat.le_refl _) _, _, setRow_heap w g _ _ _ _ hg⟩
  refine cell_at (setRow_heap w g _ _ _ _ hg) ?_
  have h1 := splice_all D j hj
  unfold splice at h1
  simpa using h1

set_option maxHeartbeats 1000000 in
set_option maxRecDepth 10000 in
/-- a list of numbers, copied -/
theorem frNumbers (v : Value) (m : Nat) (X : Nat → Int) (w : World) (h : IntSl w w.heap.size v m X) :
    Calls Try.prog 99 #[v] w fun e w' => Below w.heap.size w w' ∧ e = .returned (.slice (some ⟨w.heap.size, 0, none⟩) m m) ∧ IntSl w' w'.heap.size (.slice (some ⟨w.heap.size, 0, none⟩) m m) m X ∧ NewV w.heap.size w' (.slice (some ⟨w.heap.size, 0, none⟩) m m) := by
  have HI := hid h
  obtain ⟨ap, cp, rfl, ⟨hcap, hbig⟩, hpc⟩ := h
  obtain ⟨ii, hii, hz0, hz1, hz2⟩ := info_parts Try.infoInt
  clear hpc
  go_enter Try.func99, Try.ntmps99
  go_wp2_with (at_make; go_must (refine wpList_make_full _ rfl (.tmp 5) (.tmp 5) 25 rfl _ 3 ii (.int .i64 0) 1 Try.underlying25 hii hz0 hz1 _ _ _ _ m rfl rfl rfl rfl (by rw [hz2]; omega) (by unfold maxLen; omega) (Nat.le_refl _) ?_; intro w1 ho1 hg1; have HB1 := hid (below_of_grown hg1); obtain ⟨w2, hrun, hm2, hb2, cs2, hh2⟩ := copy_all2 (made_block ho1) (HI.out.up HB1.out) HB1.out; have HM2 := hid hm2; have HB2 := hid hb2; have HH2 := hid hh2; clear ho1 hg1 hm2 hb2 hh2))
  go_ret
  refine ⟨HB2.out, rfl, ⟨_, _, rfl, ⟨Nat.le_refl _, by omega⟩, ?_⟩, newV_block HH2.out (Nat.le_refl _)⟩
  by_cases hm : m = 0
  · exact Or.inl hm
  · exact Or.inr ⟨_, 0, rfl, cell_lt (HM2.out 0 (by omega)), fun j hj => by rw [Nat.zero_add]; exact HM2.out j hj⟩

theorem drew_belowB (w : World) : Below w.heap.size w w.drew := ⟨rfl, rfl, rfl, Nat.le_refl _, fun _ _ => rfl⟩

end Go.Proofs.Ytdhefajaekackaa

/- A kept one copied whole: its numbers in memory of their own (peer.own: make, copy, a new struct). -/
namespace Go.Proofs.Ytdhefajaekackaa

open Go.RowKit
set_option linter.unusedVariables false

theorem IntSl.put3N {w : World} {g : Nat} {v : Value} {m : Nat} {X : Nat → Int} (h : IntSl w w.heap.size v m X) (ha : Above (g + 1) v) (u0 u1 u2 : Value) : IntSl (put3 w g u0 u1 u2) (put3 w g u0 u1 u2).heap.size v m X := by
  have hz : (put3 w g u0 u1 u2).heap.size = w.heap.size := by simp [put3, World.setCell]
  rw [hz]
  unfold put3
  exact ((h.set ha _ _).set ha _ _).set ha _ _

set_option maxHeartbeats 1000000 in
/-- a kept one copied; its numbers' block lies at or above the world's end -/
theorem peOwnX (uv : Value) (m : Nat) (X : Nat → Int) (ver N : Int) (w : World) (h : IntSl w w.heap.size uv m X) :
    Calls Try.prog 78 #[keptV ver N uv] w fun e w' => Below w.heap.size w w' ∧ ∃ pq : Nat, w.heap.size ≤ pq ∧ pq < w'.heap.size ∧ e = .returned (keptV ver N (.slice (some ⟨pq, 0, none⟩) m m)) ∧ IntSl w' w'.heap.size (.slice (some ⟨pq, 0, none⟩) m m) m X ∧ NewV w.heap.size w' (.slice (some ⟨pq, 0, none⟩) m m) := by
  have hbA := ((Below.refl w.heap.size w).alloc (Nat.le_refl _) (.cells #[.int .i64 ver, .int .i64 N, uv] 62)).alloc (by simp) (.cells #[.int .i64 0, .int .i64 0, .slice none 0 0] 62)
  have HI := hid h
  obtain ⟨ap, cp, rfl, _, _⟩ := h
  obtain ⟨W, hW⟩ : ∃ W, (w.alloc (.cells #[.int .i64 ver, .int .i64 N, .slice ap m cp] 62)).alloc (.cells #[.int .i64 0, .int .i64 0, .slice none 0 0] 62) = W := ⟨_, rfl⟩
  rw [hW] at hbA
  have k0 : W.heap[w.heap.size]? = some (.cells #[.int .i64 ver, .int .i64 N, .slice ap m cp] 62 (0, 0)) := by rw [← hW]; exact heap_two_old w _ _
  have k1 : W.heap[w.heap.size + 1]? = some (.cells #[.int .i64 0, .int .i64 0, .slice none 0 0] 62 (0, 0)) := by rw [← hW]; exact heap_two_new w _ _
  obtain ⟨s0, s1, s2⟩ := three_at k0
  have hne : Nonempty (Of (Below W.heap.size W)) := ⟨⟨W, Below.refl _ _⟩⟩
  have F0 : ∀ u : Of (Below W.heap.size W), u.val.cell? ⟨w.heap.size, 0, none⟩ = some (.int .i64 ver) := fun u => by rw [u.is.cell (cell_lt s0)]; exact s0
  have F1 : ∀ u : Of (Below W.heap.size W), u.val.cell? ⟨w.heap.size, 1, none⟩ = some (.int .i64 N) := fun u => by rw [u.is.cell (cell_lt s1)]; exact s1
  have F2 : ∀ u : Of (Below W.heap.size W), u.val.cell? ⟨w.heap.size, 2, none⟩ = some (.slice ap m cp) := fun u => by rw [u.is.cell (cell_lt s2)]; exact s2
  have HD0 : Hid (Below W.heap.size W W.drew) := drew_belowB W
  have CN := hid (frNumbers _ m X W.drew (HI.out.up (hbA.trans (HD0.out.mono hbA.size))))
  have HBW := hid hbA
  have HK1 := hid k1
  clear hbA k0 k1 s0 s1 s2
  unfold keptV
  go_enter Try.func78, Try.ntmps78
  go_wp2_with fail
  refine region_mixed_last (Below W.heap.size W) [([0, 1, 2, 3, 4, 5, 6, 7], 8)] [9, 10] 11 (by kernel_rfl) (by kernel_rfl) HD0.out ?_
  clear hW
  obtain ⟨D0, hD0⟩ : ∃ d, W.drew = d := ⟨_, rfl⟩
  rw [hD0] at HD0 CN ⊢
  clear hD0
  refine mixO_cons (by simp only [pickO, List.getElem?_cons_zero, List.getElem?_cons_succ]; exact rfl) (by simp only [pickO, List.getElem?_cons_zero, List.getElem?_cons_succ]; exact rfl) ?_
  repeat (go_big_quiet_step (fail))
  refine wpQuiet_nil ?_
  intro K hK
  go_wp2_with fail
  refine Calls.mono CN.out ?_
  rintro e w2 ⟨hb2, rfl, hl2, ha2⟩
  have HB2 := hid (HD0.out.trans (hb2.mono HD0.out.size))
  have HL2 := hid hl2
  have HA2 : Hid (NewV W.heap.size w2 (.slice (some ⟨D0.heap.size, 0, none⟩) m m)) := ha2.mono HD0.out.size
  obtain ⟨pq, hpq⟩ : ∃ q, D0.heap.size = q := ⟨_, rfl⟩
  rw [hpq] at HL2 HA2 ⊢
  clear hb2 hl2 ha2 hpq
  go_wp2
  refine ⟨rfl, hK _ _ HB2.out ?_⟩
  clear hK K
  refine mixO_last (by simp only [pickO, List.getElem?_cons_zero, List.getElem?_cons_succ]; exact rfl) (by simp only [pickO, List.getElem?_cons_zero, List.getElem?_cons_succ]; exact rfl) ?_
  repeat (go_big_quiet_step (fail))
  refine wpQuiet_nil ?_
  have hsz : w.heap.size + 1 < W.heap.size := (Array.getElem?_eq_some_iff.1 HK1.out).1
  obtain ⟨d0, d1, d2⟩ := three_at ((HB2.out.block _ hsz).trans HK1.out)
  have f0 := frozen_at (i := 0) ((HB2.out.block _ hsz).trans HK1.out)
  have f1 := frozen_at (i := 1) ((HB2.out.block _ hsz).trans HK1.out)
  have f2 := frozen_at (i := 2) ((HB2.out.block _ hsz).trans HK1.out)
  clear F0 F1 F2 hne
  go_wp2
  have hB3 : Below w.heap.size w (put3 w2 (w.heap.size + 1) (.int .i64 ver) (.int .i64 N) (.slice (some ⟨pq, 0, none⟩) m m)) := put3_below (HBW.out.trans (HB2.out.mono HBW.out.size)) (by omega)
  have hH := put3_whole ((HB2.out.block _ hsz).trans HK1.out) (.int .i64 ver) (.int .i64 N) (.slice (some ⟨pq, 0, none⟩) m m)
  have hpl := HA2.out _ _ _ rfl
  have hz : (put3 w2 (w.heap.size + 1) (.int .i64 ver) (.int .i64 N) (.slice (some ⟨pq, 0, none⟩) m m)).heap.size = w2.heap.size := by simp [put3, World.setCell]
  refine bodyPost_ret (results_cell_row rfl _ _ (w.heap.size + 1) 62 #[.int .i64 ver, .int .i64 N, .slice (some ⟨pq, 0, none⟩) m m] (0, 0) _ rfl hH Try.underlying62 rfl (by kernel_rfl)) rfl ?_
  have h1 : W.heap.size ≤ pq := hpl.1
  have h2 : pq < w2.heap.size := hpl.2.1
  have h9 : pq < (put3 w2 (w.heap.size + 1) (.int .i64 ver) (.int .i64 N) (.slice (some ⟨pq, 0, none⟩) m m)).heap.size := by rw [hz]; exact h2
  exact ⟨hB3, pq, by omega, h9, rfl, HL2.out.put3N (HA2.out.above.mono' (by omega)) _ _ _, ((((HA2.out.mono (by omega : w.heap.size ≤ W.heap.size)).set _ _).set _ _).set _ _)⟩

theorem peOwn (uv : Value) (m : Nat) (X : Nat → Int) (ver N : Int) (w : World) (h : IntSl w w.heap.size uv m X) :
    Calls Try.prog 78 #[keptV ver N uv] w fun e w' => Below w.heap.size w w' ∧ ∃ uv', e = .returned (keptV ver N uv') ∧ IntSl w' w'.heap.size uv' m X ∧ NewV w.heap.size w' uv' := by
  refine Calls.mono (peOwnX uv m X ver N w h) ?_
  rintro e w' ⟨h1, pq, _, _, h4, h5, h6⟩
  exact ⟨h1, _, h4, h5, h6⟩

end Go.Proofs.Ytdhefajaekackaa
