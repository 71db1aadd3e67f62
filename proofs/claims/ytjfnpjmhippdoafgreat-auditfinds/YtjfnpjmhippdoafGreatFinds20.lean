/- Several texts of one proof, in their order. -/
import Derived.Test.YtjfnpjmhippdoafGreatFinds4
import Derived.Laws.CopyOwn
import Derived.Laws.ResultCell
import Derived.Test.YtjfnpjmhippdoafGreatFinds5
import Derived.Sort.Grow
import Derived.Sort.LotA
import Derived.Shelf.SlLaysF
import Derived.Test.YtjfnpjmhippdoafGreatProg
import Derived.Test.YtjfnpjmhippdoafGreatFinds6
import Derived.Shelf.SlSortCmp.Insertion1

/- What package book answers of a book: its error. -/
namespace Go.Proofs.YtjfnpjmhippdoafGreat

open Go.RowKit
set_option linter.unusedVariables false

/-- the parent ahead of number i; -1: there is none -/
def lastP (X : Nat → Int) (i : Nat) : Int := if i = 0 then -1 else X (i - 1)

/-- the error of version k with these parents, of this plan -/
def oneV (k : Int) (m : Nat) (X : Nat → Int) (nd of sz : Int) : Int := if parE k X m 0 (-1) = 0 then chkP nd of sz else parE k X m 0 (-1)

set_option maxHeartbeats 2000000 in
theorem bkOne (k : Nat) (pv : Value) (m : Nat) (X : Nat → Int) (nd of sz : Int) (w : World) (h : IntSl w w.heap.size pv m X) :
    Calls Tryz.prog 90 #[.int .i64 (k : Int), verV pv nd of sz] w fun e w' => e = .returned (.int .i64 (oneV k m X nd of sz)) ∧ Below w.heap.size w w' := by
  have hbA := below_alloc w (.cells #[pv, .int .i64 nd, .int .i64 of, .int .i64 sz] 60)
  obtain ⟨ap, cp, rfl, ⟨hcap, hbig⟩, hpc⟩ := h
  obtain ⟨W, hW⟩ : ∃ W, w.alloc (.cells #[.slice ap m cp, .int .i64 nd, .int .i64 of, .int .i64 sz] 60) = W := ⟨_, rfl⟩
  rw [hW] at hbA
  have s0 : W.cell? ⟨w.heap.size, 0, none⟩ = some (.slice ap m cp) := by rw [← hW]; exact cell_at (heap_alloc_new _ _) rfl
  have s1 : W.cell? ⟨w.heap.size, 1, none⟩ = some (.int .i64 nd) := by rw [← hW]; exact cell_at (heap_alloc_new _ _) rfl
  have s2 : W.cell? ⟨w.heap.size, 2, none⟩ = some (.int .i64 of) := by rw [← hW]; exact cell_at (heap_alloc_new _ _) rfl
  have s3 : W.cell? ⟨w.heap.size, 3, none⟩ = some (.int .i64 sz) := by rw [← hW]; exact cell_at (heap_alloc_new _ _) rfl
  have HBW := hid hbA
  have HPc := hid hpc
  obtain ⟨ans, hans⟩ : ∃ a, oneV k m X nd of sz = a := ⟨_, rfl⟩
  rw [hans]
  unfold oneV at hans
  have HA := hid hans
  clear hbA hpc hans
  unfold verV
  go_enter Tryz.func90, Tryz.ntmps90
  go_wp2
  go_loopw [10] (fun iv wz => ∃ i : Nat, i ≤ m ∧ iv = .int .i64 i ∧ wz = W ∧ Hid (parE k X (m - i) i (lastP X i) = parE k X m 0 (-1))) (fun iv _ => m - (intOf iv).toNat)
  case atStart => exact ⟨0, Nat.zero_le _, rfl, rfl, rfl⟩
  case round =>
    obtain ⟨i, hi, rfl, hwz, HP⟩ := hrel
    subst hwz
    by_cases him : i < m
    · have himi : (i : Int) < (m : Int) := by omega
      rcases HPc.out with h0 | ⟨bp, op, rfl, hbp, hpx⟩
      · omega
      have e0 : wr.cell? ⟨bp, op + i, none⟩ = some (.int .i64 (X i)) := by rw [HBW.out.cell hbp]; exact hpx i him
      have hp := HP.out
      rw [show m - i = (m - (i + 1)) + 1 by omega] at hp
      simp only [parE] at hp
      obtain ⟨x, hxx⟩ : ∃ x, X i = x := ⟨_, rfl⟩
      have hlast : lastP X (i + 1) = x := by unfold lastP; rw [if_neg (by omega)]; exact hxx
      rw [hxx] at e0 hp
      have HLx := hid hlast
      clear hxx hlast
      by_cases c1 : x < 0 ∨ (k : Int) ≤ x
      · rw [if_pos c1] at hp
        have hst := HA.out
        rw [← hp, if_neg (by decide)] at hst
        have HFin := hid hst
        clear hp hst hpx
        by_cases c2 : x < 0
        · go_wp2
          go_ret
          exact ⟨by rw [← HFin.out]; rfl, HBW.out⟩
        · have c3 : (k : Int) ≤ x := by omega
          go_wp2
          go_ret
          exact ⟨by rw [← HFin.out]; rfl, HBW.out⟩
      · rw [if_neg c1] at hp
        have c2 : ¬ x < 0 := fun h => c1 (Or.inl h)
        have c3 : ¬ (k : Int) ≤ x := fun h => c1 (Or.inr h)
        by_cases h0 : i = 0
        · have hz : ¬ 0 < (i : Int) := by omega
          rw [show lastP X i = -1 from if_pos h0, if_neg (by omega)] at hp
          have HP2 := hid hp
          clear hp c1 hpx h0
          go_wp2
          go_roundw
          case rel => exact ⟨i + 1, by omega, by go_num, trivial, by rw [HLx.out]; exact HP2.out⟩
          case measure => simp only [intOf]; omega
        · have hpos : 0 < (i : Int) := by omega
          obtain ⟨j, rfl⟩ : ∃ j, i = j + 1 := ⟨i - 1, by omega⟩
          have e1 : wr.cell? ⟨bp, op + j, none⟩ = some (.int .i64 (X j)) := by rw [HBW.out.cell hbp]; exact hpx j (by omega)
          have hjm : (j : Int) < (m : Int) := by omega
          rw [show lastP X (j + 1) = X j from rfl] at hp
          obtain ⟨y, hyy⟩ : ∃ y, X j = y := ⟨_, rfl⟩
          rw [hyy] at e1 hp
          clear hpx hyy
          by_cases c4 : x ≤ y
          · rw [if_pos c4] at hp
            have hst := HA.out
            rw [← hp, if_neg (by decide)] at hst
            have HFin := hid hst
            clear hp hst c1
            go_wp2
            go_ret
            exact ⟨by rw [← HFin.out]; rfl, HBW.out⟩
          · rw [if_neg c4] at hp
            have HP2 := hid hp
            clear hp c1
            go_wp2
            go_roundw
            case rel => exact ⟨j + 1 + 1, by omega, by go_num, trivial, by rw [HLx.out]; exact HP2.out⟩
            case measure => simp only [intOf]; omega
    · have hie : m = i := by omega
      subst hie
      have hp := HP.out
      rw [Nat.sub_self] at hp
      have hp0 : parE k X m 0 (-1) = 0 := hp.symm
      have hst := HA.out
      rw [hp0, if_pos rfl] at hst
      have HCk := hid (shCheck nd of sz wr)
      rw [hst] at HCk
      clear hp hp0 hst
      unfold planV at HCk
      go_wp2_with fail
      refine Calls.mono HCk.out ?_
      rintro e w5 ⟨rfl, hb5⟩
      have HB5 := hid (HBW.out.trans (hb5.mono HBW.out.size))
      clear hb5
      go_wp2
      go_ret
      exact ⟨rfl, HB5.out⟩

set_option maxHeartbeats 2000000 in
theorem bkCheck (v : Value) (n : Nat) (PV : Nat → Value) (b : Bk) (w : World) (h : VeSl w w.heap.size v n PV b) :
    Calls Tryz.prog 53 #[bookV v] w fun e w' => e = .returned (.int .i64 (bookE n b)) ∧ Below w.heap.size w w' := by
  obtain ⟨ad, cap, rfl, ⟨hcap, hbig⟩, hx⟩ := h
  have hbx := below_alloc w (.cells #[.slice ad n cap] 24)
  have HBx := hid hbx
  have HX := hid hx
  obtain ⟨ans, hans⟩ : ∃ a, bookE n b = a := ⟨_, rfl⟩
  rw [hans]
  unfold bookE at hans
  clear hbx hx
  unfold bookV
  by_cases hn : n ≤ 12
  · rw [if_pos hn] at hans
    have HA := hid hans
    have hni : (n : Int) ≤ 12 := by omega
    clear hans
    go_enter Tryz.func53, Tryz.ntmps53
    go_wp2
    go_loopw [13] (fun iv wr => ∃ k : Nat, k ≤ n ∧ iv = .int .i64 k ∧ Hid (Below w.heap.size w wr) ∧ Hid (scanV b (n - k) k = ans)) (fun iv _ => n - (intOf iv).toNat)
    case atStart => exact ⟨0, Nat.zero_le _, rfl, HBx, HA⟩
    case round =>
      obtain ⟨k, hk, rfl, HB, HS⟩ := hrel
      by_cases hlt : k < n
      · have hki : (k : Int) < (n : Int) := by omega
        rcases HX.out with h0 | ⟨bl, off, rfl, hbl, hx⟩
        · omega
        obtain ⟨x0, x1, x2, x3, x4⟩ := hx k hlt
        have hstep := HS.out
        rw [show n - k = (n - (k + 1)) + 1 by omega] at hstep
        simp only [scanV] at hstep
        have HI : Hid (∀ w', Below w.heap.size w w' → IntSl w' w'.heap.size (PV k) (b.PL k) (b.PX k)) := fun w' hb => x4.up hb
        obtain ⟨ap, cp, hpe, _, _⟩ := x4
        rw [hpe] at x0 HI
        have g0 : wr.cell? ⟨bl, off + k * 4, none⟩ = some (.slice ap (b.PL k) cp) := by rw [HB.out.cell hbl]; exact x0
        have g1 : wr.cell? ⟨bl, off + k * 4 + 1, none⟩ = some (.int .i64 (b.nd k)) := by rw [HB.out.cell hbl]; exact x1
        have g2 : wr.cell? ⟨bl, off + k * 4 + 2, none⟩ = some (.int .i64 (b.of k)) := by rw [HB.out.cell hbl]; exact x2
        have g3 : wr.cell? ⟨bl, off + k * 4 + 3, none⟩ = some (.int .i64 (b.sz k)) := by rw [HB.out.cell hbl]; exact x3
        have hbA := below_alloc wr (.cells #[.slice ap (b.PL k) cp, .int .i64 (b.nd k), .int .i64 (b.of k), .int .i64 (b.sz k)] 60)
        have HBW := hid (HB.out.trans (hbA.mono HB.out.size))
        have HC := hid (bkOne k _ _ _ (b.nd k) (b.of k) (b.sz k) _ (HI.out _ HBW.out))
        rw [show oneV k (b.PL k) (b.PX k) (b.nd k) (b.of k) (b.sz k) = verE b k from rfl] at HC
        obtain ⟨c, hcc⟩ : ∃ c, verE b k = c := ⟨_, rfl⟩
        rw [hcc] at HC hstep
        clear x0 x1 x2 x3 hx hpe hbA hcc
        unfold verV at HC
        by_cases hc0 : c = 0
        · subst hc0
          rw [if_pos rfl] at hstep
          have HNx := hid hstep
          clear hstep
          go_wp2_with fail
          refine Calls.mono HC.out ?_
          rintro e w5 ⟨rfl, hb5⟩
          have HB5 := hid (HBW.out.trans (hb5.mono HBW.out.size))
          clear hb5
          go_wp2
          go_roundw
          case rel => exact ⟨k + 1, by omega, by go_num, HB5, HNx⟩
          case measure => simp only [intOf]; omega
        · rw [if_neg hc0] at hstep
          have HFin := hid hstep
          have hcb : (c != 0) = true := by simpa using hc0
          clear hstep hc0
          go_wp2_with fail
          refine Calls.mono HC.out ?_
          rintro e w5 ⟨rfl, hb5⟩
          have HB5 := hid (HBW.out.trans (hb5.mono HBW.out.size))
          clear hb5
          go_wp2
          go_ret
          exact ⟨by rw [← HFin.out]; rfl, HB5.out⟩
      · have hke : n = k := by omega
        subst hke
        have hst := HS.out
        rw [Nat.sub_self] at hst
        have HFin : Hid ((0 : Int) = ans) := hst
        clear hst
        go_wp2
        go_ret
        exact ⟨by rw [← HFin.out]; rfl, HB.out⟩
  · rw [if_neg hn] at hans
    have HA := hid hans
    have hni : ¬ (n : Int) ≤ 12 := by omega
    clear hans
    go_enter Tryz.func53, Tryz.ntmps53
    go_wp2
    go_ret
    exact ⟨by rw [← HA.out]; rfl, HBx.out⟩

end Go.Proofs.YtjfnpjmhippdoafGreat

/- What package book makes of its own: a version, a book, copied whole. -/
namespace Go.Proofs.YtjfnpjmhippdoafGreat

open Go.RowKit
set_option linter.unusedVariables false

theorem splice_all {n : Nat} (D : Nat → Int) (j : Nat) (hj : j < n) :
    (splice (List.replicate n (Value.int .i64 0)) 0 ((List.range n).map fun j => Value.int .i64 (D j)))[j]? = some (.int .i64 (D j)) := by
  unfold splice
  simp only [List.take_zero, List.nil_append]
  rw [List.getElem?_append_left (by simpa using hj)]
  simp [hj]

/-- a list copied over as many noughts -/
theorem copy_all2 {w0 w : World} {g m cp : Nat} {a : Option Addr} {D : Nat → Int} (hg : w.heap[g]? = some (.cells (List.replicate m (Value.int .i64 0)).toArray 3 (0, 0))) (h : IntSl w w.heap.size (.slice a m cp) m D) (hb0 : Below g w0 w) :
    ∃ w', (Builtin.copy_ #[28, 28] 3 #[.slice (some ⟨g, 0, none⟩) m m, .slice a m cp]).run Tryz.prog w = .ok (.int .i64 (m : Int)) w' ∧ (∀ j, j < m → w'.cell? ⟨g, j, none⟩ = some (.int .i64 (D j))) ∧ Below g w0 w' ∧ ∃ cs : Array Value, w'.heap[g]? = some (.cells cs 3 (0, 0)) := by
  obtain ⟨ad, cp', e, _, hx⟩ := h
  injection e with e1
  subst e1
  by_cases hm : m = 0
  · subst hm
    exact ⟨w, run_copy_none (P := Tryz.prog) w 28 28 3 3 _ _ 0 0 0 cp Tryz.underlying28 Tryz.sizeInt rfl, fun j hj => by omega, hb0, _, hg⟩
  rcases hx with h0 | ⟨b, o, rfl, hb, hx⟩
  · omega
  have hsrc : ∀ j v, ((List.range m).map fun j => Value.int .i64 (D j))[j]? = some v → w.cell? (Addr.add ⟨b, o, none⟩ j) = some v := fun j v hj => by
    have hjs : j < m := by
      rcases Nat.lt_or_ge j m with h | h
      · exact h
      · rw [List.getElem?_eq_none (by simpa using h)] at hj; cases hj
    simp only [List.getElem?_map, List.getElem?_range hjs, Option.map_some, Option.some.injEq] at hj
    rw [Addr.add_lit, hx j hjs, hj]
  have hrun := run_copy_row (P := Tryz.prog) w 28 28 3 3 g 0 m m ⟨b, o, none⟩ m cp (List.replicate m (Value.int .i64 0)).toArray 3 ((List.range m).map fun j => Value.int .i64 (D j)) Tryz.underlying28 Tryz.sizeInt hg (by simp) hsrc (by simp) (fun v hv => by obtain ⟨j, _, rfl⟩ := List.mem_map.1 hv; rfl)
  have hl : (((List.range m).map fun j => Value.int .i64 (D j)).length : Int) = (m : Int) := by simp
  refine ⟨_, by rw [hrun, hl]; rfl, fun j hj => ?_, below_setRow hb0 (Nat.le_refl _) _, _, setRow_heap w g _ _ _ _ hg⟩
  refine cell_at (setRow_heap w g _ _ _ _ hg) ?_
  have h1 := splice_all D j hj
  unfold splice at h1
  simpa using h1

theorem copy_all {w0 w : World} {g m cp : Nat} {a : Option Addr} {D : Nat → Int} (hg : w.heap[g]? = some (.cells (List.replicate m (Value.int .i64 0)).toArray 3 (0, 0))) (h : IntSl w w.heap.size (.slice a m cp) m D) (hb0 : Below g w0 w) :
    ∃ w', (Builtin.copy_ #[28, 28] 3 #[.slice (some ⟨g, 0, none⟩) m m, .slice a m cp]).run Tryz.prog w = .ok (.int .i64 (m : Int)) w' ∧ (∀ j, j < m → w'.cell? ⟨g, j, none⟩ = some (.int .i64 (D j))) ∧ Below g w0 w' := by
  obtain ⟨w', h1, h2, h3, _⟩ := copy_all2 hg h hb0
  exact ⟨w', h1, h2, h3⟩

theorem four_at {w : World} {g : Nat} {T : TypeId} {u0 u1 u2 u3 : Value} (h : w.heap[g]? = some (.cells #[u0, u1, u2, u3] T (0, 0))) :
    w.cell? ⟨g, 0, none⟩ = some u0 ∧ w.cell? ⟨g, 1, none⟩ = some u1 ∧ w.cell? ⟨g, 2, none⟩ = some u2 ∧ w.cell? ⟨g, 3, none⟩ = some u3 := ⟨cell_at h rfl, cell_at h rfl, cell_at h rfl, cell_at h rfl⟩

theorem four_free {w : World} {g : Nat} {T : TypeId} {u0 u1 u2 u3 : Value} (h : w.heap[g]? = some (.cells #[u0, u1, u2, u3] T (0, 0))) :
    w.frozen? ⟨g, 0, none⟩ = false ∧ w.frozen? ⟨g, 1, none⟩ = false ∧ w.frozen? ⟨g, 2, none⟩ = false ∧ w.frozen? ⟨g, 3, none⟩ = false := ⟨frozen_at h, frozen_at h, frozen_at h, frozen_at h⟩

/-- a version put into its cells -/
def put4 (w : World) (g o : Nat) (u0 u1 u2 u3 : Value) : World := (((w.setCell ⟨g, o, none⟩ u0).setCell ⟨g, o + 1, none⟩ u1).setCell ⟨g, o + 2, none⟩ u2).setCell ⟨g, o + 3, none⟩ u3

theorem put4_whole {w : World} {g : Nat} {T : TypeId} {v0 v1 v2 v3 : Value} (h : w.heap[g]? = some (.cells #[v0, v1, v2, v3] T (0, 0))) (u0 u1 u2 u3 : Value) : (put4 w g 0 u0 u1 u2 u3).heap[g]? = some (.cells #[u0, u1, u2, u3] T (0, 0)) := by
  simp [put4, World.setCell, Array.getElem?_modify, h]

theorem below_put4 {B : Nat} {w0 w : World} (h : Below B w0 w) {g : Nat} (hg : B ≤ g) (o : Nat) (u0 u1 u2 u3 : Value) : Below B w0 (put4 w g o u0 u1 u2 u3) :=
  (((h.setCell (p := ⟨g, o, none⟩) hg _).setCell (p := ⟨g, o + 1, none⟩) hg _).setCell (p := ⟨g, o + 2, none⟩) hg _).setCell (p := ⟨g, o + 3, none⟩) hg _

theorem put4_other {w : World} {g o : Nat} {u0 u1 u2 u3 : Value} {a : Addr} (h : a.block ≠ g) : (put4 w g o u0 u1 u2 u3).cell? a = w.cell? a := by
  unfold put4
  rw [World.cell?_setCell_other _ _ _ _ (by intro e; rw [← e] at h; exact h rfl), World.cell?_setCell_other _ _ _ _ (by intro e; rw [← e] at h; exact h rfl), World.cell?_setCell_other _ _ _ _ (by intro e; rw [← e] at h; exact h rfl), World.cell?_setCell_other _ _ _ _ (by intro e; rw [← e] at h; exact h rfl)]

set_option maxHeartbeats 1000000 in
theorem bkOwn (pv : Value) (m : Nat) (X : Nat → Int) (nd of sz : Int) (w : World) (h : IntSl w w.heap.size pv m X) :
    Calls Tryz.prog 55 #[verV pv nd of sz] w fun e w' => Below w.heap.size w w' ∧ ∃ pv', e = .returned (verV pv' nd of sz) ∧ IntSl w' w'.heap.size pv' m X ∧ Above w.heap.size pv' := by
  have hbA := ((Below.refl w.heap.size w).alloc (Nat.le_refl _) (.cells #[pv, .int .i64 nd, .int .i64 of, .int .i64 sz] 60)).alloc (by simp) (.cells #[.slice none 0 0, .int .i64 0, .int .i64 0, .int .i64 0] 60)
  have HI := hid h
  obtain ⟨ap, cp, rfl, ⟨hcap, hbig⟩, hpc⟩ := h
  obtain ⟨W, hW⟩ : ∃ W, (w.alloc (.cells #[.slice ap m cp, .int .i64 nd, .int .i64 of, .int .i64 sz] 60)).alloc (.cells #[.slice none 0 0, .int .i64 0, .int .i64 0, .int .i64 0] 60) = W := ⟨_, rfl⟩
  rw [hW] at hbA
  have k0 : W.heap[w.heap.size]? = some (.cells #[.slice ap m cp, .int .i64 nd, .int .i64 of, .int .i64 sz] 60 (0, 0)) := by rw [← hW]; exact heap_two_old w _ _
  have k1 : W.heap[w.heap.size + 1]? = some (.cells #[.slice none 0 0, .int .i64 0, .int .i64 0, .int .i64 0] 60 (0, 0)) := by rw [← hW]; exact heap_two_new w _ _
  have hsz : w.heap.size + 1 < W.heap.size := (Array.getElem?_eq_some_iff.1 k1).1
  have s0 : W.cell? ⟨w.heap.size, 0, none⟩ = some (.slice ap m cp) := cell_at k0 rfl
  obtain ⟨ii, hii, hz0, hz1, hz2⟩ := info_parts Tryz.infoInt
  have HBW := hid hbA
  have HK0 := hid k0
  have HK1 := hid k1
  have HSz := hid hsz
  clear hbA hpc k0 k1 hsz
  unfold verV
  go_enter Tryz.func55, Tryz.ntmps55
  go_wp2_with (at_make; refine wpList_make_full _ rfl (.tmp 6) (.tmp 6) 28 rfl _ 3 ii (.int .i64 0) 1 Tryz.underlying28 hii hz0 hz1 _ _ _ _ m rfl rfl rfl rfl (by rw [hz2]; omega) (by unfold maxLen; omega) (Nat.le_refl _) ?_; intro w1 ho1 hg1; have HB1 := hid (below_of_grown hg1); have t0 : w1.cell? ⟨w.heap.size, 0, none⟩ = some (.slice ap m cp) := (HB1.out.cell (cell_lt s0)).trans s0; obtain ⟨w2, hrun, hm2, hb2⟩ := copy_all (made_block ho1) ((HI.out.up HBW.out).up HB1.out) HB1.out; have HM2 := hid hm2; have HB2 := hid hb2; obtain ⟨c0, c1, c2, c3⟩ := four_at ((hb2.block _ (Nat.lt_of_succ_lt HSz.out)).trans HK0.out); obtain ⟨d0, d1, d2, d3⟩ := four_at ((hb2.block _ HSz.out).trans HK1.out); obtain ⟨f0, f1, f2, f3⟩ := four_free ((hb2.block _ HSz.out).trans HK1.out); clear ho1 hg1 hm2 hb2)
  have hB3 : Below w.heap.size w (put4 w2 (w.heap.size + 1) 0 (.slice (some ⟨W.heap.size, 0, none⟩) m m) (.int .i64 nd) (.int .i64 of) (.int .i64 sz)) := below_put4 (HBW.out.trans (HB2.out.mono HBW.out.size)) (by omega) _ _ _ _ _
  have hH := put4_whole ((HB2.out.block _ HSz.out).trans HK1.out) (.slice (some ⟨W.heap.size, 0, none⟩) m m) (.int .i64 nd) (.int .i64 of) (.int .i64 sz)
  refine bodyPost_ret (results_cell_row rfl _ _ (w.heap.size + 1) 60 #[.slice (some ⟨W.heap.size, 0, none⟩) m m, .int .i64 nd, .int .i64 of, .int .i64 sz] (0, 0) _ rfl hH Tryz.underlying60 rfl (by kernel_rfl)) rfl ?_
  refine ⟨hB3, _, rfl, ⟨_, _, rfl, ⟨Nat.le_refl _, by omega⟩, ?_⟩, fun ad n' c' e' => by injection e' with e1; injection e1 with e1; subst e1; exact HBW.out.size⟩
  by_cases hm : m = 0
  · exact Or.inl hm
  · have hsz := HSz.out
    have hc : ∀ j, j < m → (put4 w2 (w.heap.size + 1) 0 (.slice (some ⟨W.heap.size, 0, none⟩) m m) (.int .i64 nd) (.int .i64 of) (.int .i64 sz)).cell? ⟨W.heap.size, 0 + j, none⟩ = some (.int .i64 (X j)) := fun j hj => by
      rw [put4_other (by show W.heap.size ≠ w.heap.size + 1; omega), Nat.zero_add]
      exact HM2.out j hj
    exact Or.inr ⟨_, 0, rfl, cell_lt (hc 0 (by omega)), hc⟩

end Go.Proofs.YtjfnpjmhippdoafGreat

/- What package place owes, and the closed fact that chapter 8's laws ask first. -/
namespace Go.Proofs.YtjfnpjmhippdoafGreat

open Go.RowKit
set_option linter.unusedVariables false

theorem kel_nil (w : World) (B : Nat) (UV : Nat → Value) (t : Kt) : KeSl w B (.slice none 0 0) 0 UV t := ⟨none, 0, rfl, ⟨Nat.le_refl _, by omega⟩, Or.inl rfl⟩

end Go.Proofs.YtjfnpjmhippdoafGreat

/- How package place holds two peers against each other: by how much room is left. -/
namespace Go.Proofs.YtjfnpjmhippdoafGreat

open Go.RowKit Go.Lib Go.Sort
set_option linter.unusedVariables false

/-- which of two numbers is greater -/
def cmpZ (a c : Int) : Int := if a < c then -1 else if c < a then 1 else 0

/-- a world that has drawn, and holds more -/
def GrO (w u : World) : Prop := ∃ q os, u = grow (w.drewN q) os

theorem GrO.refl (w : World) : GrO w w := ⟨0, #[], by rw [grow_empty]; rfl⟩
theorem GrO.alloc {w u : World} (h : GrO w u) (o : Obj) : GrO w (u.alloc o) := by
  obtain ⟨q, os, rfl⟩ := h
  exact ⟨q, os ++ #[o], by rw [alloc_eq_grow, grow_grow]⟩
theorem GrO.drew {w u : World} (h : GrO w u) : GrO w u.drew := by
  obtain ⟨q, os, rfl⟩ := h
  exact ⟨q + 1, os, rfl⟩
theorem GrO.below {w u : World} (h : GrO w u) : Below w.heap.size w u := by
  obtain ⟨q, os, rfl⟩ := h
  refine ⟨rfl, rfl, rfl, by simp [grow], fun k hk => ?_⟩
  show (w.heap ++ os)[k]? = w.heap[k]?
  rw [Array.getElem?_append_left hk]

theorem isNaN_int (x : Int) (w : World) : Calls Tryz.prog 107 #[.int .i64 x] w fun e w' => e = .returned (.bool false) ∧ w' = w := by
  have hx : (x != x) = false := by simp
  go_enter Tryz.func107, Tryz.ntmps107
  go_wp2
  go_ret
  exact ⟨by first | rfl | rw [hx], rfl⟩

theorem compare_int (x y : Int) (w : World) : Calls Tryz.prog 96 #[.int .i64 x, .int .i64 y] w fun e w' => e = .returned (.int .i64 (cmpZ x y)) ∧ w' = w := by
  unfold cmpZ
  by_cases h1 : x < y
  · rw [if_pos h1]
    go_enter Tryz.func96, Tryz.ntmps96
    go_wp2_with (go_at_call 107; go_must (refine (isNaN_int _ _).mono ?_; rintro e w1 ⟨rfl, hw1⟩; subst w1))
    go_ret
    exact ⟨rfl, rfl⟩
  · rw [if_neg h1]
    by_cases h2 : y < x
    · rw [if_pos h2]
      go_enter Tryz.func96, Tryz.ntmps96
      go_wp2_with (go_at_call 107; go_must (refine (isNaN_int _ _).mono ?_; rintro e w1 ⟨rfl, hw1⟩; subst w1))
      go_ret
      exact ⟨rfl, rfl⟩
    · rw [if_neg h2]
      go_enter Tryz.func96, Tryz.ntmps96
      go_wp2_with (go_at_call 107; go_must (refine (isNaN_int _ _).mono ?_; rintro e w1 ⟨rfl, hw1⟩; subst w1))
      go_ret
      exact ⟨rfl, rfl⟩

theorem plLeft (th : Bool) (room : Int) (a : Option Addr) (m c : Nat) (w : World) (h1 : 0 ≤ room ∧ room ≤ 20) (h2 : (m : Int) ≤ room) :
    Calls Tryz.prog 93 #[peerV th room (.slice a m c)] w fun e w' => e = .returned (.int .i64 (room - m)) ∧ w' = w.alloc (.cells #[.bool th, .int .i64 room, .slice a m c] 45) := by
  unfold peerV
  go_enter Tryz.func93, Tryz.ntmps93
  go_wp2
  go_ret
  exact ⟨rfl, rfl⟩

set_option maxHeartbeats 2000000 in
theorem plComp (bx : Nat) (a : Option Addr) (c : Nat) (np : Nat) (KV : Nat → Value) (UV : Nat → Nat → Value) (P : Ps) (i j : Nat) (hi : i < np) (hj : j < np) (hr : ∀ k, k < np → (0 ≤ P.rm k ∧ P.rm k ≤ 20) ∧ (P.m k : Int) ≤ P.rm k) (w : World)
    (hl : PsSl w w.heap.size (.slice a np c) np KV UV P) (hx : w.cell? ⟨bx, 0, none⟩ = some (.slice a np c)) :
    Calls Tryz.prog 95 #[.int .i64 (i : Int), .int .i64 (j : Int), .pointer (some ⟨bx, 0, none⟩)] w fun e w' => e = .returned (.int .i64 (cmpZ (leftK P j) (leftK P i))) ∧ GrO w w' := by
  obtain ⟨bl, off, rfl, hbl, g0, g1, g2, g3⟩ := hl.at hi
  obtain ⟨bl', off', he, _, f0, f1, f2, f3⟩ := hl.at hj
  injection he with he
  injection he with he1 he2 _
  subst he1 he2
  obtain ⟨ai, ci, hki, _, _⟩ := g3
  obtain ⟨aj, cj, hkj, _, _⟩ := f3
  obtain ⟨_, _, _, ⟨hcl, hbig⟩, _⟩ := hl
  have hri := hr i hi
  have hrj := hr j hj
  rw [hki] at g2
  rw [hkj] at f2
  have hne : Nonempty (Of (GrO w)) := ⟨⟨w, GrO.refl w⟩⟩
  have F0 : ∀ u : Of (GrO w), u.val.cell? ⟨bx, 0, none⟩ = some (.slice (some ⟨bl, off, none⟩) np c) := fun u => by rw [u.is.below.cell (cell_lt hx)]; exact hx
  have F1 : ∀ u : Of (GrO w), u.val.cell? ⟨bl, off + i * 3, none⟩ = some (.bool (P.th i)) := fun u => by rw [u.is.below.cell hbl]; exact g0
  have F2 : ∀ u : Of (GrO w), u.val.cell? ⟨bl, off + i * 3 + 1, none⟩ = some (.int .i64 (P.rm i)) := fun u => by rw [u.is.below.cell hbl]; exact g1
  have F3 : ∀ u : Of (GrO w), u.val.cell? ⟨bl, off + i * 3 + 2, none⟩ = some (.slice ai (P.m i) ci) := fun u => by rw [u.is.below.cell hbl]; exact g2
  have F4 : ∀ u : Of (GrO w), u.val.cell? ⟨bl, off + j * 3, none⟩ = some (.bool (P.th j)) := fun u => by rw [u.is.below.cell hbl]; exact f0
  have F5 : ∀ u : Of (GrO w), u.val.cell? ⟨bl, off + j * 3 + 1, none⟩ = some (.int .i64 (P.rm j)) := fun u => by rw [u.is.below.cell hbl]; exact f1
  have F6 : ∀ u : Of (GrO w), u.val.cell? ⟨bl, off + j * 3 + 2, none⟩ = some (.slice aj (P.m j) cj) := fun u => by rw [u.is.below.cell hbl]; exact f2
  have hii : (i : Int) < (np : Int) := by omega
  have hjj : (j : Int) < (np : Int) := by omega
  have C1 : Hid (∀ u, _) := fun u => plLeft (P.th j) (P.rm j) aj (P.m j) cj u hrj.1 hrj.2
  have C2 : Hid (∀ u, _) := fun u => plLeft (P.th i) (P.rm i) ai (P.m i) ci u hri.1 hri.2
  have C3 : Hid (∀ u, _) := fun u => compare_int (P.rm j - P.m j) (P.rm i - P.m i) u
  unfold peerV at C1 C2
  clear g0 g1 g2 f0 f1 f2 hki hkj hx hr
  unfold leftK
  obtain ⟨ans, hans⟩ : ∃ x, cmpZ (P.rm j - P.m j) (P.rm i - P.m i) = x := ⟨_, rfl⟩
  rw [hans]
  rw [hans] at C3
  clear hans
  go_enter Tryz.func95, Tryz.ntmps95
  go_wp2_with fail
  have HD1 : Hid (GrO w w.drew) := (GrO.refl w).drew
  refine region_mixed (GrO w) [([0, 1, 2, 3, 5, 6, 7, 8], 4), ([], 9), ([], 10)] [11] (by kernel_rfl) (by kernel_rfl) HD1.out ?_
  refine mixO_cons (by simp only [pickO, List.getElem?_cons_zero, List.getElem?_cons_succ]; exact rfl) (by simp only [pickO, List.getElem?_cons_zero, List.getElem?_cons_succ]; exact rfl) ?_
  repeat (go_big_quiet_step (fail))
  refine wpQuiet_nil ?_
  intro K hK
  go_wp2_with fail
  refine Calls.mono (C1.out _) ?_
  rintro e w5 ⟨rfl, hw5⟩
  have H5 : Hid (GrO w w5) := by show GrO w w5; rw [hw5]; exact HD1.out.alloc _
  clear hw5
  go_wp2
  refine ⟨rfl, hK _ _ H5.out ?_⟩
  clear hK K
  refine mixO_cons (lq := []) rfl (by simp only [pickO, List.getElem?_cons_zero, List.getElem?_cons_succ]; exact rfl) ?_
  refine wpQuiet_nil ?_
  intro K hK
  go_wp2_with fail
  refine Calls.mono (C2.out _) ?_
  rintro e w6 ⟨rfl, hw6⟩
  have H6 : Hid (GrO w w6) := by show GrO w w6; rw [hw6]; exact H5.out.alloc _
  clear hw6
  go_wp2
  refine ⟨rfl, hK _ _ H6.out ?_⟩
  clear hK K
  refine mixO_cons (lq := []) rfl (by simp only [pickO, List.getElem?_cons_zero, List.getElem?_cons_succ]; exact rfl) ?_
  refine wpQuiet_nil ?_
  intro K hK
  go_wp2_with fail
  refine Calls.mono (C3.out _) ?_
  rintro e w7 ⟨rfl, hw7⟩
  subst w7
  go_wp2
  refine ⟨rfl, hK _ _ H6.out ?_⟩
  clear hK K
  refine mixO_nil (by simp only [pickO, List.getElem?_cons_zero, List.getElem?_cons_succ]; exact rfl) ?_
  repeat (go_big_quiet_step (fail))
  refine wpQuiet_nil ?_
  clear F0 F1 F2 F3 F4 F5 F6 hne
  go_wp2
  go_ret
  exact ⟨rfl, H6.out⟩

end Go.Proofs.YtjfnpjmhippdoafGreat

/- The insertion sort keeps the order of like ones: of a list that rises it makes the one that is sorted by what is asked, and of like ones by number. Plain: it speaks of no program. -/
namespace Go.Proofs.YtjfnpjmhippdoafGreat

open Go.Sort
set_option linter.unusedVariables false

section

variable {α : Type} [Inhabited α] (key : α → Nat) (lt ltX : α → α → Bool)

theorem insInner_agree (hag : ∀ x y, key y < key x → lt x y = ltX x y) : ∀ (j : Nat) (d : Array α), j < d.size → (∀ k, k < j → key d[k]! < key d[j]!) → insInner lt 0 j d = insInner ltX 0 j d := by
  intro j
  induction j with
  | zero => intro d _ _; rfl
  | succ j ih =>
    intro d hj hk
    have e := hag d[j + 1]! d[j]! (hk j (by omega))
    unfold insInner
    rw [e]
    by_cases c : (decide (j + 1 > 0) && ltX d[j + 1]! d[j]!) = true
    · rw [if_pos c, if_pos c]
      refine ih _ (by rw [size_swp]; omega) fun k hkj => ?_
      rw [swp_right d (j + 1) j (by omega), swp_other d (j + 1) j k (by omega) (by omega)]
      exact hk k (by omega)
    · rw [if_neg c, if_neg c]

/-- what an inner loop leaves: no greater keys than c up to i, all else as it was -/
theorem insInner_keeps (c i : Nat) : ∀ (j : Nat) (d : Array α), j ≤ i → i < d.size → (∀ k, k ≤ i → key d[k]! ≤ c) →
    (insInner ltX 0 j d).size = d.size ∧ (∀ k, k ≤ i → key (insInner ltX 0 j d)[k]! ≤ c) ∧ ∀ m, i < m → (insInner ltX 0 j d)[m]! = d[m]! := by
  intro j
  induction j with
  | zero => intro d _ _ h; exact ⟨rfl, h, fun _ _ => rfl⟩
  | succ j ih =>
    intro d hj hi h
    unfold insInner
    by_cases c1 : (decide (j + 1 > 0) && ltX d[j + 1]! d[j]!) = true
    · rw [if_pos c1]
      have h2 : ∀ k, k ≤ i → key (swp d (j + 1) j)[k]! ≤ c := fun k hk => by
        by_cases e1 : k = j + 1
        · subst e1; rw [swp_left d (j + 1) j (by omega) (by omega)]; exact h j (by omega)
        · by_cases e2 : k = j
          · subst e2; rw [swp_right d (k + 1) k (by omega)]; exact h (k + 1) (by omega)
          · rw [swp_other d (j + 1) j k e1 e2]; exact h k hk
      obtain ⟨g1, g2, g3⟩ := ih (swp d (j + 1) j) (by omega) (by rw [size_swp]; exact hi) h2
      refine ⟨by rw [g1, size_swp], g2, fun m hm => ?_⟩
      rw [g3 m hm, swp_other d (j + 1) j m (by omega) (by omega)]
    · rw [if_neg c1]
      exact ⟨rfl, h, fun _ _ => rfl⟩

theorem insOuter_go' (a b i : Nat) (d : Array α) (h : i < b) : insOuter lt a b i d = insOuter lt a b (i + 1) (insInner lt a i d) := by rw [insOuter, if_pos h]
theorem insOuter_stop' (a b i : Nat) (d : Array α) (h : ¬ i < b) : insOuter lt a b i d = d := by rw [insOuter, if_neg h]

theorem insOuter_agree (hag : ∀ x y, key y < key x → lt x y = ltX x y) (d0 : Array α) (hr : ∀ i j, i < j → j < d0.size → key d0[i]! < key d0[j]!) :
    ∀ (f i : Nat) (d : Array α), d0.size - i ≤ f → 1 ≤ i → d.size = d0.size → (∀ k, k < i → i < d0.size → key d[k]! < key d0[i]!) → (∀ m, i ≤ m → d[m]! = d0[m]!) → insOuter lt 0 d0.size i d = insOuter ltX 0 d0.size i d := by
  intro f
  induction f with
  | zero =>
    intro i d hf h1 hs hk hm
    rw [insOuter_stop' lt _ _ _ _ (by omega), insOuter_stop' ltX _ _ _ _ (by omega)]
  | succ f ih =>
    intro i d hf h1 hs hk hm
    by_cases hi : i < d0.size
    · rw [insOuter_go' lt _ _ _ _ hi, insOuter_go' ltX _ _ _ _ hi]
      have hki : ∀ k, k < i → key d[k]! < key d[i]! := fun k h => by rw [hm i (Nat.le_refl _)]; exact hk k h hi
      rw [insInner_agree key lt ltX hag i d (by omega) hki]
      have hc : ∀ k, k ≤ i → key d[k]! ≤ key d0[i]! := fun k h => by
        by_cases e : k = i
        · subst e; rw [hm k (Nat.le_refl _)]; exact Nat.le_refl _
        · exact Nat.le_of_lt (hk k (by omega) hi)
      obtain ⟨g1, g2, g3⟩ := insInner_keeps key ltX (key d0[i]!) i i d (Nat.le_refl _) (by omega) hc
      refine ih (i + 1) _ (by omega) (by omega) (by rw [g1, hs]) (fun k h h2 => ?_) (fun m h => ?_)
      · have := g2 k (by omega)
        have := hr i (i + 1) (by omega) h2
        omega
      · rw [g3 m (by omega), hm m (by omega)]
    · rw [insOuter_stop' lt _ _ _ _ hi, insOuter_stop' ltX _ _ _ _ hi]

/-- of a list that rises: sorted by what is asked, of like ones by number -/
theorem insertionSort_stable (hag : ∀ x y, key y < key x → lt x y = ltX x y) (hS : SWO ltX) (d : Array α) (hr : ∀ i j, i < j → j < d.size → key d[i]! < key d[j]!) :
    PermIn 0 d.size d (insertionSort lt d 0 d.size) ∧ SortedIn ltX 0 d.size (insertionSort lt d 0 d.size) := by
  have e : insertionSort lt d 0 d.size = insertionSort ltX d 0 d.size := by
    unfold insertionSort
    refine insOuter_agree key lt ltX hag d hr d.size 1 d (by omega) (Nat.le_refl _) rfl (fun k hk h => hr k 1 (by omega) h) (fun _ _ => rfl)
  rw [e]
  exact insertionSort_holds hS d 0 d.size (Nat.zero_le _) (Nat.le_refl _)

end

end Go.Proofs.YtjfnpjmhippdoafGreat

/- Contracts of the library as they lie at this program: laid by the guide's own command, in plain words. -/
namespace Go.Proofs

open Go.Shelf
def Tryz.insInts_ren : Go.Shelf.Ren := ⟨fun | 20 => 141 | n => n, fun | 24 => 3 | 22 => 28 | 3 => 3 | 25 => 41 | 4 => 4 | 0 => 0 | n => n, fun | n => n⟩
theorem Tryz.insInts : Go.Proofs.SlLaysF.n20 Tryz.prog Tryz.insInts_ren := {
  mixed := by kernel_rfl
  f20 := ⟨Tryz.f141.name, by decide, Tryz.func141.trans (congrArg some (by kernel_rfl))⟩
  t0 := Tryz.underlying0
  a0 := Tryz.isAgg0
  z0 := Tryz.sizeOf0
  v0 := Tryz.zeroValue0
  t3 := Tryz.underlying3
  a3 := Tryz.isAgg3
  z3 := Tryz.sizeOf3
  v3 := Tryz.zeroValue3
  t4 := Tryz.underlying4
  a4 := Tryz.isAgg4
  z4 := Tryz.sizeOf4
  v4 := Tryz.zeroValue4
  t22 := Tryz.underlying28
  a22 := Tryz.isAgg28
  z22 := Tryz.sizeOf28
  v22 := Tryz.zeroValue28
  a24 := Tryz.isAgg3
  z24 := Tryz.sizeOf3
  t25 := Tryz.underlying41
  a25 := Tryz.isAgg41
  z25 := Tryz.sizeOf41
  v25 := Tryz.zeroValue41 }

end Go.Proofs

/- Those that can take a share, sorted by how much room is left, the most first, of like ones by number: the library's stable sort of a short list. -/
namespace Go.Proofs.YtjfnpjmhippdoafGreat

open Go.RowKit Go.Shelf Go.Lib Go.Sort
set_option linter.unusedVariables false

/-- can it take a share? -/
def canK (P : Ps) (ver : Int) (k : Nat) : Bool := P.th k && (decide (0 < leftK P k) && noneK P ver k)

theorem canK_iff (P : Ps) (ver : Int) (k : Nat) : canK P ver k = true ↔ mayK P ver k ∧ 0 < leftK P k := by
  unfold canK noneK mayK
  rw [Bool.and_eq_true, Bool.and_eq_true, decide_eq_true_iff, decide_eq_true_iff]
  constructor
  · rintro ⟨h1, h2, h3⟩; exact ⟨⟨h1, h3⟩, h2⟩
  · rintro ⟨⟨h1, h3⟩, h2⟩; exact ⟨h1, h2, h3⟩

/-- ahead of another one: more room, or as much, and a smaller number -/
def LexK (P : Ps) (x y : Int) : Prop := leftK P y.toNat < leftK P x.toNat ∨ (leftK P y.toNat = leftK P x.toNat ∧ x < y)

theorem lefts_lex (P : Ps) (ver : Int) (np r : Nat) : List.Pairwise (LexK P) (lefts P ver np r) := by
  induction r with
  | zero => exact List.Pairwise.nil
  | succ r ih =>
    simp only [lefts]
    rw [List.pairwise_append]
    have hl : ∀ x, x ∈ pickL (fitK P ver ((r + 1 : Nat) : Int)) np → leftK P x.toNat = ((r + 1 : Nat) : Int) := fun x hx => by
      obtain ⟨k, _, h2, rfl⟩ := mem_pickL.1 hx
      rw [Int.toNat_natCast]
      exact ((fitK_iff _ _ _ _).1 h2).2
    refine ⟨?_, ih, fun x hx y hy => ?_⟩
    · refine (pickL_rise (fitK P ver ((r + 1 : Nat) : Int)) np).imp_of_mem fun {x y} hx hy hxy => ?_
      exact Or.inr ⟨by rw [hl x hx, hl y hy], hxy⟩
    · have h1 := hl x hx
      obtain ⟨k, rfl, _, _, _, h4⟩ := mem_lefts.1 hy
      have h2 : leftK P (k : Int).toNat ≤ (r : Int) := by rw [Int.toNat_natCast]; exact h4
      exact Or.inl (by omega)

/-- those that can, as places -/
def canF (P : Ps) (ver : Int) (np : Nat) : List (Fin np) := (List.finRange np).filter fun x => canK P ver x.val

theorem canF_pick (P : Ps) (ver : Int) (np : Nat) : (canF P ver np).map (fun x => (x.val : Int)) = pickL (canK P ver) np := by
  unfold canF pickL
  rw [show List.range np = (List.finRange np).map Fin.val from (List.ext_getElem (by simp) (by simp)), List.filter_map, List.map_map]
  rfl

theorem canF_rise (P : Ps) (ver : Int) (np : Nat) : (canF P ver np).Pairwise (fun x y => x.val < y.val) := by
  have h := pickL_rise (canK P ver) np
  rw [← canF_pick, List.pairwise_map] at h
  exact h.imp fun {a b} h => by omega

/-- how two places are held against each other -/
def cfK (P : Ps) {np : Nat} (x y : Fin np) : Int := cmpZ (leftK P y.val) (leftK P x.val)

theorem ltOf_cfK (P : Ps) {np : Nat} (x y : Fin np) : ltOf (cfK P) x y = decide (leftK P y.val < leftK P x.val) := by
  unfold ltOf cfK cmpZ
  by_cases h : leftK P y.val < leftK P x.val
  · rw [if_pos h]; simp [h]
  · rw [if_neg h]
    by_cases h2 : leftK P x.val < leftK P y.val
    · rw [if_pos h2]; simp [h]
    · rw [if_neg h2]; simp [h]

def ltX (P : Ps) {np : Nat} (x y : Fin np) : Bool := decide (leftK P y.val < leftK P x.val ∨ (leftK P y.val = leftK P x.val ∧ x.val < y.val))

theorem ltX_swo (P : Ps) {np : Nat} : SWO (ltX P (np := np)) := by
  refine ⟨fun x => ?_, fun x y z h1 h2 => ?_, fun x y z h1 h2 => ?_⟩
  · unfold ltX; simp
  · unfold ltX at *; simp at *; omega
  · unfold ltX at *; simp at *; omega

/-- sorted: the order in which they get shares -/
theorem sorted_order (P : Ps) (ver : Int) (np : Nat) [Inhabited (Fin np)] (hr : ∀ k, k < np → leftK P k ≤ 20) (r : Array (Fin np)) (he : r = insertionSort (ltOf (cfK P)) (canF P ver np).toArray 0 (canF P ver np).toArray.size) :
    r.size = (canF P ver np).length ∧ r.toList.map (fun x => (x.val : Int)) = orderL P ver np := by
  have hst := insertionSort_stable (α := Fin np) (fun x => x.val) (ltOf (cfK P)) (ltX P) (fun x y h => by
    rw [ltOf_cfK]; unfold ltX
    by_cases c : leftK P y.val < leftK P x.val
    · simp [c]
    · have : ¬ (leftK P y.val < leftK P x.val ∨ (leftK P y.val = leftK P x.val ∧ x.val < y.val)) := by omega
      rw [decide_eq_false c, decide_eq_false this]) (ltX_swo P) (canF P ver np).toArray (fun i j hij hj => by
    have hj' : j < (canF P ver np).length := by simpa using hj
    have h := List.pairwise_iff_getElem.1 (canF_rise P ver np) i j (by omega) hj' hij
    rw [getElem!_pos _ i (by simp; omega), getElem!_pos _ j hj]
    simpa using h)
  rw [← he] at hst
  obtain ⟨hp, hs⟩ := hst
  have hsz : r.size = (canF P ver np).length := by rw [hp.1]; simp
  refine ⟨hsz, ?_⟩
  have hperm : r.toList.Perm (canF P ver np) := by
    have h3 := hp.2.2
    rw [Array.extract_eq_self_of_le (by rw [hsz]; simp), Array.extract_eq_self_of_le (Nat.le_refl _)] at h3
    exact h3
  have hnd : (canF P ver np).Nodup := (canF_rise P ver np).imp fun {a b} h e => by rw [e] at h; omega
  have hpw : (r.toList.map (fun x => (x.val : Int))).Pairwise (LexK P) := by
    rw [List.pairwise_map, List.pairwise_iff_getElem]
    intro i j hi hj hij
    have hi' : i < r.size := by simpa using hi
    have hj' : j < r.size := by simpa using hj
    have h4 := hs i j (Nat.zero_le _) hij (by rw [← hp.1]; exact hj')
    rw [getElem!_pos r j hj', getElem!_pos r i hi'] at h4
    have h5 := of_decide_eq_false h4
    have hne : r[i].val ≠ r[j].val := fun e => by
      have h6 : r.toList.Nodup := hperm.nodup_iff.2 hnd
      have := (List.getElem_inj (h₀ := hi) (h₁ := hj) h6).1 (by simpa using Fin.ext e)
      omega
    simp only [Array.getElem_toList]
    unfold LexK
    rw [Int.toNat_natCast, Int.toNat_natCast]
    omega
  have hpp : (r.toList.map (fun x => (x.val : Int))).Perm (orderL P ver np) := by
    refine (hperm.map _).trans ?_
    rw [canF_pick]
    have n1 : (pickL (canK P ver) np).Nodup := (pickL_rise (canK P ver) np).imp fun {a b} h => by omega
    have n2 : (orderL P ver np).Nodup := (lefts_ahead P ver np 20).imp fun {a b} h => h.1
    refine (List.perm_ext_iff_of_nodup n1 n2).2 fun x => ?_
    unfold orderL
    rw [mem_pickL, mem_lefts]
    constructor
    · rintro ⟨k, h1, h2, rfl⟩
      obtain ⟨h3, h4⟩ := (canK_iff _ _ _).1 h2
      exact ⟨k, rfl, h1, h3, by omega, hr k h1⟩
    · rintro ⟨k, rfl, h1, h2, h3, _⟩
      exact ⟨k, h1, (canK_iff _ _ _).2 ⟨h2, by omega⟩, rfl⟩
  refine hpp.eq_of_pairwise (le := LexK P) (fun a b _ _ h1 h2 => ?_) hpw (lefts_lex P ver np 20)
  unfold LexK at h1 h2
  omega

theorem insNone (ad : Option Addr) (cap : Nat) (fv : Value) (w : World) (hf : ∃ f a b, fv = .func f a b) : Calls Tryz.prog 141 #[.slice ad 0 cap, .int .i64 0, .int .i64 0, fv] w fun e w' => e = .returned (.tuple #[]) ∧ w' = w := by
  obtain ⟨f, a, b, rfl⟩ := hf
  go_enter Tryz.func141, Tryz.ntmps141
  go_wp2
  refine wp_loop_rounds 1 ?_
  rw [rounds_succ]
  go_wp2
  go_end0
  exact ⟨rfl, rfl⟩

/-- the world of the sort: what lies below stays -/
theorem sortW_below {α : Type} [Inhabited α] (enc : α → Value) {w0 wr : World} {g m : Nat} {dk : Array α} {os : Array Obj} (hb : RowKit.Below w0.heap.size w0 wr) (hg : w0.heap.size ≤ g) : RowKit.Below w0.heap.size w0 (sortWorld enc wr g 0 m dk os) := by
  have hsz : (sortWorld enc wr g 0 m dk os).heap.size = wr.heap.size + os.size := by simp [sortWorld, putRow, mapBlock, Sort.ahead, grow]
  refine hb.trans ⟨rfl, rfl, rfl, by omega, fun k hk => ?_⟩
  have hl := hb.size
  unfold sortWorld
  rw [heap_grow_old _ _ (by simp [putRow, mapBlock, Sort.ahead]; omega)]
  have : g ≠ k := by omega
  simp [putRow, mapBlock, Sort.ahead, Array.getElem?_modify, this]

set_option maxHeartbeats 1000000 in
/-- the stable sort of at most eight -/
theorem plStable (bx : Nat) (a : Option Addr) (c : Nat) (np : Nat) (KV : Nat → Value) (UV : Nat → Nat → Value) (P : Ps) (ver : Int) (hn : np ≤ 8) (hr : ∀ k, k < np → (0 ≤ P.rm k ∧ P.rm k ≤ 20) ∧ (P.m k : Int) ≤ P.rm k) (w0 wr : World) (vo : Value)
    (hl : PsSl w0 w0.heap.size (.slice a np c) np KV UV P) (hx : w0.cell? ⟨bx, 0, none⟩ = some (.slice a np c)) (ho : OwnL w0 wr vo (pickL (canK P ver) np)) :
    Calls Tryz.prog 141 #[vo, .int .i64 0, .int .i64 ((pickL (canK P ver) np).length : Int), .func (.func 95) #[] #[.pointer (some ⟨bx, 0, none⟩)]] wr fun e w' => e = .returned (.tuple #[]) ∧
      RowKit.Below w0.heap.size w0 w' ∧ IntSl w' w'.heap.size vo (orderL P ver np).length (fun j => (orderL P ver np).getD j 0) ∧ (orderL P ver np).length = (pickL (canK P ver) np).length := by
  have hleft : ∀ k, k < np → leftK P k ≤ 20 := fun k hk => by unfold leftK; have := hr k hk; omega
  by_cases h0 : np = 0
  · subst h0
    have hs := ho.isl (by rw [show pickL (canK P ver) 0 = [] from rfl]; simp)
    obtain ⟨ad, cap, rfl, _, _⟩ := hs
    have e0 : orderL P ver 0 = [] := by
      rw [List.eq_nil_iff_forall_not_mem]
      intro x hx
      obtain ⟨k, _, h, _⟩ := mem_lefts.1 hx
      omega
    rw [e0]
    refine (insNone ad cap _ wr ⟨_, _, _, rfl⟩).mono ?_
    rintro e w' ⟨he, rfl⟩
    exact ⟨he, ho.2, ⟨ad, cap, rfl, ⟨Nat.zero_le _, by decide⟩, Or.inl rfl⟩, rfl⟩
  haveI : Inhabited (Fin np) := ⟨⟨0, by omega⟩⟩
  obtain ⟨hos, hord⟩ := sorted_order P ver np hleft _ rfl
  generalize hR : insertionSort (ltOf (cfK P)) (canF P ver np).toArray 0 (canF P ver np).toArray.size = R at hos hord
  have hcl : (canF P ver np).length = (pickL (canK P ver) np).length := by rw [← canF_pick, List.length_map]
  have hol : (orderL P ver np).length = (pickL (canK P ver) np).length := by rw [← hord, List.length_map, Array.length_toList, hos, hcl]
  have hple := pickL_len (canK P ver) np
  obtain ⟨hlen, hrow⟩ := ho.1
  rcases hrow with ⟨rfl, hnil⟩ | ⟨g, cap, cur, rfl, hg, hblk, hnc, hcm, hcs, htk⟩
  · have e0 : orderL P ver np = [] := List.length_eq_zero_iff.1 (by omega)
    rw [hnil, e0]
    refine (insNone none 0 _ wr ⟨_, _, _, rfl⟩).mono ?_
    rintro e w' ⟨he, rfl⟩
    exact ⟨he, ho.2, ⟨none, 0, rfl, ⟨Nat.zero_le _, by decide⟩, Or.inl rfl⟩, rfl⟩
  · have hsz : (canF P ver np).toArray.size = (pickL (canK P ver) np).length := by rw [← hcl]; simp
    have hH : Holds (fun x : Fin np => Value.int .i64 (x.val : Int)) wr g 0 (canF P ver np).toArray := fun j hj => by
      have hj' : j < (canF P ver np).length := by simpa using hj
      refine ⟨?_, frozen_at hblk⟩
      rw [Nat.zero_add, getElem!_pos _ j hj]
      rw [cell_of_row wr g j cur 3 (0, 0) hblk]
      have h1 : (cur.toList.take ((pickL (canK P ver) np).length * 1))[j]? = some (Value.int .i64 (((canF P ver np).toArray[j]).val : Int)) := by
        rw [htk, ← canF_pick]
        simp [hj']
      rw [List.getElem?_take] at h1
      split at h1
      · simpa using h1
      · cases h1
    have hlt : g < wr.heap.size := (Array.getElem?_eq_some_iff.1 hblk).1
    have R1 : Row1 (fun x : Fin np => Value.int .i64 (x.val : Int)) wr g 0 (canF P ver np).toArray := ⟨fun _ => rfl, hH, hlt⟩
    have hcmp : CmpLays1 Tryz.prog 95 #[.pointer (some ⟨bx, 0, none⟩)] (fun x : Fin np => Value.int .i64 (x.val : Int)) (cfK P) g 0 (canF P ver np).toArray.size wr := fun m os dk hs x y => by
      have hb := sortW_below (fun x : Fin np => Value.int .i64 (x.val : Int)) (m := m) (dk := dk) (os := os) ho.2 hg
      refine (plComp bx a c np KV UV P x.val y.val x.isLt y.isLt hr _ (hl.up hb) (by rw [hb.cell (cell_lt hx)]; exact hx)).mono ?_
      rintro e w' ⟨he, hw⟩
      exact ⟨he, hw⟩
    have hcon := Any.insertionSortCmpFunc_s Tryz.insInts (fun x : Fin np => Value.int .i64 (x.val : Int)) (cfK P) 95 #[.pointer (some ⟨bx, 0, none⟩)] g 0 cap 0 (canF P ver np).toArray.size (canF P ver np).toArray (canF P ver np).toArray wr wr (enters_of Tryz.func95 (by kernel_rfl) rfl) hcmp R1 rfl (SW.start hH) (Nat.zero_le _) (Nat.le_refl _) (by omega)
    rw [hR, hsz] at hcon
    refine hcon.mono ?_
    rintro e w' ⟨he, hS⟩
    obtain ⟨m, os, hw⟩ := hS
    have hRs : R.size = (canF P ver np).toArray.size := by rw [hos]; simp
    have hHR : Holds (fun x : Fin np => Value.int .i64 (x.val : Int)) w' g 0 R := SW.holds ⟨m, os, hw⟩ hlt hH hRs
    refine ⟨he, by rw [hw]; exact sortW_below _ ho.2 hg, ?_, hol⟩
    rw [← hol] at hnc
    rw [← hol]
    have hgw : g < w'.heap.size := by rw [hw]; simp [sortWorld, putRow, mapBlock, Sort.ahead, grow]; omega
    refine ⟨some ⟨g, 0, none⟩, cap, rfl, ⟨hnc, by omega⟩, Or.inr ⟨g, 0, rfl, hgw, fun j hj => ?_⟩⟩
    have hjR : j < R.size := by rw [hos, hcl]; omega
    rw [(hHR j hjR).1, getElem!_pos R j hjR, ← hord]
    simp [List.getD_eq_getElem?_getD, hjR]

end Go.Proofs.YtjfnpjmhippdoafGreat
