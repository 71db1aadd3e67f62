/- Several texts of one proof, in their order. -/
import Derived.Test.YtikchpffkhohlaaGreatASum2
import Derived.Test.YtikchpffkhohlaaGreatASum3
import Derived.Maps.AppendAt
import Derived.Lib.SliceRun
import Derived.Laws.ResultCell
import Derived.Laws.Rows

namespace Go.Proofs.YtikchpffkhohlaaGreat

open Go.RowKit
set_option linter.unusedVariables false

structure Kt where
  V : Nat → Int
  N : Nat → Int
  L : Nat → Nat
  X : Nat → Nat → Int

def KeSl (w : World) (B : Nat) (v : Value) (n : Nat) (UV : Nat → Value) (t : Kt) : Prop :=
  ∃ (ad : Option Addr) (cap : Nat), v = .slice ad n cap ∧ (n ≤ cap ∧ n * 40 ≤ 140737488351232) ∧ (n = 0 ∨ ∃ bl off, ad = some ⟨bl, off, none⟩ ∧ bl < B ∧ ∀ j, j < n →
    w.cell? ⟨bl, off + j * 3, none⟩ = some (.int .i64 (t.V j)) ∧ w.cell? ⟨bl, off + j * 3 + 1, none⟩ = some (.int .i64 (t.N j)) ∧ w.cell? ⟨bl, off + j * 3 + 2, none⟩ = some (UV j) ∧ IntSl w B (UV j) (t.L j) (t.X j))

theorem KeSl.below {w w' : World} {B : Nat} {v : Value} {n : Nat} {UV : Nat → Value} {t : Kt} (h : KeSl w B v n UV t) (hb : Below B w w') : KeSl w' B v n UV t := by
  obtain ⟨ad, cap, h1, h0, h2⟩ := h
  refine ⟨ad, cap, h1, h0, ?_⟩
  rcases h2 with h2 | ⟨bl, off, h3, h4, h5⟩
  · exact Or.inl h2
  · refine Or.inr ⟨bl, off, h3, h4, fun j hj => ?_⟩
    obtain ⟨g1, g2, g3, g4⟩ := h5 j hj
    exact ⟨by rw [hb.cell h4]; exact g1, by rw [hb.cell h4]; exact g2, by rw [hb.cell h4]; exact g3, g4.below hb⟩

theorem KeSl.mono {w : World} {B B' : Nat} {v : Value} {n : Nat} {UV : Nat → Value} {t : Kt} (h : KeSl w B v n UV t) (hb : B ≤ B') : KeSl w B' v n UV t := by
  obtain ⟨ad, cap, h1, h0, h2⟩ := h
  refine ⟨ad, cap, h1, h0, ?_⟩
  rcases h2 with h2 | ⟨bl, off, h3, h4, h5⟩
  · exact Or.inl h2
  · refine Or.inr ⟨bl, off, h3, by omega, fun j hj => ?_⟩
    obtain ⟨g1, g2, g3, g4⟩ := h5 j hj
    exact ⟨g1, g2, g3, g4.mono hb⟩

theorem KeSl.up {w w' : World} {v : Value} {n : Nat} {UV : Nat → Value} {t : Kt} (h : KeSl w w.heap.size v n UV t) (hb : Below w.heap.size w w') : KeSl w' w'.heap.size v n UV t := (h.below hb).mono hb.size

def keptV (ver N : Int) (uv : Value) : Value := .agg #[.int .i64 ver, .int .i64 N, uv]
def peerV (th : Bool) (room : Int) (vk : Value) : Value := .agg #[.bool th, .int .i64 room, vk]

def oneK (b : Bk) (t : Kt) (k : Nat) : Int := oneE (b.nd (t.V k).toNat) (b.of (t.V k).toNat) (b.sz (t.V k).toNat) (t.N k) (t.L k) (t.X k)
def scanK (n : Nat) (b : Bk) (t : Kt) : Nat → Nat → Int → Int
  | 0, _, _ => 0
  | f + 1, k, last => if t.V k < 0 ∨ (n : Int) ≤ t.V k then 4 else if t.V k ≤ last then 5 else if oneK b t k = 0 then scanK n b t f (k + 1) (t.V k) else oneK b t k
def peerE (n : Nat) (b : Bk) (room : Int) (m : Nat) (t : Kt) : Int :=
  if bookE n b = 0 then (if 0 ≤ room ∧ room ≤ 20 then (if (m : Int) ≤ room then scanK n b t m 0 (-1) else 8) else 2) else bookE n b

end Go.Proofs.YtikchpffkhohlaaGreat

namespace Go.Proofs.YtikchpffkhohlaaGreat

open Go.RowKit
set_option linter.unusedVariables false

set_option maxHeartbeats 2000000 in
set_option maxRecDepth 10000 in
theorem checkBook_any (v : Value) (n : Nat) (PV : Nat → Value) (b : Bk) (w : World) (h : VeSl w w.heap.size v n PV b) :
    Calls Tryz.prog 102 #[bookV v] w fun e w' => e = .returned (.int .i64 (bookE n b)) ∧ Below w.heap.size w w' := by
  obtain ⟨ad, cap, rfl, ⟨hcap, hbig⟩, hx⟩ := h
  have hbx := below_alloc w (.cells #[.slice ad n cap] 24)
  have HBx := hid hbx
  have HX := hid hx
  obtain ⟨ans, hans⟩ : ∃ a, bookE n b = a := ⟨_, rfl⟩
  rw [hans]
  unfold bookE at hans
  have HCp := hid (fun nd of sz w => checkPlan_any nd of sz w)
  clear hbx hx
  unfold bookV
  by_cases hn : n ≤ 12
  · rw [if_pos hn] at hans
    have HA := hid hans
    have hni : (n : Int) ≤ 12 := by omega
    clear hans
    go_enter Tryz.func102, Tryz.ntmps102
    go_wp2
    go_loopw [16] (fun iv wr => ∃ k : Nat, k ≤ n ∧ iv = .int .i64 k ∧ Hid (Below w.heap.size w wr) ∧ Hid (scanV b (n - k) k = ans)) (fun iv _ => n - (intOf iv).toNat)
    case atStart => exact ⟨0, Nat.zero_le _, rfl, HBx, HA⟩
    case round =>
      obtain ⟨k, hk, rfl, HB, HS⟩ := hrel
      by_cases hlt : k < n
      · have hki : (k : Int) < (n : Int) := by omega
        rcases HX.out with h0 | ⟨bl, off, rfl, hbl, hx⟩
        · omega
        obtain ⟨x0, x1, x2, x3, x4⟩ := hx k hlt
        have hstep := HS.out
        rw [show n - k = (n - (k + 1)) + 1 by omega] at hstep
        simp only [scanV] at hstep
        obtain ⟨ap, cp, hpe, hpl, hpc⟩ := x4
        obtain ⟨m, hm⟩ : ∃ m, b.PL k = m := ⟨_, rfl⟩
        rw [hm] at hpe hpl hpc
        have g0 : wr.cell? ⟨bl, off + k * 4, none⟩ = some (.slice ap m cp) := by rw [HB.out.cell hbl, x0, hpe]
        have g1 : wr.cell? ⟨bl, off + k * 4 + 1, none⟩ = some (.int .i64 (b.nd k)) := by rw [HB.out.cell hbl]; exact x1
        have g2 : wr.cell? ⟨bl, off + k * 4 + 2, none⟩ = some (.int .i64 (b.of k)) := by rw [HB.out.cell hbl]; exact x2
        have g3 : wr.cell? ⟨bl, off + k * 4 + 3, none⟩ = some (.int .i64 (b.sz k)) := by rw [HB.out.cell hbl]; exact x3
        obtain ⟨nd, hnd⟩ : ∃ nd, b.nd k = nd := ⟨_, rfl⟩
        obtain ⟨of, hof⟩ : ∃ of, b.of k = of := ⟨_, rfl⟩
        obtain ⟨sz, hsz⟩ : ∃ sz, b.sz k = sz := ⟨_, rfl⟩
        rw [hnd] at g1
        rw [hof] at g2
        rw [hsz] at g3
        have hbA := below_alloc wr (.cells #[.slice ap m cp, .int .i64 nd, .int .i64 of, .int .i64 sz] 60)
        obtain ⟨W, hW⟩ : ∃ W, wr.alloc (.cells #[.slice ap m cp, .int .i64 nd, .int .i64 of, .int .i64 sz] 60) = W := ⟨_, rfl⟩
        rw [hW] at hbA
        have s0 : W.cell? ⟨wr.heap.size, 0, none⟩ = some (.slice ap m cp) := by rw [← hW]; exact cell_at (heap_alloc_new _ _) rfl
        have s1 : W.cell? ⟨wr.heap.size, 1, none⟩ = some (.int .i64 nd) := by rw [← hW]; exact cell_at (heap_alloc_new _ _) rfl
        have s2 : W.cell? ⟨wr.heap.size, 2, none⟩ = some (.int .i64 of) := by rw [← hW]; exact cell_at (heap_alloc_new _ _) rfl
        have s3 : W.cell? ⟨wr.heap.size, 3, none⟩ = some (.int .i64 sz) := by rw [← hW]; exact cell_at (heap_alloc_new _ _) rfl
        have HBW := hid (HB.out.trans (hbA.mono HB.out.size))
        have HPc := hid hpc
        have HSt := hid hstep
        have HNd := hid hnd
        have HOf := hid hof
        have HSz := hid hsz
        have HM := hid hm
        clear x0 x1 x2 x3 hx hpe hbA hpc hstep hnd hof hsz hm
        go_wp2
        go_loopw [5, 24] (fun lv iv wz => ∃ (i : Nat) (last : Int), i ≤ m ∧ iv = .int .i64 i ∧ lv = .int .i64 last ∧ wz = W ∧ Hid (parE k (b.PX k) (m - i) i last = parE k (b.PX k) m 0 (-1))) (fun _ iv _ => m - (intOf iv).toNat)
        case atStart => exact ⟨0, -1, Nat.zero_le _, rfl, rfl, rfl, rfl⟩
        case round =>
          obtain ⟨i, last, hi, rfl, rfl, hwz, HP⟩ := hrel
          subst hwz
          by_cases him : i < m
          · have himi : (i : Int) < (m : Int) := by omega
            rcases HPc.out with h0 | ⟨bp, op, rfl, hbp, hpx⟩
            · omega
            have e0 : wr.cell? ⟨bp, op + i, none⟩ = some (.int .i64 (b.PX k i)) := by rw [HBW.out.cell hbp]; exact hpx i him
            have hp := HP.out
            rw [show m - i = (m - (i + 1)) + 1 by omega] at hp
            simp only [parE] at hp
            obtain ⟨x, hxx⟩ : ∃ x, b.PX k i = x := ⟨_, rfl⟩
            rw [hxx] at e0 hp
            clear hpx hxx
            by_cases c1 : x < 0 ∨ (k : Int) ≤ x
            · rw [if_pos c1] at hp
              have hst := HSt.out
              have hv : verE b k = 4 := by unfold verE; rw [HM.out, ← hp, if_neg (by decide)]
              rw [hv, if_neg (by decide)] at hst
              have HFin := hid hst
              clear hp hst hv
              by_cases c2 : x < 0
              · go_wp2
                go_ret
                exact ⟨by rw [← HFin.out]; rfl, HBW.out⟩
              · have c3 : (k : Int) ≤ x := by omega
                go_wp2
                go_ret
                exact ⟨by rw [← HFin.out]; rfl, HBW.out⟩
            · rw [if_neg c1] at hp
              have c2 : ¬ x < 0 := fun h => c1 (Or.inl h)
              have c3 : ¬ (k : Int) ≤ x := fun h => c1 (Or.inr h)
              by_cases c4 : x ≤ last
              · rw [if_pos c4] at hp
                have hst := HSt.out
                have hv : verE b k = 5 := by unfold verE; rw [HM.out, ← hp, if_neg (by decide)]
                rw [hv, if_neg (by decide)] at hst
                have HFin := hid hst
                clear hp hst hv c1
                go_wp2
                go_ret
                exact ⟨by rw [← HFin.out]; rfl, HBW.out⟩
              · rw [if_neg c4] at hp
                have HP2 := hid hp
                clear hp c1
                go_wp2
                go_roundw
                case rel => exact ⟨i + 1, x, by omega, by go_num, rfl, trivial, HP2⟩
                case measure => simp only [intOf]; omega
          · have hie : m = i := by omega
            subst hie
            have hp := HP.out
            rw [Nat.sub_self] at hp
            have hp0 : parE k (b.PX k) m 0 (-1) = 0 := hp.symm
            have hst := HSt.out
            have hv : verE b k = chkP nd of sz := by unfold verE; rw [HM.out, hp0, if_pos rfl, HNd.out, HOf.out, HSz.out]
            rw [hv] at hst
            have HCk := hid (HCp.out nd of sz wr)
            obtain ⟨c, hcc⟩ : ∃ c, chkP nd of sz = c := ⟨_, rfl⟩
            rw [hcc] at hst HCk
            clear hp hp0 hv hcc
            unfold planV at HCk
            by_cases hc0 : c = 0
            · subst hc0
              rw [if_pos rfl] at hst
              have HNx := hid hst
              clear hst
              go_wp2_with fail
              refine Calls.mono HCk.out ?_
              rintro e w5 ⟨rfl, hb5⟩
              have HB5 := hid (HBW.out.trans (hb5.mono HBW.out.size))
              clear hb5
              go_wp2
              go_roundw
              case rel => exact ⟨k + 1, by omega, by go_num, HB5, HNx⟩
              case measure => simp only [intOf]; omega
            · rw [if_neg hc0] at hst
              have HFin := hid hst
              have hcb : (c != 0) = true := by simpa using hc0
              clear hst hc0
              go_wp2_with fail
              refine Calls.mono HCk.out ?_
              rintro e w5 ⟨rfl, hb5⟩
              have HB5 := hid (HBW.out.trans (hb5.mono HBW.out.size))
              clear hb5
              go_wp2
              go_ret
              exact ⟨by rw [← HFin.out]; rfl, HB5.out⟩
      · have hke : n = k := by omega
        subst hke
        have hst := HS.out
        rw [Nat.sub_self] at hst
        have HFin : Hid ((0 : Int) = ans) := hst
        clear hst
        go_wp2
        go_ret
        exact ⟨by rw [← HFin.out]; rfl, HB.out⟩
  · rw [if_neg hn] at hans
    have HA := hid hans
    have hni : ¬ (n : Int) ≤ 12 := by omega
    clear hans
    go_enter Tryz.func102, Tryz.ntmps102
    go_wp2
    go_ret
    exact ⟨by rw [← HA.out]; rfl, HBx.out⟩

end Go.Proofs.YtikchpffkhohlaaGreat

namespace Go.Proofs.YtikchpffkhohlaaGreat

open Go.RowKit
set_option linter.unusedVariables false

theorem grown_of_below {w w' : World} (h : Below w.heap.size w w') (row : Option Nat) : w.grownBy w' row := ⟨h.os, h.tape, h.output, h.size, fun k hk _ => h.block k hk⟩

theorem owns_below {w w' : World} {base : Nat} {e : TypeId} {size : Nat} {v : Value} {n : Nat} {xs : List Value} (h : w.ownsRow base e size v n xs) (hb : Below w.heap.size w w') : w'.ownsRow base e size v n xs := by
  cases hv : v.ownBlock with
  | none => exact h.kept (grown_of_below hb none) (Or.inl hv)
  | some g => exact h.kept (grown_of_below hb none) (Or.inr (by rw [hv]; intro h; cases h))

theorem OwnI.below {w0 wr w' : World} {v : Value} {n : Nat} {C : Nat → Int} (h : OwnI w0 wr v n C) (hb : Below wr.heap.size wr w') : OwnI w0 w' v n C :=
  ⟨owns_below h.1 hb, h.2.trans (hb.mono h.2.size)⟩

theorem OwnI.shape {w0 wr : World} {v : Value} {n : Nat} {C : Nat → Int} (h : OwnI w0 wr v n C) : ∃ ad cap, v = .slice ad n cap := by
  obtain ⟨_, h2⟩ := h.1
  rcases h2 with ⟨h1, h0⟩ | ⟨g, cap, cur, h1, _⟩
  · exact ⟨none, 0, by rw [h0]; exact h1⟩
  · exact ⟨_, _, h1⟩

theorem OwnI.congr {w0 wr : World} {v : Value} {n : Nat} {C D : Nat → Int} (h : OwnI w0 wr v n C) (e : ∀ j, j < n → C j = D j) : OwnI w0 wr v n D := by
  refine ⟨?_, h.2⟩
  have e2 : ((List.range n).map fun j => Value.int .i64 (D j)) = (List.range n).map fun j => Value.int .i64 (C j) := List.map_congr_left fun j hj => by rw [e j (List.mem_range.1 hj)]
  rw [e2]
  exact h.1

theorem OwnI.isl {w0 wr : World} {v : Value} {n : Nat} {C : Nat → Int} (h : OwnI w0 wr v n C) (hn : 1 ≤ n) (hr : n * 8 ≤ 140737488351232) : IntSl wr wr.heap.size v n C := by
  obtain ⟨g, cap, rfl, hc, hrow⟩ := h.row hn
  exact hrow.isl hc hr

structure Two (w0 wr : World) (va vb : Value) (r : Nat) (A B : Nat → Int) : Prop where
  a : OwnI w0 wr va r A
  b : OwnI w0 wr vb r B
  ne : va.ownBlock = none ∨ va.ownBlock ≠ vb.ownBlock

theorem Two.nil (w : World) (A B : Nat → Int) : Two w w (.slice none 0 0) (.slice none 0 0) 0 A B := ⟨OwnI.nil _ _, OwnI.nil _ _, Or.inl rfl⟩

theorem Two.below {w0 wr w' : World} {va vb : Value} {r : Nat} {A B : Nat → Int} (h : Two w0 wr va vb r A B) (hb : Below wr.heap.size wr w') : Two w0 w' va vb r A B := ⟨h.a.below hb, h.b.below hb, h.ne⟩

theorem Two.after {w0 wr w1 : World} {va vb va' : Value} {r : Nat} {A B : Nat → Int} {k : Int} (h : Two w0 wr va vb r A B) (o : Obj)
    (ho : w1.ownsRow w0.heap.size 3 1 va' (r + 1) (((List.range r).map fun j => Value.int .i64 (A j)) ++ [.int .i64 k])) (hg : (wr.alloc o).grownBy w1 va.ownBlock)
    (hat : va'.ownBlock = va.ownBlock ∨ va'.ownBlock = some (wr.alloc o).heap.size) :
    OwnI w0 w1 va' (r + 1) (fun j => if j = r then k else A j) ∧ OwnI w0 w1 vb r B ∧ (vb.ownBlock = none ∨ va'.ownBlock ≠ vb.ownBlock) := by
  have hbA : Below w0.heap.size w0 (wr.alloc o) := h.a.2.alloc h.a.2.size o
  have hlo : ∀ g, va.ownBlock = some g → w0.heap.size ≤ g := fun g hgg => (h.a.1.lt g hgg).1
  have hb1 : Below w0.heap.size w0 w1 := hbA.grown hg hbA.size hlo
  have hvb : w1.ownsRow w0.heap.size 3 1 vb r ((List.range r).map fun j => Value.int .i64 (B j)) := by
    refine (h.b.1.alloc o).kept hg ?_
    rcases h.ne with h1 | h1
    · rw [h1]
      cases hv : vb.ownBlock with
      | none => exact Or.inl rfl
      | some g => exact Or.inr (by intro h; cases h)
    · exact Or.inr (Ne.symm h1)
  refine ⟨⟨?_, hb1⟩, ⟨hvb, hb1⟩, ?_⟩
  · have e : ((List.range (r + 1)).map fun j => Value.int .i64 (if j = r then k else A j)) = ((List.range r).map fun j => Value.int .i64 (A j)) ++ [.int .i64 k] := by
      rw [List.range_succ, List.map_append]
      congr 1
      · exact List.map_congr_left fun j hj => by have := List.mem_range.1 hj; rw [if_neg (by omega)]
      · simp
    rw [e]
    exact ho
  · cases hv : vb.ownBlock with
    | none => exact Or.inl rfl
    | some g =>
      right
      have hlt := (h.b.1.lt g hv).2
      rcases hat with h1 | h1
      · rw [h1]
        rcases h.ne with h2 | h2
        · rw [h2]; intro h; cases h
        · rw [← hv]; exact h2
      · rw [h1]
        intro h2
        injection h2 with h2
        simp at h2
        omega

theorem Two.both {w0 w2 w3 : World} {va vb vb' : Value} {r : Nat} {A B : Nat → Int} {v : Int} (ha : OwnI w0 w2 va (r + 1) A) (hb : OwnI w0 w2 vb r B) (hne : vb.ownBlock = none ∨ va.ownBlock ≠ vb.ownBlock) (o : Obj)
    (ho : w3.ownsRow w0.heap.size 3 1 vb' (r + 1) (((List.range r).map fun j => Value.int .i64 (B j)) ++ [.int .i64 v])) (hg : (w2.alloc o).grownBy w3 vb.ownBlock)
    (hat : vb'.ownBlock = vb.ownBlock ∨ vb'.ownBlock = some (w2.alloc o).heap.size) :
    Two w0 w3 va vb' (r + 1) A (fun j => if j = r then v else B j) := by
  have hbA : Below w0.heap.size w0 (w2.alloc o) := hb.2.alloc hb.2.size o
  have hlo : ∀ g, vb.ownBlock = some g → w0.heap.size ≤ g := fun g hgg => (hb.1.lt g hgg).1
  have hb1 : Below w0.heap.size w0 w3 := hbA.grown hg hbA.size hlo
  have hva : w3.ownsRow w0.heap.size 3 1 va (r + 1) ((List.range (r + 1)).map fun j => Value.int .i64 (A j)) := by
    refine (ha.1.alloc o).kept hg ?_
    rcases hne with h1 | h1
    · rw [h1]
      cases hv : va.ownBlock with
      | none => exact Or.inl rfl
      | some g => exact Or.inr (by intro h; cases h)
    · exact Or.inr h1
  refine ⟨⟨hva, hb1⟩, ⟨?_, hb1⟩, ?_⟩
  · have e : ((List.range (r + 1)).map fun j => Value.int .i64 (if j = r then v else B j)) = ((List.range r).map fun j => Value.int .i64 (B j)) ++ [.int .i64 v] := by
      rw [List.range_succ, List.map_append]
      congr 1
      · exact List.map_congr_left fun j hj => by have := List.mem_range.1 hj; rw [if_neg (by omega)]
      · simp
    rw [e]
    exact ho
  · cases hv : va.ownBlock with
    | none => exact Or.inl rfl
    | some g =>
      right
      have hlt := (ha.1.lt g hv).2
      rcases hat with h1 | h1
      · rw [h1]
        rcases hne with h2 | h2
        · rw [h2]; intro h; cases h
        · rw [← hv]; exact h2
      · rw [h1]
        intro h2
        injection h2 with h2
        simp at h2
        omega

end Go.Proofs.YtikchpffkhohlaaGreat

namespace Go.Proofs.YtikchpffkhohlaaGreat

open Go.RowKit
set_option linter.unusedVariables false

def anyB (p : Nat → Bool) : Nat → Nat → Bool
  | 0, _ => false
  | f + 1, i => p i || anyB p f (i + 1)

def frm (b : Bk) : Nat → Nat → Nat → Bool
  | 0, _, _ => false
  | f + 1, k, old => decide (k = old) || anyB (fun i => frm b f (b.PX k i).toNat old) (b.PL k) 0

def Elder (n : Nat) (b : Bk) : Prop := ∀ k, k < n → ∀ i, i < b.PL k → 0 ≤ b.PX k i ∧ b.PX k i < (k : Int)

theorem parE_ok (k : Int) (X : Nat → Int) : ∀ f i last, parE k X f i last = 0 → (∀ j, i ≤ j → j < i + f → 0 ≤ X j ∧ X j < k ∧ last < X j) ∧ ∀ j, i ≤ j → j + 1 < i + f → X j < X (j + 1) := by
  intro f
  induction f with
  | zero => intro i last _; exact ⟨fun j h1 h2 => by omega, fun j h1 h2 => by omega⟩
  | succ f ih =>
    intro i last h
    simp only [parE] at h
    by_cases c1 : X i < 0 ∨ k ≤ X i
    · rw [if_pos c1] at h; omega
    · rw [if_neg c1] at h
      by_cases c2 : X i ≤ last
      · rw [if_pos c2] at h; omega
      · rw [if_neg c2] at h
        obtain ⟨h1, h2⟩ := ih (i + 1) (X i) h
        have c3 : ¬ X i < 0 := fun hh => c1 (Or.inl hh)
        have c4 : ¬ k ≤ X i := fun hh => c1 (Or.inr hh)
        refine ⟨fun j g1 g2 => ?_, fun j g1 g2 => ?_⟩
        · by_cases e : j = i
          · subst e; omega
          · have := h1 j (by omega) (by omega); omega
        · by_cases e : j = i
          · subst e; exact (h1 (j + 1) (by omega) (by omega)).2.2
          · exact h2 j (by omega) (by omega)

theorem scanV_ok (b : Bk) : ∀ f k, scanV b f k = 0 → ∀ j, k ≤ j → j < k + f → verE b j = 0 := by
  intro f
  induction f with
  | zero => intro k _ j h1 h2; omega
  | succ f ih =>
    intro k h j h1 h2
    simp only [scanV] at h
    by_cases c : verE b k = 0
    · rw [if_pos c] at h
      by_cases e : j = k
      · subst e; exact c
      · exact ih (k + 1) h j (by omega) (by omega)
    · rw [if_neg c] at h; exact absurd h c

structure Right (n : Nat) (b : Bk) : Prop where
  le : n ≤ 12
  elder : Elder n b
  rise : ∀ k, k < n → ∀ i, i + 1 < b.PL k → b.PX k i < b.PX k (i + 1)
  plan : ∀ k, k < n → chkP (b.nd k) (b.of k) (b.sz k) = 0

theorem right_of {n : Nat} {b : Bk} (h : bookE n b = 0) : Right n b := by
  unfold bookE at h
  by_cases hn : n ≤ 12
  · rw [if_pos hn] at h
    have hall := scanV_ok b n 0 h
    have hp : ∀ k, k < n → parE k (b.PX k) (b.PL k) 0 (-1) = 0 ∧ chkP (b.nd k) (b.of k) (b.sz k) = 0 := fun k hk => by
      have h1 := hall k (Nat.zero_le _) (by omega)
      unfold verE at h1
      by_cases c : parE k (b.PX k) (b.PL k) 0 (-1) = 0
      · rw [if_pos c] at h1; exact ⟨c, h1⟩
      · rw [if_neg c] at h1; exact absurd h1 c
    refine ⟨hn, fun k hk i hi => ?_, fun k hk i hi => (parE_ok _ _ _ _ _ (hp k hk).1).2 i (Nat.zero_le _) (by omega), fun k hk => (hp k hk).2⟩
    have := (parE_ok _ _ _ _ _ (hp k hk).1).1 i (Nat.zero_le _) (by omega)
    omega
  · rw [if_neg hn] at h; omega

end Go.Proofs.YtikchpffkhohlaaGreat

namespace Go.Proofs.YtikchpffkhohlaaGreat

open Go.RowKit
set_option linter.unusedVariables false

theorem owns_base {W : World} {base base' : Nat} {e : TypeId} {size : Nat} {v : Value} {k : Nat} {xs : List Value} (h : W.ownsRow base e size v k xs) (hb : base' ≤ base) : W.ownsRow base' e size v k xs := by
  obtain ⟨h1, h2⟩ := h
  refine ⟨h1, ?_⟩
  rcases h2 with h2 | ⟨g, cap, cur, hv, hg, hr⟩
  · exact Or.inl h2
  · exact Or.inr ⟨g, cap, cur, hv, Nat.le_trans hb hg, hr⟩

def OwnL (w0 wr : World) (v : Value) (l : List Int) : Prop := wr.ownsRow w0.heap.size 3 1 v l.length (l.map (Value.int .i64)) ∧ Below w0.heap.size w0 wr

theorem map_getD (l : List Int) : ((List.range l.length).map fun j => Value.int .i64 (l.getD j 0)) = l.map (Value.int .i64) := by
  apply List.ext_getElem (by simp)
  intro j h1 h2
  have hj : j < l.length := by simpa using h1
  simp [List.getD_eq_getElem?_getD, hj]

theorem OwnL.ownI {w0 wr : World} {v : Value} {l : List Int} (h : OwnL w0 wr v l) : OwnI w0 wr v l.length (fun j => l.getD j 0) := by
  refine ⟨?_, h.2⟩
  rw [map_getD]
  exact h.1

theorem OwnL.nil (w : World) : OwnL w w (.slice none 0 0) [] := ⟨World.ownsRow_nil _ _ _ _, Below.refl _ _⟩

theorem OwnL.up {w0 wr w' : World} {v : Value} {l : List Int} (h : OwnL w0 wr v l) (hb : Below wr.heap.size wr w') : OwnL w0 w' v l := ⟨owns_below h.1 hb, h.2.trans (hb.mono h.2.size)⟩

theorem OwnL.push {w0 wr w1 : World} {v v' : Value} {l : List Int} {x : Int} {o : Obj} (h : OwnL w0 wr v l)
    (ho : w1.ownsRow w0.heap.size 3 1 v' (l.length + 1) (l.map (Value.int .i64) ++ [.int .i64 x])) (hg : (wr.alloc o).grownBy w1 v.ownBlock) : OwnL w0 w1 v' (l ++ [x]) := by
  refine ⟨?_, ?_⟩
  · rw [List.length_append, List.map_append]
    exact ho
  · have hbA : Below w0.heap.size w0 (wr.alloc o) := h.2.alloc h.2.size o
    exact hbA.grown hg hbA.size (fun g hgg => (h.1.lt g hgg).1)

theorem OwnL.isl {w0 wr : World} {v : Value} {l : List Int} (h : OwnL w0 wr v l) (hr : l.length * 8 ≤ 140737488351232) : IntSl wr wr.heap.size v l.length (fun j => l.getD j 0) := by
  by_cases h0 : l.length = 0
  · obtain ⟨ad, cap, e⟩ := h.ownI.shape
    obtain ⟨_, h2⟩ := h.1
    rcases h2 with ⟨e1, _⟩ | ⟨g, cp, cur, e1, _, _, hc, _⟩
    · rw [e1, h0]; exact ⟨none, 0, rfl, ⟨Nat.le_refl _, by omega⟩, Or.inl rfl⟩
    · exact ⟨_, cp, e1, ⟨hc, hr⟩, Or.inl h0⟩
  · exact h.ownI.isl (by omega) hr

def LiPost (w : World) (l : List Int) (er : Int) (e : Ending) (w' : World) : Prop :=
  Below w.heap.size w w' ∧ ∃ vo, e = .returned (.tuple #[vo, .int .i64 er]) ∧ IntSl w' w'.heap.size vo l.length (fun j => l.getD j 0)

theorem liPost_nil {w w' : World} {er : Int} (hb : Below w.heap.size w w') : LiPost w [] er (.returned (.tuple #[.slice none 0 0, .int .i64 er])) w' :=
  ⟨hb, _, rfl, none, 0, rfl, ⟨Nat.le_refl _, by simp⟩, Or.inl rfl⟩

end Go.Proofs.YtikchpffkhohlaaGreat

namespace Go.Proofs.YtikchpffkhohlaaGreat

open Go.RowKit
set_option linter.unusedVariables false

def behL (b : Bk) (f k j : Nat) : List Int := ((List.range j).filter fun old => frm b f k old).map fun (x : Nat) => (x : Int)

theorem contains_sl {w : World} {B : Nat} {v : Value} {n : Nat} {X : Nat → Int} (h : IntSl w B v n X) (x : Int) :
    Calls Tryz.prog 35 #[v, .int .i64 x] w fun e w' => e = .returned (.bool (hasB X n x)) ∧ w' = w := by
  obtain ⟨ad, cap, rfl, ⟨h0, h1⟩, h2⟩ := h
  rcases h2 with rfl | ⟨b, off, rfl, _, h3⟩
  · exact contains_none ad cap x w
  · exact contains_any b off n cap X x w h1 h3

end Go.Proofs.YtikchpffkhohlaaGreat

namespace Go.Proofs.YtikchpffkhohlaaGreat

set_option linter.unusedVariables false

variable {P : Program} {ops : Array Oper} {md : Region.Mode} {D : World → Prop}

theorem anyM_fork {R : Act → World → Prop} (hs : Region.noSelect ops = true) {c1 c2 : Nat} {rA rB : List (Nat × Bool)} {seen : Array Bool} {a : Act} {w : World} (hr : Region.ready md ops seen = [c1, c2]) (hl : rA.length = rB.length)
    (hA : ordB md ops rA (seen.setIfInBounds c1 true) = true) (hB : ordB md ops rB (seen.setIfInBounds c2 true) = true)
    (h1 : wpOp P ops (endN R) c1 (fun a' w' => D w' ∧ walkF P ops D R rA a' w') a w) (h2 : wpOp P ops (endN R) c2 (fun a' w' => D w' ∧ walkF P ops D R rB a' w') a w) :
    anyM P md ops D R (rA.length + 1) seen a w := by
  refine ⟨fun h0 => (by rw [h0] at hr; cases hr), fun j hj => ?_⟩
  rw [hr] at hj
  rcases List.mem_cons.1 hj with rfl | hj
  · exact wpOp_mono (fun a' w' h' => ⟨h'.1, anyM_of_walk hs rA _ a' w' h'.1 hA h'.2⟩) h1
  · obtain rfl : j = c2 := by simpa using hj
    rw [hl]
    exact wpOp_mono (fun a' w' h' => ⟨h'.1, anyM_of_walk hs rB _ a' w' h'.1 hB h'.2⟩) h2

def ordQ (md : Region.Mode) (ops : Array Oper) : List Nat → Array Bool → Bool
  | [], _ => true
  | i :: r, seen => (Region.ready md ops seen).contains i && Region.free md ops seen i && ordQ md ops r (seen.setIfInBounds i true)

def seenQ : List Nat → Array Bool → Array Bool
  | [], seen => seen
  | i :: r, seen => seenQ r (seen.setIfInBounds i true)

theorem anyM_quiet {l : List Oper} {R G : Act → World → Prop} {f : Nat} {w : World} (hs : Region.noSelect l.toArray = true) (hD : D w) : ∀ (q : List Nat) (seen : Array Bool) (a : Act), ordQ md l.toArray q seen = true →
    (q.all (fun i => match l[i]? with | some o => plainB o | none => false)) = true → (∀ a, G a w → anyM P md l.toArray D R f (seenQ q seen) a w) →
    wpQuiet P l.toArray (fun w' => ∃ u : Of D, w' = u.val) (fun a' => G a' w) (pickO l q) a → anyM P md l.toArray D R (f + q.length) seen a w
  | [], seen, a, _, _, hG, h => hG a h
  | i :: q, seen, a, ho, hq, hG, h => by
    simp only [List.all_cons, Bool.and_eq_true] at hq
    obtain ⟨h1, h2⟩ := hq
    simp only [ordQ, Bool.and_eq_true] at ho
    obtain ⟨⟨hr, hf⟩, ho'⟩ := ho
    cases hoi : l[i]? with
    | none => simp [hoi] at h1
    | some o =>
      simp only [hoi] at h1
      simp only [pickO, hoi] at h
      have h0 : l.toArray[i]? = some o := by simpa using hoi
      have hst : qOp P l.toArray (fun w' => ∃ u : Of D, w' = u.val) i (wpQuiet P l.toArray (fun w' => ∃ u : Of D, w' = u.val) (fun a' => G a' w) (pickO l q)) a := by unfold qOp; simp only [h0]; exact h
      obtain ⟨v, hy, hK⟩ := yieldsIn_of_qOp h0 hst
      exact anyM_first h0 (Region.noSelect_spec hs) (f + q.length) seen a w hD (Region.free_spec h0 hf) (by simpa using hr) (still_of_yields h1 hy) (anyM_quiet hs hD q _ _ ho' h2 hG hK)

theorem wpOp_of_mix {l : List Oper} {R : Act → World → Prop} {c : Nat} {r : List (List Nat × Nat)} {last : List Nat} {a : Act} {w : World} (hc : (l[c]?).isSome = true) (hf : fitB l r last = true)
    (h : wpList P l.toArray (endN fun a'' w'' => D w'' ∧ mixO P l D R r last a'' w'') (pickO l [c]) a w) : wpOp P l.toArray (endN R) c (fun a' w' => D w' ∧ walkF P l.toArray D R (flatO r last) a' w') a w := by
  obtain ⟨o, ho⟩ := Option.isSome_iff_exists.1 hc
  have h0 : l.toArray[c]? = some o := by simpa using ho
  simp only [pickO, ho, wpList] at h
  unfold wpOp
  simp only [h0]
  have hk : ∀ a'' w'', endN (fun a'' w'' => D w'' ∧ mixO P l D R r last a'' w'') .normal a'' w'' → D w'' ∧ walkF P l.toArray D R (flatO r last) a'' w'' := fun a'' w'' hh => ⟨hh.2.1, walk_of_mix last r a'' w'' hf hh.2.2⟩
  split
  · rename_i hw
    simp only [hw, if_true] at h
    rcases h with h | h
    · exact Or.inl (upon_ends (fun v w1 hh => hk _ _ hh) (fun d w1 hh => hk _ _ hh) h)
    · exact absurd h.2 letsOut_endN
  · rename_i hw
    simp only [hw] at h
    exact hk _ _ h

theorem region_fork {id : Nat} {Q : Exit → Act → World → Prop} {a : Act} {w : World} {l lq l1 l2 : List Oper} (D : World → Prop) (q : List Nat) (c1 c2 : Nat) (rA rB : List (List Nat × Nat)) (last : List Nat) (hm : P.follows .mixedOrders = true)
    (hB : (Region.noSelect l.toArray && q.all (fun i => match l[i]? with | some o => plainB o | none => false) && (l[c1]?).isSome && (l[c2]?).isSome && fitB l rA last && fitB l rB last && decide ((flatO rA last).length + 1 + q.length = l.length) && decide ((flatO rA last).length = (flatO rB last).length)
      && ordQ .any l.toArray q (Array.replicate l.length false) && (Region.ready .any l.toArray (seenQ q (Array.replicate l.length false)) == [c1, c2])
      && ordB .any l.toArray (flatO rA last) ((seenQ q (Array.replicate l.length false)).setIfInBounds c1 true) && ordB .any l.toArray (flatO rB last) ((seenQ q (Array.replicate l.length false)).setIfInBounds c2 true)) = true) (hD : D w.drew)
    (hq : pickO l q = lq) (h1 : pickO l [c1] = l1) (h2 : pickO l [c2] = l2)
    (h : wpQuiet P l.toArray (fun w' => ∃ u : Of D, w' = u.val) (fun a' =>
      (∀ K : Act → World → Prop, (∀ a'' w'', D w'' → mixO P l D (fun a' w' => Q .normal a' w') rA last a'' w'' → K a'' w'') → wpList P l.toArray (endN K) l1 a' w.drew) ∧
      (∀ K : Act → World → Prop, (∀ a'' w'', D w'' → mixO P l D (fun a' w' => Q .normal a' w') rB last a'' w'' → K a'' w'') → wpList P l.toArray (endN K) l2 a' w.drew)) lq a) : (Code.region id l.toArray true).wp P Q a w := by
  subst hq h1 h2
  simp only [Bool.and_eq_true, decide_eq_true_eq, beq_iff_eq] at hB
  obtain ⟨⟨⟨⟨⟨⟨⟨⟨⟨⟨⟨hsel, hq⟩, hc1⟩, hc2⟩, hfA⟩, hfB⟩, hlen⟩, hll⟩, hoq⟩, hrd⟩, hoA⟩, hoB⟩ := hB
  refine wp_region_any hm ?_
  have h3 := anyM_quiet (md := .any) (f := (flatO rA last).length + 1) (R := fun a' w' => Q .normal a' w') (w := w.drew)
    (G := fun a' w => (∀ K : Act → World → Prop, (∀ a'' w'', D w'' → mixO P l D (fun a' w' => Q .normal a' w') rA last a'' w'' → K a'' w'') → wpList P l.toArray (endN K) (pickO l [c1]) a' w) ∧
      (∀ K : Act → World → Prop, (∀ a'' w'', D w'' → mixO P l D (fun a' w' => Q .normal a' w') rB last a'' w'' → K a'' w'') → wpList P l.toArray (endN K) (pickO l [c2]) a' w)) hsel hD q _ a hoq hq
    (fun a' ha => anyM_fork hsel hrd hll hoA hoB (wpOp_of_mix hc1 hfA (ha.1 _ fun a'' w'' g1 g2 => ⟨g1, g2⟩)) (wpOp_of_mix hc2 hfB (ha.2 _ fun a'' w'' g1 g2 => ⟨g1, g2⟩))) h
  rw [hlen] at h3
  have h4 := any_of_anyM (Q := Q) (fun _ _ h => h) _ _ _ _ h3
  simpa using h4

end Go.Proofs.YtikchpffkhohlaaGreat

namespace Go.Proofs.YtikchpffkhohlaaGreat

set_option linter.unusedVariables false

variable {P : Program} {D : World → Prop}

end Go.Proofs.YtikchpffkhohlaaGreat

namespace Go.Proofs.YtikchpffkhohlaaGreat

open Go.RowKit
set_option linter.unusedVariables false

def cellV (PV : Nat → Value) (b : Bk) (i : Nat) : Value :=
  if i % 4 = 0 then PV (i / 4) else if i % 4 = 1 then .int .i64 (b.nd (i / 4)) else if i % 4 = 2 then .int .i64 (b.of (i / 4)) else .int .i64 (b.sz (i / 4))
def flatV (n : Nat) (PV : Nat → Value) (b : Bk) : List Value := (List.range (n * 4)).map (cellV PV b)

theorem flatV_len (n : Nat) (PV : Nat → Value) (b : Bk) : (flatV n PV b).length = n * 4 := by simp [flatV]

theorem flatV_get (n : Nat) (PV : Nat → Value) (b : Bk) (i : Nat) : (flatV n PV b)[i]? = if i < n * 4 then some (cellV PV b i) else none := by
  unfold flatV
  by_cases h : i < n * 4
  · simp [h]
  · simp [h]

theorem flatV_congr {n : Nat} {PV PV' : Nat → Value} {b b' : Bk} (h : ∀ j, j < n → PV' j = PV j ∧ b'.nd j = b.nd j ∧ b'.of j = b.of j ∧ b'.sz j = b.sz j) : flatV n PV' b' = flatV n PV b := by
  refine List.map_congr_left fun i hi => ?_
  have hi' := List.mem_range.1 hi
  obtain ⟨h1, h2, h3, h4⟩ := h (i / 4) (by omega)
  unfold cellV
  rw [h1, h2, h3, h4]

theorem flatV_succ (n : Nat) (PV : Nat → Value) (b : Bk) : flatV (n + 1) PV b = flatV n PV b ++ [PV n, .int .i64 (b.nd n), .int .i64 (b.of n), .int .i64 (b.sz n)] := by
  have e : (n + 1) * 4 = n * 4 + 1 + 1 + 1 + 1 := by omega
  unfold flatV
  rw [e, List.range_succ, List.range_succ, List.range_succ, List.range_succ]
  simp only [List.map_append, List.map_cons, List.map_nil, List.append_assoc, List.cons_append, List.nil_append]
  have c0 : cellV PV b (n * 4) = PV n := by unfold cellV; rw [if_pos (by omega), show n * 4 / 4 = n by omega]
  have c1 : cellV PV b (n * 4 + 1) = .int .i64 (b.nd n) := by unfold cellV; rw [if_neg (by omega), if_pos (by omega), show (n * 4 + 1) / 4 = n by omega]
  have c2 : cellV PV b (n * 4 + 1 + 1) = .int .i64 (b.of n) := by unfold cellV; rw [if_neg (by omega), if_neg (by omega), if_pos (by omega), show (n * 4 + 1 + 1) / 4 = n by omega]
  have c3 : cellV PV b (n * 4 + 1 + 1 + 1) = .int .i64 (b.sz n) := by unfold cellV; rw [if_neg (by omega), if_neg (by omega), if_neg (by omega), show (n * 4 + 1 + 1 + 1) / 4 = n by omega]
  rw [c0, c1, c2, c3]

def OwnV (w0 wr : World) (v : Value) (n : Nat) (PV : Nat → Value) (b : Bk) : Prop := wr.ownsRow w0.heap.size 60 4 v n (flatV n PV b) ∧ Below w0.heap.size w0 wr

theorem Tryz.infoVer : (Tryz.prog.info? 60).map (fun i => (i.zero, i.size, i.bytes)) = some (some (.agg #[.slice none 0 0, .int .i64 0, .int .i64 0, .int .i64 0]), 4, 48) := by kernel_rfl

def snocB (n : Nat) (b : Bk) (l : Nat) (X : Nat → Int) (nd of sz : Int) : Bk :=
  ⟨fun j => if j = n then l else b.PL j, fun j => if j = n then X else b.PX j, fun j => if j = n then nd else b.nd j, fun j => if j = n then of else b.of j, fun j => if j = n then sz else b.sz j⟩
def snocP (n : Nat) (PV : Nat → Value) (pv : Value) (j : Nat) : Value := if j = n then pv else PV j

def addE (n : Nat) (b b' : Bk) : Int := if bookE n b = 0 then bookE (n + 1) b' else bookE n b

theorem cells_four (w : World) (v0 v1 v2 v3 : Value) (T : TypeId) : ∀ j u, ([v0, v1, v2, v3] : List Value)[j]? = some u → (w.alloc (.cells #[v0, v1, v2, v3] T)).cell? (Addr.add ⟨w.heap.size, 0, none⟩ j) = some u := by
  intro j u hj
  rw [Addr.add_lit]
  match j, hj with
  | 0, hj => simp at hj; subst hj; exact cell_at (heap_alloc_new _ _) rfl
  | 1, hj => simp at hj; subst hj; exact cell_at (heap_alloc_new _ _) rfl
  | 2, hj => simp at hj; subst hj; exact cell_at (heap_alloc_new _ _) rfl
  | 3, hj => simp at hj; subst hj; exact cell_at (heap_alloc_new _ _) rfl

theorem owns_ne {w : World} {base : Nat} {e t : TypeId} {size : Nat} {v : Value} {n : Nat} {xs : List Value} {bm : Nat} {cs : Array Value} (h : w.ownsRow base e size v n xs) (hm : w.heap[bm]? = some (.cells cs t (0, 0))) (ht : e ≠ t) : v.ownBlock ≠ some bm := by
  obtain ⟨_, h2⟩ := h
  rcases h2 with ⟨rfl, _⟩ | ⟨g, cap, cur, rfl, _, hh, _⟩
  · intro e; cases e
  · intro e1
    injection e1 with e1
    have e2 : g = bm := e1
    subst e2
    rw [hm] at hh
    injection hh with hh
    injection hh with _ h3 _
    exact ht h3.symm

theorem owns_sliceV {w : World} {base : Nat} {e : TypeId} {size : Nat} {v : Value} {n : Nat} {xs : List Value} (h : w.ownsRow base e size v n xs) : ∃ a c, v = .slice a n c := by
  obtain ⟨_, h2⟩ := h
  rcases h2 with ⟨h1, h0⟩ | ⟨g, cap, cur, h1, _⟩
  · exact ⟨none, 0, by rw [h0]; exact h1⟩
  · exact ⟨_, _, h1⟩

theorem owns_set_other {w : World} {base : Nat} {e : TypeId} {size : Nat} {v : Value} {n : Nat} {xs : List Value} {g o : Nat} (h : w.ownsRow base e size v n xs) (hne : v.ownBlock ≠ some g) (u : Value) : (w.setCell ⟨g, o, none⟩ u).ownsRow base e size v n xs := by
  obtain ⟨h1, h2⟩ := h
  refine ⟨h1, ?_⟩
  rcases h2 with h2 | ⟨g', cap, cur, rfl, hg, hh, hr⟩
  · exact Or.inl h2
  · refine Or.inr ⟨g', cap, cur, rfl, hg, ?_, hr⟩
    rw [Below.heap_setCell _ _ _ _ (fun e => hne (by rw [← show g' = g from e]; rfl))]
    exact hh

theorem rowV_shl {wr : World} {base : Nat} {v : Value} {n : Nat} {PV : Nat → Value} {b : Bk} (h : wr.ownsRow base 60 4 v n (flatV n PV b)) (hr : n * 48 ≤ 140737488351232) (hi : ∀ j, j < n → IntSl wr wr.heap.size (PV j) (b.PL j) (b.PX j)) : VeSl wr wr.heap.size v n PV b := by
  obtain ⟨hl, h2⟩ := h
  rcases h2 with ⟨rfl, h0⟩ | ⟨g, cap, cur, rfl, hg, hh, hc1, hc2, hsz, hcur⟩
  · subst h0; exact ⟨none, 0, rfl, ⟨Nat.le_refl _, by omega⟩, Or.inl rfl⟩
  · refine ⟨_, cap, rfl, ⟨hc1, hr⟩, Or.inr ⟨g, 0, rfl, (Array.getElem?_eq_some_iff.1 hh).1, fun j hj => ?_⟩⟩
    have key : ∀ i, i < n * 4 → wr.cell? ⟨g, i, none⟩ = some (cellV PV b i) := fun i hi => by
      have h3 := flatV_get n PV b i
      rw [if_pos hi, ← hcur, List.getElem?_take, if_pos hi] at h3
      exact cell_at hh (by simpa using h3)
    rw [Nat.zero_add]
    refine ⟨?_, ?_, ?_, ?_, hi j hj⟩
    · rw [key (j * 4) (by omega)]; unfold cellV; rw [if_pos (by omega), show j * 4 / 4 = j by omega]
    · rw [key (j * 4 + 1) (by omega)]; unfold cellV; rw [if_neg (by omega), if_pos (by omega), show (j * 4 + 1) / 4 = j by omega]
    · rw [key (j * 4 + 2) (by omega)]; unfold cellV; rw [if_neg (by omega), if_neg (by omega), if_pos (by omega), show (j * 4 + 2) / 4 = j by omega]
    · rw [key (j * 4 + 3) (by omega)]; unfold cellV; rw [if_neg (by omega), if_neg (by omega), if_neg (by omega), show (j * 4 + 3) / 4 = j by omega]

theorem set_one {w : World} {g : Nat} {v : Value} {T : TypeId} (h : w.heap[g]? = some (.cells #[v] T (0, 0))) (u : Value) : (w.setCell ⟨g, 0, none⟩ u).heap[g]? = some (.cells #[u] T (0, 0)) := by
  simp [World.setCell, Array.getElem?_modify, h]

theorem results_cell2 {P : Program} {fn : Func} {p u : Tmp} {ty : TypeId} (h : fn.results = #[.cell p ty, .tmp u]) (tmps : Array Value) (w : World) (g : Nat) (t : TypeId) (cs : Array Value) (fr : Nat × Nat) (d : TypeDesc)
    (hp : tmps.getD p undef = .pointer (some ⟨g, 0, none⟩)) (hg : w.heap[g]? = some (.cells cs t fr))
    (hu : P.underlying ty = some d) (hd : (match d with | .struct _ | .array _ _ => true | _ => false) = true) (hi : (P.info? ty).map (·.size) = some cs.size) :
    (results fn tmps).run P w = .ok (.tuple #[.agg cs, tmps.getD u undef]) w := by
  rw [results_cell_tmp h, hp]
  simp [asAddr, run_loadVar_row w g t ty cs fr d hg hu hd hi]

end Go.Proofs.YtikchpffkhohlaaGreat
