/- Several texts of one proof, in their order. -/
import Derived.Test.YtdhefajaekackaaPlSum3
import Derived.Test.YtdhefajaekackaaPlSum5
import Derived.Test.YtdhefajaekackaaPlSum2
import Derived.Maps.AppendAt

/- Chapter 7 in plain words: peers, what they keep, checked, held against each other, asked. -/
namespace Go.Proofs.Ytdhefajaekackaa

open Go.RowKit
set_option linter.unusedVariables false

/-- what a peer keeps: of which version, which share, its numbers -/
structure Kt where
  V : Nat → Int
  N : Nat → Int
  L : Nat → Nat
  X : Nat → Nat → Int

/-- the slice value v, of n kept ones, lies below block B of the world w -/
def KeSl (w : World) (B : Nat) (v : Value) (n : Nat) (UV : Nat → Value) (t : Kt) : Prop :=
  ∃ (ad : Option Addr) (cap : Nat), v = .slice ad n cap ∧ (n ≤ cap ∧ n * 40 ≤ 140737488351232) ∧ (n = 0 ∨ ∃ bl off, ad = some ⟨bl, off, none⟩ ∧ bl < B ∧ ∀ j, j < n →
    w.cell? ⟨bl, off + j * 3, none⟩ = some (.int .i64 (t.V j)) ∧ w.cell? ⟨bl, off + j * 3 + 1, none⟩ = some (.int .i64 (t.N j)) ∧ w.cell? ⟨bl, off + j * 3 + 2, none⟩ = some (UV j) ∧ IntSl w B (UV j) (t.L j) (t.X j))

theorem KeSl.below {w w' : World} {B : Nat} {v : Value} {n : Nat} {UV : Nat → Value} {t : Kt} (h : KeSl w B v n UV t) (hb : Below B w w') : KeSl w' B v n UV t := by
  obtain ⟨ad, cap, h1, h0, h2⟩ := h
  refine ⟨ad, cap, h1, h0, ?_⟩
  rcases h2 with h2 | ⟨bl, off, h3, h4, h5⟩
  · exact Or.inl h2
  · refine Or.inr ⟨bl, off, h3, h4, fun j hj => ?_⟩
    obtain ⟨g1, g2, g3, g4⟩ := h5 j hj
    exact ⟨by rw [hb.cell h4]; exact g1, by rw [hb.cell h4]; exact g2, by rw [hb.cell h4]; exact g3, g4.below hb⟩

theorem KeSl.mono {w : World} {B B' : Nat} {v : Value} {n : Nat} {UV : Nat → Value} {t : Kt} (h : KeSl w B v n UV t) (hb : B ≤ B') : KeSl w B' v n UV t := by
  obtain ⟨ad, cap, h1, h0, h2⟩ := h
  refine ⟨ad, cap, h1, h0, ?_⟩
  rcases h2 with h2 | ⟨bl, off, h3, h4, h5⟩
  · exact Or.inl h2
  · refine Or.inr ⟨bl, off, h3, by omega, fun j hj => ?_⟩
    obtain ⟨g1, g2, g3, g4⟩ := h5 j hj
    exact ⟨g1, g2, g3, g4.mono hb⟩

theorem KeSl.up {w w' : World} {v : Value} {n : Nat} {UV : Nat → Value} {t : Kt} (h : KeSl w w.heap.size v n UV t) (hb : Below w.heap.size w w') : KeSl w' w'.heap.size v n UV t := (h.below hb).mono hb.size

/-- what is kept, as a value -/
def keptV (ver N : Int) (uv : Value) : Value := .agg #[.int .i64 ver, .int .i64 N, uv]
/-- a peer, as a value -/
def peerV (th : Bool) (room : Int) (vk : Value) : Value := .agg #[.bool th, .int .i64 room, vk]

/-- the error of what is kept at place k -/
def oneK (b : Bk) (t : Kt) (k : Nat) : Int := oneE (b.nd (t.V k).toNat) (b.of (t.V k).toNat) (b.sz (t.V k).toNat) (t.N k) (t.L k) (t.X k)
/-- what is kept from place k on, f of them, behind the version last: the first error -/
def scanK (n : Nat) (b : Bk) (t : Kt) : Nat → Nat → Int → Int
  | 0, _, _ => 0
  | f + 1, k, last => if t.V k < 0 ∨ (n : Int) ≤ t.V k then 4 else if t.V k ≤ last then 5 else if oneK b t k = 0 then scanK n b t f (k + 1) (t.V k) else oneK b t k
/-- a peer's error -/
def peerE (n : Nat) (b : Bk) (room : Int) (m : Nat) (t : Kt) : Int :=
  if bookE n b = 0 then (if 0 ≤ room ∧ room ≤ 20 then (if (m : Int) ≤ room then scanK n b t m 0 (-1) else 8) else 2) else bookE n b

end Go.Proofs.Ytdhefajaekackaa

/- What chapter 5's reference answers: a book's error. -/
namespace Go.Proofs.Ytdhefajaekackaa

open Go.RowKit
set_option linter.unusedVariables false

set_option maxHeartbeats 2000000 in
set_option maxRecDepth 10000 in
theorem checkBook_any (v : Value) (n : Nat) (PV : Nat → Value) (b : Bk) (w : World) (h : VeSl w w.heap.size v n PV b) :
    Calls Try.prog 16 #[bookV v] w fun e w' => e = .returned (.int .i64 (bookE n b)) ∧ Below w.heap.size w w' := by
  obtain ⟨ad, cap, rfl, ⟨hcap, hbig⟩, hx⟩ := h
  have hbx := below_alloc w (.cells #[.slice ad n cap] 24)
  have HBx := hid hbx
  have HX := hid hx
  obtain ⟨ans, hans⟩ : ∃ a, bookE n b = a := ⟨_, rfl⟩
  rw [hans]
  unfold bookE at hans
  have HCp := hid (fun nd of sz w => checkPlan_any nd of sz w)
  clear hbx hx
  unfold bookV
  by_cases hn : n ≤ 12
  · rw [if_pos hn] at hans
    have HA := hid hans
    have hni : (n : Int) ≤ 12 := by omega
    clear hans
    go_enter Try.func16, Try.ntmps16
    go_wp2
    go_loopw [16] (fun iv wr => ∃ k : Nat, k ≤ n ∧ iv = .int .i64 k ∧ Hid (Below w.heap.size w wr) ∧ Hid (scanV b (n - k) k = ans)) (fun iv _ => n - (intOf iv).toNat)
    case atStart => exact ⟨0, Nat.zero_le _, rfl, HBx, HA⟩
    case round =>
      obtain ⟨k, hk, rfl, HB, HS⟩ := hrel
      by_cases hlt : k < n
      · have hki : (k : Int) < (n : Int) := by omega
        rcases HX.out with h0 | ⟨bl, off, rfl, hbl, hx⟩
        · omega
        obtain ⟨x0, x1, x2, x3, x4⟩ := hx k hlt
        have hstep := HS.out
        rw [show n - k = (n - (k + 1)) + 1 by omega] at hstep
        simp only [scanV] at hstep
        obtain ⟨ap, cp, hpe, hpl, hpc⟩ := x4
        obtain ⟨m, hm⟩ : ∃ m, b.PL k = m := ⟨_, rfl⟩
        rw [hm] at hpe hpl hpc
        have g0 : wr.cell? ⟨bl, off + k * 4, none⟩ = some (.slice ap m cp) := by rw [HB.out.cell hbl, x0, hpe]
        have g1 : wr.cell? ⟨bl, off + k * 4 + 1, none⟩ = some (.int .i64 (b.nd k)) := by rw [HB.out.cell hbl]; exact x1
        have g2 : wr.cell? ⟨bl, off + k * 4 + 2, none⟩ = some (.int .i64 (b.of k)) := by rw [HB.out.cell hbl]; exact x2
        have g3 : wr.cell? ⟨bl, off + k * 4 + 3, none⟩ = some (.int .i64 (b.sz k)) := by rw [HB.out.cell hbl]; exact x3
        obtain ⟨nd, hnd⟩ : ∃ nd, b.nd k = nd := ⟨_, rfl⟩
        obtain ⟨of, hof⟩ : ∃ of, b.of k = of := ⟨_, rfl⟩
        obtain ⟨sz, hsz⟩ : ∃ sz, b.sz k = sz := ⟨_, rfl⟩
        rw [hnd] at g1
        rw [hof] at g2
        rw [hsz] at g3
        have hbA := below_alloc wr (.cells #[.slice ap m cp, .int .i64 nd, .int .i64 of, .int .i64 sz] 29)
        obtain ⟨W, hW⟩ : ∃ W, wr.alloc (.cells #[.slice ap m cp, .int .i64 nd, .int .i64 of, .int .i64 sz] 29) = W := ⟨_, rfl⟩
        rw [hW] at hbA
        have s0 : W.cell? ⟨wr.heap.size, 0, none⟩ = some (.slice ap m cp) := by rw [← hW]; exact cell_at (heap_alloc_new _ _) rfl
        have s1 : W.cell? ⟨wr.heap.size, 1, none⟩ = some (.int .i64 nd) := by rw [← hW]; exact cell_at (heap_alloc_new _ _) rfl
        have s2 : W.cell? ⟨wr.heap.size, 2, none⟩ = some (.int .i64 of) := by rw [← hW]; exact cell_at (heap_alloc_new _ _) rfl
        have s3 : W.cell? ⟨wr.heap.size, 3, none⟩ = some (.int .i64 sz) := by rw [← hW]; exact cell_at (heap_alloc_new _ _) rfl
        have HBW := hid (HB.out.trans (hbA.mono HB.out.size))
        have HPc := hid hpc
        have HSt := hid hstep
        have HNd := hid hnd
        have HOf := hid hof
        have HSz := hid hsz
        have HM := hid hm
        clear x0 x1 x2 x3 hx hpe hbA hpc hstep hnd hof hsz hm
        go_wp2
        go_loopw [5, 24] (fun lv iv wz => ∃ (i : Nat) (last : Int), i ≤ m ∧ iv = .int .i64 i ∧ lv = .int .i64 last ∧ wz = W ∧ Hid (parE k (b.PX k) (m - i) i last = parE k (b.PX k) m 0 (-1))) (fun _ iv _ => m - (intOf iv).toNat)
        case atStart => exact ⟨0, -1, Nat.zero_le _, rfl, rfl, rfl, rfl⟩
        case round =>
          obtain ⟨i, last, hi, rfl, rfl, hwz, HP⟩ := hrel
          subst hwz
          by_cases him : i < m
          · have himi : (i : Int) < (m : Int) := by omega
            rcases HPc.out with h0 | ⟨bp, op, rfl, hbp, hpx⟩
            · omega
            have e0 : wr.cell? ⟨bp, op + i, none⟩ = some (.int .i64 (b.PX k i)) := by rw [HBW.out.cell hbp]; exact hpx i him
            have hp := HP.out
            rw [show m - i = (m - (i + 1)) + 1 by omega] at hp
            simp only [parE] at hp
            obtain ⟨x, hxx⟩ : ∃ x, b.PX k i = x := ⟨_, rfl⟩
            rw [hxx] at e0 hp
            clear hpx hxx
            by_cases c1 : x < 0 ∨ (k : Int) ≤ x
            · rw [if_pos c1] at hp
              have hst := HSt.out
              have hv : verE b k = 4 := by unfold verE; rw [HM.out, ← hp, if_neg (by decide)]
              rw [hv, if_neg (by decide)] at hst
              have HFin := hid hst
              clear hp hst hv
              by_cases c2 : x < 0
              · go_wp2
                go_ret
                exact ⟨by rw [← HFin.out]; rfl, HBW.out⟩
              · have c3 : (k : Int) ≤ x := by omega
                go_wp2
                go_ret
                exact ⟨by rw [← HFin.out]; rfl, HBW.out⟩
            · rw [if_neg c1] at hp
              have c2 : ¬ x < 0 := fun h => c1 (Or.inl h)
              have c3 : ¬ (k : Int) ≤ x := fun h => c1 (Or.inr h)
              by_cases c4 : x ≤ last
              · rw [if_pos c4] at hp
                have hst := HSt.out
                have hv : verE b k = 5 := by unfold verE; rw [HM.out, ← hp, if_neg (by decide)]
                rw [hv, if_neg (by decide)] at hst
                have HFin := hid hst
                clear hp hst hv c1
                go_wp2
                go_ret
                exact ⟨by rw [← HFin.out]; rfl, HBW.out⟩
              · rw [if_neg c4] at hp
                have HP2 := hid hp
                clear hp c1
                go_wp2
                go_roundw
                case rel => exact ⟨i + 1, x, by omega, by go_num, rfl, trivial, HP2⟩
                case measure => simp only [intOf]; omega
          · have hie : m = i := by omega
            subst hie
            have hp := HP.out
            rw [Nat.sub_self] at hp
            have hp0 : parE k (b.PX k) m 0 (-1) = 0 := hp.symm
            have hst := HSt.out
            have hv : verE b k = chkP nd of sz := by unfold verE; rw [HM.out, hp0, if_pos rfl, HNd.out, HOf.out, HSz.out]
            rw [hv] at hst
            have HCk := hid (HCp.out nd of sz wr)
            obtain ⟨c, hcc⟩ : ∃ c, chkP nd of sz = c := ⟨_, rfl⟩
            rw [hcc] at hst HCk
            clear hp hp0 hv hcc
            unfold planV at HCk
            by_cases hc0 : c = 0
            · subst hc0
              rw [if_pos rfl] at hst
              have HNx := hid hst
              clear hst
              go_wp2_with fail
              refine Calls.mono HCk.out ?_
              rintro e w5 ⟨rfl, hb5⟩
              have HB5 := hid (HBW.out.trans (hb5.mono HBW.out.size))
              clear hb5
              go_wp2
              go_roundw
              case rel => exact ⟨k + 1, by omega, by go_num, HB5, HNx⟩
              case measure => simp only [intOf]; omega
            · rw [if_neg hc0] at hst
              have HFin := hid hst
              have hcb : (c != 0) = true := by simpa using hc0
              clear hst hc0
              go_wp2_with fail
              refine Calls.mono HCk.out ?_
              rintro e w5 ⟨rfl, hb5⟩
              have HB5 := hid (HBW.out.trans (hb5.mono HBW.out.size))
              clear hb5
              go_wp2
              go_ret
              exact ⟨by rw [← HFin.out]; rfl, HB5.out⟩
      · have hke : n = k := by omega
        subst hke
        have hst := HS.out
        rw [Nat.sub_self] at hst
        have HFin : Hid ((0 : Int) = ans) := hst
        clear hst
        go_wp2
        go_ret
        exact ⟨by rw [← HFin.out]; rfl, HB.out⟩
  · rw [if_neg hn] at hans
    have HA := hid hans
    have hni : ¬ (n : Int) ≤ 12 := by omega
    clear hans
    go_enter Try.func16, Try.ntmps16
    go_wp2
    go_ret
    exact ⟨by rw [← HA.out]; rfl, HBx.out⟩

end Go.Proofs.Ytdhefajaekackaa

/- Two lists of ints that a call grows side by side, each in a row of its own. -/
namespace Go.Proofs.Ytdhefajaekackaa

open Go.RowKit
set_option linter.unusedVariables false

theorem grown_of_below {w w' : World} (h : Below w.heap.size w w') (row : Option Nat) : w.grownBy w' row := ⟨h.os, h.tape, h.output, h.size, fun k hk _ => h.block k hk⟩

theorem owns_below {w w' : World} {base : Nat} {e : TypeId} {size : Nat} {v : Value} {n : Nat} {xs : List Value} (h : w.ownsRow base e size v n xs) (hb : Below w.heap.size w w') : w'.ownsRow base e size v n xs := by
  cases hv : v.ownBlock with
  | none => exact h.kept (grown_of_below hb none) (Or.inl hv)
  | some g => exact h.kept (grown_of_below hb none) (Or.inr (by rw [hv]; intro h; cases h))

theorem OwnI.below {w0 wr w' : World} {v : Value} {n : Nat} {C : Nat → Int} (h : OwnI w0 wr v n C) (hb : Below wr.heap.size wr w') : OwnI w0 w' v n C :=
  ⟨owns_below h.1 hb, h.2.trans (hb.mono h.2.size)⟩

theorem OwnI.shape {w0 wr : World} {v : Value} {n : Nat} {C : Nat → Int} (h : OwnI w0 wr v n C) : ∃ ad cap, v = .slice ad n cap := by
  obtain ⟨_, h2⟩ := h.1
  rcases h2 with ⟨h1, h0⟩ | ⟨g, cap, cur, h1, _⟩
  · exact ⟨none, 0, by rw [h0]; exact h1⟩
  · exact ⟨_, _, h1⟩

theorem OwnI.congr {w0 wr : World} {v : Value} {n : Nat} {C D : Nat → Int} (h : OwnI w0 wr v n C) (e : ∀ j, j < n → C j = D j) : OwnI w0 wr v n D := by
  refine ⟨?_, h.2⟩
  have e2 : ((List.range n).map fun j => Value.int .i64 (D j)) = (List.range n).map fun j => Value.int .i64 (C j) := List.map_congr_left fun j hj => by rw [e j (List.mem_range.1 hj)]
  rw [e2]
  exact h.1

theorem OwnI.isl {w0 wr : World} {v : Value} {n : Nat} {C : Nat → Int} (h : OwnI w0 wr v n C) (hn : 1 ≤ n) (hr : n * 8 ≤ 140737488351232) : IntSl wr wr.heap.size v n C := by
  obtain ⟨g, cap, rfl, hc, hrow⟩ := h.row hn
  exact hrow.isl hc hr

/-- two own lists of one length, in rows of their own -/
structure Two (w0 wr : World) (va vb : Value) (r : Nat) (A B : Nat → Int) : Prop where
  a : OwnI w0 wr va r A
  b : OwnI w0 wr vb r B
  ne : va.ownBlock = none ∨ va.ownBlock ≠ vb.ownBlock

theorem Two.nil (w : World) (A B : Nat → Int) : Two w w (.slice none 0 0) (.slice none 0 0) 0 A B := ⟨OwnI.nil _ _, OwnI.nil _ _, Or.inl rfl⟩

theorem Two.below {w0 wr w' : World} {va vb : Value} {r : Nat} {A B : Nat → Int} (h : Two w0 wr va vb r A B) (hb : Below wr.heap.size wr w') : Two w0 w' va vb r A B := ⟨h.a.below hb, h.b.below hb, h.ne⟩

/-- the second list, behind the first one's growth -/
theorem Two.after {w0 wr w1 : World} {va vb va' : Value} {r : Nat} {A B : Nat → Int} {k : Int} (h : Two w0 wr va vb r A B) (o : Obj)
    (ho : w1.ownsRow w0.heap.size 3 1 va' (r + 1) (((List.range r).map fun j => Value.int .i64 (A j)) ++ [.int .i64 k])) (hg : (wr.alloc o).grownBy w1 va.ownBlock)
    (hat : va'.ownBlock = va.ownBlock ∨ va'.ownBlock = some (wr.alloc o).heap.size) :
    OwnI w0 w1 va' (r + 1) (fun j => if j = r then k else A j) ∧ OwnI w0 w1 vb r B ∧ (vb.ownBlock = none ∨ va'.ownBlock ≠ vb.ownBlock) := by
  have hbA : Below w0.heap.size w0 (wr.alloc o) := h.a.2.alloc h.a.2.size o
  have hlo : ∀ g, va.ownBlock = some g → w0.heap.size ≤ g := fun g hgg => (h.a.1.lt g hgg).1
  have hb1 : Below w0.heap.size w0 w1 := hbA.grown hg hbA.size hlo
  have hvb : w1.ownsRow w0.heap.size 3 1 vb r ((List.range r).map fun j => Value.int .i64 (B j)) := by
    refine (h.b.1.alloc o).kept hg ?_
    rcases h.ne with h1 | h1
    · rw [h1]
      cases hv : vb.ownBlock with
      | none => exact Or.inl rfl
      | some g => exact Or.inr (by intro h; cases h)
    · exact Or.inr (Ne.symm h1)
  refine ⟨⟨?_, hb1⟩, ⟨hvb, hb1⟩, ?_⟩
  · have e : ((List.range (r + 1)).map fun j => Value.int .i64 (if j = r then k else A j)) = ((List.range r).map fun j => Value.int .i64 (A j)) ++ [.int .i64 k] := by
      rw [List.range_succ, List.map_append]
      congr 1
      · exact List.map_congr_left fun j hj => by have := List.mem_range.1 hj; rw [if_neg (by omega)]
      · simp
    rw [e]
    exact ho
  · cases hv : vb.ownBlock with
    | none => exact Or.inl rfl
    | some g =>
      right
      have hlt := (h.b.1.lt g hv).2
      rcases hat with h1 | h1
      · rw [h1]
        rcases h.ne with h2 | h2
        · rw [h2]; intro h; cases h
        · rw [← hv]; exact h2
      · rw [h1]
        intro h2
        injection h2 with h2
        simp at h2
        omega

end Go.Proofs.Ytdhefajaekackaa

/- What chapter 5's reference answers: does a version come from another one; what is behind a version; which are heads? -/
namespace Go.Proofs.Ytdhefajaekackaa

open Go.RowKit
set_option linter.unusedVariables false

/-- parents are elder versions -/
def Elder (n : Nat) (b : Bk) : Prop := ∀ k, k < n → ∀ i, i < b.PL k → 0 ≤ b.PX k i ∧ b.PX k i < (k : Int)

end Go.Proofs.Ytdhefajaekackaa
