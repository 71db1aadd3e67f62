/- Several texts of one proof, in their order. -/
import Derived.Test.YtjfnpjmhippdoafGreatFinds9
import Derived.Test.YtjfnpjmhippdoafGreatFinds14
import Derived.Test.YtjfnpjmhippdoafGreatFinds18
import Derived.Test.YtjfnpjmhippdoafGreatFinds8
import Derived.Test.YtjfnpjmhippdoafGreatFinds13
import Derived.Test.YtjfnpjmhippdoafGreatFinds7
import Derived.Test.YtjfnpjmhippdoafGreatFinds4
import Derived.Test.YtjfnpjmhippdoafGreatFinds12
import Derived.Test.YtjfnpjmhippdoafGreatFinds5
import Derived.Maps.Own
import Derived.Maps.OwnOps
import Derived.Maps.OwnSet
import Derived.Maps.AppendAt

/- All sets of places, as bits, and the choices among them, sorted: the same choices in the same order; slices.Compare; what the reference keeps in memory while it gathers all choices; these, sorted by the library. -/
namespace Go.Proofs.YtjfnpjmhippdoafGreat

open Go.RowKit CurveMath
set_option linter.unusedVariables false

end Go.Proofs.YtjfnpjmhippdoafGreat

namespace Go.Proofs.YtjfnpjmhippdoafGreat

open Go.RowKit CurveMath
set_option linter.unusedVariables false

end Go.Proofs.YtjfnpjmhippdoafGreat

namespace Go.Proofs.YtjfnpjmhippdoafGreat

open Go.RowKit CurveMath Go.Sort
set_option linter.unusedVariables false

/-- a list of places, as numbers -/
def plI (c : List Nat) : Nat → Int := fun i => ((c.getD i 0 : Nat) : Int)

structure PInv (w1 wr : World) (d : Nat) (vp : Value) (ps : List (List Nat)) (pv : Nat → Value) : Prop where
  below : Below w1.heap.size w1 wr
  own : wr.ownsRow w1.heap.size 28 1 vp ps.length ((List.range ps.length).map pv)
  l : ∀ j, j < ps.length → IntSl wr wr.heap.size (pv j) d (plI (ps.getD j [])) ∧ Off vp (pv j)

theorem PInv.nil (w1 : World) (d : Nat) (pv : Nat → Value) : PInv w1 w1 d (.slice none 0 0) [] pv := ⟨Below.refl _ _, World.ownsRow_nil _ _ _ _, fun j hj => by simp at hj⟩

theorem PInv.up {w1 wr w' : World} {d : Nat} {vp : Value} {ps : List (List Nat)} {pv : Nat → Value} (h : PInv w1 wr d vp ps pv) (hb : Below wr.heap.size wr w') : PInv w1 w' d vp ps pv :=
  ⟨h.below.trans (hb.mono h.below.size), owns_below h.own hb, fun j hj => ⟨(h.l j hj).1.up hb, (h.l j hj).2⟩⟩

theorem PInv.push {w1 w0 wr w2 : World} {d : Nat} {vp va v' : Value} {ps : List (List Nat)} {pv : Nat → Value} {c : List Nat} {o : Obj} (h : PInv w1 w0 d vp ps pv) (hd : 1 ≤ d ∧ d ≤ 8) (hc : c.length = d) (ha : OwnL w0 wr va (c.map fun (x : Nat) => (x : Int)))
    (hg : (wr.alloc o).grownBy w2 vp.ownBlock) (ho : w2.ownsRow w1.heap.size 28 1 v' (ps.length + 1) ((List.range ps.length).map pv ++ [va])) (hat : v'.ownBlock = vp.ownBlock ∨ v'.ownBlock = some (wr.alloc o).heap.size) :
    PInv w1 w2 d v' (ps ++ [c]) (fun j => if j = ps.length then va else pv j) := by
  have hr := h.up ha.2
  have hbA : Below w1.heap.size w1 (wr.alloc o) := hr.below.alloc hr.below.size o
  have hia : IntSl wr wr.heap.size va d (plI c) := by
    have h1 := ha.isl (by simp; omega)
    rw [List.length_map, hc] at h1
    exact h1.congr fun j hj => by unfold plI; simp [List.getD_eq_getElem?_getD, show j < c.length by omega]
  have hoa : Off vp va := fun ad nn cc e e2 => by
    have h1 := (ha.1.lt ad.block (by rw [e]; rfl)).1
    have h2 := (h.own.lt ad.block e2.symm).2
    omega
  refine ⟨hbA.grown hg hbA.size (fun k hk => (h.own.lt k hk).1), ?_, fun j hj => ?_⟩
  · rw [List.length_append, List.length_singleton, List.range_succ, List.map_append]
    have e : (List.range ps.length).map (fun j => if j = ps.length then va else pv j) = (List.range ps.length).map pv := List.map_congr_left fun j hj => by rw [if_neg (by have := List.mem_range.1 hj; omega)]
    rw [e]
    simp only [List.map_cons, List.map_nil, if_true]
    exact ho
  · rw [List.length_append, List.length_singleton] at hj
    by_cases e : j = ps.length
    · subst e
      have e2 : (ps ++ [c]).getD ps.length [] = c := by simp
      rw [if_pos rfl, e2]
      exact off_step hd.1 hia hoa hg hat
    · have e2 : (ps ++ [c]).getD j [] = ps.getD j [] := by simp [List.getD_eq_getElem?_getD, List.getElem?_append_left (show j < ps.length by omega)]
      rw [if_neg e, e2]
      exact off_step hd.1 (hr.l j (by omega)).1 (hr.l j (by omega)).2 hg hat

end Go.Proofs.YtjfnpjmhippdoafGreat

/- What chapter 4's reference elects. -/
namespace Go.Proofs.YtjfnpjmhippdoafGreat

open Go.RowKit CurveMath
set_option linter.unusedVariables false

/-- a vote that is written number by number, in a block of its own -/
structure BkV (w0 wr : World) (x vs : Value) (l : List Int) : Prop where
  below : Below w0.heap.size w0 wr
  c : wr.heap[w0.heap.size]? = some (.cells #[x, vs] 132 (0, 0))
  own : wr.ownsRow (w0.heap.size + 1) 3 1 vs l.length (l.map (Value.int .i64))

section

variable {w0 wr w1 : World} {x vs v1 : Value} {y : Int} {l : List Int} {o : Obj}

theorem BkV.new (w0 : World) (x : Value) : BkV w0 (w0.alloc (.cells #[x, .slice none 0 0] 132)) x (.slice none 0 0) [] :=
  ⟨below_alloc _ _, heap_alloc_new _ _, World.ownsRow_nil _ _ _ _⟩

theorem BkV.lt (h : BkV w0 wr x vs l) : w0.heap.size < wr.heap.size := (Array.getElem?_eq_some_iff.1 h.c).1

theorem BkV.mid (h : BkV w0 wr x vs l) (hg : (wr.alloc o).grownBy w1 vs.ownBlock) : w1.heap[w0.heap.size]? = some (.cells #[x, vs] 132 (0, 0)) := by
  have hlt := h.lt
  rw [hg.block w0.heap.size (by simp; omega) (fun e => by have := (h.own.lt _ e.symm).1; omega), Below.heap_alloc _ _ _ hlt]
  exact h.c

theorem BkV.push (h : BkV w0 wr x vs l) (hg : (wr.alloc o).grownBy w1 vs.ownBlock) (ho : w1.ownsRow (w0.heap.size + 1) 3 1 v1 (l.length + 1) (l.map (Value.int .i64) ++ [.int .i64 y])) : BkV w0 (w1.setCell ⟨w0.heap.size, 1, none⟩ v1) x v1 (l ++ [y]) := by
  have hlt := h.lt
  have hm := h.mid hg
  have hbA : Below w0.heap.size w0 (wr.alloc o) := h.below.alloc h.below.size o
  refine ⟨(hbA.grown hg hbA.size (fun k hk => by have := (h.own.lt k hk).1; omega)).setCell (p := ⟨w0.heap.size, 1, none⟩) (Nat.le_refl _) _, ?_, ?_⟩
  · simp [World.setCell, Array.getElem?_modify, hm]
  · rw [List.length_append, List.map_append]
    exact ownsRow_setCell_below ho (a := ⟨w0.heap.size, 1, none⟩) (Nat.lt_succ_self _) _

theorem BkV.up {w' : World} (h : BkV w0 wr x vs l) (hb : Below wr.heap.size wr w') : BkV w0 w' x vs l :=
  ⟨h.below.trans (hb.mono h.below.size), by rw [hb.block _ h.lt]; exact h.c, owns_below h.own hb⟩

end

/-- the best vote so far -/
def EBest (base : Nat) (wr : World) (d s R n : Nat) (N : Nat → Int) (X : Nat → Nat → Int) (st : Option (List Nat)) (vb : Value) : Prop :=
  (st = none ∧ vb = .pointer none) ∨
  ∃ c bq vd vo, st = some c ∧ vb = .pointer (some ⟨bq, 0, none⟩) ∧ wr.heap[bq]? = some (.cells #[vd, vo] 132 (0, 0)) ∧ IntSl wr wr.heap.size vd s (conD d N X c) ∧ wr.ownsRow base 3 1 vo (badL d s R n N X (conD d N X c)).length ((badL d s R n N X (conD d N X c)).map (Value.int .i64)) ∧ Off vo vd ∧ vo.ownBlock ≠ some bq

theorem EBest.up {base : Nat} {wr w' : World} {d s R n : Nat} {N : Nat → Int} {X : Nat → Nat → Int} {st : Option (List Nat)} {vb : Value} (h : EBest base wr d s R n N X st vb) (hb : Below wr.heap.size wr w') : EBest base w' d s R n N X st vb := by
  rcases h with h | ⟨c, bq, vd, vo, h1, h2, h3, h4, h5, h6, h7⟩
  · exact Or.inl h
  · exact Or.inr ⟨c, bq, vd, vo, h1, h2, by rw [hb.block bq (Array.getElem?_eq_some_iff.1 h3).1]; exact h3, h4.up hb, owns_below h5 hb, h6, h7⟩

end Go.Proofs.YtjfnpjmhippdoafGreat

/- What chapter 9's reference answers: what a version is restored to. -/
namespace Go.Proofs.YtjfnpjmhippdoafGreat

open Go.RowKit CurveMath
set_option linter.unusedVariables false

end Go.Proofs.YtjfnpjmhippdoafGreat

/- What chapter 10's reference answers: how many shares lack, who is to blame. -/
namespace Go.Proofs.YtjfnpjmhippdoafGreat

open Go.RowKit CurveMath
set_option linter.unusedVariables false

/-- as many numbers as there are shares -/
theorem plan_bd {n : Nat} {b : Bk} {np : Nat} {P : Ps} (h : MeshR n b np P) {q : Nat} (hq : q < n) : (1 ≤ b.nd q ∧ b.nd q ≤ 4) ∧ (b.nd q ≤ b.of q ∧ b.of q ≤ 8) ∧ (1 ≤ b.sz q ∧ b.sz q ≤ 24) ∧ planOk (b.nd q) (b.of q) (b.sz q) = true := by
  have h1 := (right_of h.book).plan q hq
  unfold chkP at h1
  by_cases h2 : planOk (b.nd q) (b.of q) (b.sz q) = true
  · obtain ⟨g1, g2, g3⟩ := planOk_spec h2
    exact ⟨g1, g2, g3, h2⟩
  · rw [if_neg h2] at h1; omega

section

variable {P : Ps} {ver : Int} {R : Nat} {S : Nat → Nat → Int} {k i : Nat}

end

end Go.Proofs.YtjfnpjmhippdoafGreat

/- Where a peer keeps a version, asked by slices.IndexFunc with a function value that holds the version (peer.Find$1). -/
namespace Go.Proofs.YtjfnpjmhippdoafGreat

open Go.RowKit
set_option linter.unusedVariables false

theorem peFindF (bx : Nat) (ver V N : Int) (uv : Value) (w : World) (hx : w.cell? ⟨bx, 0, none⟩ = some (.int .i64 ver)) (hu : ∃ a l c, uv = .slice a l c) :
    Calls Tryz.prog 34 #[keptV V N uv, .pointer (some ⟨bx, 0, none⟩)] w fun e w' => e = .returned (.bool (decide (V = ver))) ∧ Below w.heap.size w w' := by
  obtain ⟨a, l, c, rfl⟩ := hu
  have hb := below_alloc w (.cells #[.int .i64 V, .int .i64 N, .slice a l c] 50)
  have HB := hid hb
  have c1 : (w.alloc (.cells #[.int .i64 V, .int .i64 N, .slice a l c] 50)).cell? ⟨bx, 0, none⟩ = some (.int .i64 ver) := by rw [hb.cell (cell_lt hx)]; exact hx
  clear hb
  have he : (V == ver) = decide (V = ver) := by by_cases h : V = ver <;> simp [h]
  unfold keptV
  go_enter Tryz.func34, Tryz.ntmps34
  go_wp2
  go_ret
  exact ⟨by first | rfl | rw [← he], HB.out⟩

set_option maxHeartbeats 1000000 in
theorem peIndex (bx : Nat) (ver : Int) (v : Value) (m : Nat) (UV : Nat → Value) (t : Kt) (w : World) (h : KeSl w w.heap.size v m UV t) (hx : w.cell? ⟨bx, 0, none⟩ = some (.int .i64 ver)) :
    Calls Tryz.prog 33 #[v, .func (.func 34) #[] #[.pointer (some ⟨bx, 0, none⟩)]] w fun e w' => e = .returned (.int .i64 (fstAt t.V ver m 0)) ∧ Below w.heap.size w w' := by
  obtain ⟨ad, cap, rfl, ⟨hc, hr⟩, hk⟩ := h
  obtain ⟨ans, hans⟩ : ∃ a, fstAt t.V ver m 0 = a := ⟨_, rfl⟩
  rw [hans]
  have HA := hid hans
  have HX := hid hk
  have HBx := hid hx
  clear hans hk hx
  go_enter Tryz.func33, Tryz.ntmps33
  go_wp2
  go_loopw [8] (fun iv wr => ∃ i : Nat, i ≤ m ∧ iv = .int .i64 i ∧ Hid (Below w.heap.size w wr) ∧ Hid (fstAt t.V ver (m - i) i = ans)) (fun iv _ => m - (intOf iv).toNat)
  case atStart => exact ⟨0, Nat.zero_le _, rfl, Below.refl _ _, HA⟩
  case round =>
    obtain ⟨i, hi, rfl, HB, HS⟩ := hrel
    by_cases hlt : i < m
    · have hii : (i : Int) < (m : Int) := by omega
      rcases HX.out with h0 | ⟨b1, o1, rfl, hb1, hk⟩
      · omega
      obtain ⟨x0, x1, x2, x3⟩ := hk i hlt
      obtain ⟨au, cu, hue, _, _⟩ := x3
      rw [hue] at x2
      have g0 : wr.cell? ⟨b1, o1 + i * 3, none⟩ = some (.int .i64 (t.V i)) := by rw [HB.out.cell hb1]; exact x0
      have g1 : wr.cell? ⟨b1, o1 + i * 3 + 1, none⟩ = some (.int .i64 (t.N i)) := by rw [HB.out.cell hb1]; exact x1
      have g2 : wr.cell? ⟨b1, o1 + i * 3 + 2, none⟩ = some (.slice au (t.L i) cu) := by rw [HB.out.cell hb1]; exact x2
      have hstep := HS.out
      rw [show m - i = (m - (i + 1)) + 1 by omega] at hstep
      simp only [fstAt] at hstep
      obtain ⟨x, hxx⟩ : ∃ x, t.V i = x := ⟨_, rfl⟩
      rw [hxx] at g0 hstep
      have HC := hid (peFindF bx ver x (t.N i) (.slice au (t.L i) cu) wr (by rw [HB.out.cell (cell_lt HBx.out)]; exact HBx.out) ⟨_, _, _, rfl⟩)
      unfold keptV at HC
      clear x0 x1 x2 hk hue hxx
      by_cases hv : ver = x
      · rw [if_pos hv] at hstep
        rw [decide_eq_true hv.symm] at HC
        have HF := hid hstep
        clear hstep hv
        go_wp2_with fail
        refine Calls.mono HC.out ?_
        rintro e w2 ⟨rfl, hb2⟩
        have HB2 := hid (HB.out.trans (hb2.mono HB.out.size))
        clear hb2
        go_wp2
        go_ret
        exact ⟨by rw [← HF.out]; rfl, HB2.out⟩
      · rw [if_neg hv] at hstep
        rw [decide_eq_false (fun h => hv h.symm)] at HC
        have HF := hid hstep
        clear hstep hv
        go_wp2_with fail
        refine Calls.mono HC.out ?_
        rintro e w2 ⟨rfl, hb2⟩
        have HB2 := hid (HB.out.trans (hb2.mono HB.out.size))
        clear hb2
        go_wp2
        go_roundw
        case rel => exact ⟨i + 1, by omega, by go_num, HB2, HF⟩
        case measure => simp only [intOf]; omega
    · have hie : m = i := by omega
      subst hie
      have hst := HS.out
      rw [Nat.sub_self] at hst
      have HFin : Hid ((-1 : Int) = ans) := hst
      clear hst
      go_wp2
      go_ret
      exact ⟨by rw [← HFin.out]; rfl, HB.out⟩

theorem peFind (th : Bool) (room : Int) (v : Value) (m : Nat) (UV : Nat → Value) (t : Kt) (ver : Int) (w : World) (h : KeSl w w.heap.size v m UV t) :
    Calls Tryz.prog 14 #[peerV th room v, .int .i64 ver] w fun e w' => e = .returned (.int .i64 (fstAt t.V ver m 0)) ∧ Below w.heap.size w w' := by
  have hb := ((Below.refl w.heap.size w).alloc (Nat.le_refl _) (.cells #[.bool th, .int .i64 room, v] 45)).alloc (by simp) (.cells #[.int .i64 ver] 3)
  have k2 := heap_two_new w (.cells #[.bool th, .int .i64 room, v] 45) (.cells #[.int .i64 ver] 3)
  have HI := hid (peIndex (w.heap.size + 1) ver v m UV t _ (h.up hb) (cell_at k2 rfl))
  have HB := hid hb
  obtain ⟨ad, cap, rfl, _, _⟩ := h
  clear hb k2
  generalize fstAt t.V ver m 0 = ans at *
  have hmf : ∀ (fn : Fn) (first cap : Array Value) (w : World), (Instr.makeFunc fn first cap).run Tryz.prog w = .ok (.func fn first cap) w := fun _ _ _ _ => rfl
  unfold peerV
  go_enter Tryz.func14, Tryz.ntmps14
  go_wp2_with fail
  refine Calls.mono HI.out ?_
  rintro e w2 ⟨rfl, hb2⟩
  have HB2 := hid (HB.out.trans (hb2.mono HB.out.size))
  clear hb2
  go_wp2
  go_ret
  exact ⟨rfl, HB2.out⟩

end Go.Proofs.YtjfnpjmhippdoafGreat

/- The peers that are there, each handed with what it keeps to a function value (audit.each): one copy a function value. -/
namespace Go.Proofs.YtjfnpjmhippdoafGreat

open Go.RowKit CurveMath
set_option linter.unusedVariables false

set_option maxHeartbeats 4000000 in
set_option maxRecDepth 10000 in
theorem auEachA (B : Nat) (w0 : World) (vb : Value) (vl : Value) (np : Nat) (KV : Nat → Value) (UV : Nat → Nat → Value) (P : Ps) (ver : Int) (ga gw : Nat) (I : Nat → World → Prop) (w : World) (hvb : ∃ a n c, vb = .slice a n c) (hl : PsSl w0 B vl np KV UV P) (h8 : np ≤ 1000)
    (hI : ∀ k wr, I k wr → Below B w0 wr ∧ B ≤ wr.heap.size) (hup : ∀ k wr w', I k wr → Below wr.heap.size wr w' → I k w') (hno : ∀ k wr, k < np → hasK P ver k = false → I k wr → I (k + 1) wr)
    (hyes : ∀ k wr, k < np → hasK P ver k = true → I k wr → Calls Tryz.prog 21 #[.int .i64 (k : Int), .agg #[.int .i64 (numK P ver k), UV k (atK P ver k)], .pointer (some ⟨ga, 0, none⟩), .pointer (some ⟨gw, 0, none⟩)] wr fun e w' => e = .returned (.tuple #[]) ∧ I (k + 1) w') (h0 : I 0 w) :
    Calls Tryz.prog 20 #[meshV vb vl, .int .i64 ver, .func (.func 21) #[] #[.pointer (some ⟨ga, 0, none⟩), .pointer (some ⟨gw, 0, none⟩)]] w fun e w' => e = .returned (.tuple #[]) ∧ I np w' := by
  obtain ⟨ab, nb, cb, rfl⟩ := hvb
  have HL := hid hl
  have HI : Hid (∀ k wr, I k wr → Below B w0 wr ∧ B ≤ wr.heap.size) := hI
  have HUp : Hid (∀ k wr w', I k wr → Below wr.heap.size wr w' → I k w') := hup
  have HNo : Hid (∀ k wr, k < np → hasK P ver k = false → I k wr → I (k + 1) wr) := hno
  have HYes := hid hyes
  obtain ⟨al, cl, rfl, _, _⟩ := hl
  have hb0 := below_alloc w (.cells #[.slice ab nb cb, .slice al np cl] 27)
  have k0 := heap_alloc_new w (.cells #[.slice ab nb cb, .slice al np cl] 27)
  have J0 := hid (HUp.out _ _ _ h0 hb0)
  obtain ⟨U, hU⟩ : ∃ u, w.alloc (.cells #[.slice ab nb cb, .slice al np cl] 27) = u := ⟨_, rfl⟩
  rw [hU] at J0 k0
  obtain ⟨c0, c1⟩ := two_at k0
  clear hI hup hno hyes h0 hb0 k0
  unfold meshV
  go_enter Tryz.func20, Tryz.ntmps20
  go_wp2
  clear c0 c1 hU
  go_loopw [12] (fun kv wr => ∃ k : Nat, k ≤ np ∧ kv = .int .i64 k ∧ Hid (I k wr)) (fun kv _ => np - (intOf kv).toNat)
  case atStart => exact ⟨0, Nat.zero_le _, rfl, J0⟩
  case round =>
    obtain ⟨k, hk, rfl, J⟩ := hrel
    by_cases hlt : k < np
    · have hki : (k : Int) < (np : Int) := by omega
      obtain ⟨hbw, hbz⟩ := HI.out _ _ J.out
      obtain ⟨bl, off, rfl, hbl, g0, g1, g2, g3⟩ := ((HL.out.below hbw).mono hbz).at hlt
      have G3 := hid g3
      obtain ⟨ak, ck, hke, _, hk3⟩ := g3
      rw [hke] at g2 G3
      have HK3 := hid hk3
      have hbA := below_alloc wr (.cells #[.bool (P.th k), .int .i64 (P.rm k), .slice ak (P.m k) ck] 45)
      have kp := heap_alloc_new wr (.cells #[.bool (P.th k), .int .i64 (P.rm k), .slice ak (P.m k) ck] 45)
      obtain ⟨W1, hW1⟩ : ∃ u, wr.alloc (.cells #[.bool (P.th k), .int .i64 (P.rm k), .slice ak (P.m k) ck] 45) = u := ⟨_, rfl⟩
      rw [hW1] at hbA kp
      obtain ⟨p0, p1, p2⟩ := three_at kp
      have HBA := hid hbA
      have CS := hid (peFind (P.th k) (P.rm k) _ (P.m k) (UV k) (P.t k) ver W1 (G3.out.up hbA))
      obtain ⟨at9, hat⟩ : ∃ a, fstAt (P.t k).V ver (P.m k) 0 = a := ⟨_, rfl⟩
      have HHas : Hid (hasK P ver k = (P.th k && decide (0 ≤ at9)) ∧ atK P ver k = at9.toNat) := by unfold hasK atK; rw [hat]; exact ⟨rfl, rfl⟩
      rw [hat] at CS
      obtain ⟨t0, ht0⟩ : ∃ t, P.th k = t := ⟨_, rfl⟩
      have HT0 := hid ht0
      unfold peerV at CS
      rw [ht0] at CS p0 kp
      have KP := hid kp
      clear hbA kp hke hat hbw hbz hk3 ht0
      go_wp2_with fail
      refine Calls.mono CS.out ?_
      rintro e w2 ⟨rfl, hb2⟩
      have J2 := hid (HUp.out _ _ _ J.out (HBA.out.trans (hb2.mono HBA.out.size)))
      obtain ⟨p0, p1, p2⟩ := three_at (stayB KP.out hb2)
      have HB2 := hid hb2
      clear hb2 CS
      cases t0 with
      | false =>
        have hh : hasK P ver k = false := by rw [HHas.out.1, HT0.out]; rfl
        have JB := hid (HNo.out k _ hlt hh J2.out)
        clear hh
        go_wp2
        go_roundw
        case rel => exact ⟨k + 1, by omega, by go_num, JB⟩
        case measure => simp only [intOf]; omega
      | true =>
        by_cases hge : 0 ≤ at9
        · have hh : hasK P ver k = true := by rw [HHas.out.1, HT0.out, decide_eq_true hge]; rfl
          obtain ⟨q, rfl⟩ : ∃ q : Nat, at9 = q := ⟨at9.toNat, by omega⟩
          obtain ⟨_, hqm, _⟩ := hasK_at hh
          have hqe : atK P ver k = q := by rw [HHas.out.2, Int.toNat_natCast]
          rw [hqe] at hqm
          have HC := hid (HYes.out k w2 hlt hh J2.out)
          have hne : numK P ver k = (P.t k).N q := by unfold numK; rw [hqe]
          rw [hne, hqe] at HC
          rcases HK3.out with h9 | ⟨bk, ok, rfl, hbk, hx⟩
          · omega
          obtain ⟨_, x1, x2, x3⟩ := hx q hqm
          obtain ⟨au, cu, hue, _, _⟩ := x3
          rw [hue] at x2 HC
          have hb12 := HBA.out.trans (HB2.out.mono HBA.out.size)
          have y1 : w2.cell? ⟨bk, ok + q * 3 + 1, none⟩ = some (.int .i64 ((P.t k).N q)) := by rw [hb12.cell hbk]; exact x1
          have y2 : w2.cell? ⟨bk, ok + q * 3 + 2, none⟩ = some (.slice au ((P.t k).L q) cu) := by rw [hb12.cell hbk]; exact x2
          have hqi : (q : Int) < (P.m k : Int) := by omega
          clear hh hqe hne hx x1 x2 hue hb12
          go_wp2_with fail
          refine Calls.mono HC.out ?_
          rintro e w3 ⟨rfl, hI3⟩
          have JB := hid hI3
          clear hI3 HC p0 p1 p2 y1 y2
          go_wp2
          go_roundw
          case rel => exact ⟨k + 1, by omega, by go_num, JB⟩
          case measure => simp only [intOf]; omega
        · have hh : hasK P ver k = false := by rw [HHas.out.1, decide_eq_false hge, Bool.and_false]
          have JB := hid (HNo.out k _ hlt hh J2.out)
          have hgn : ¬ (at9 ≥ 0) := hge
          clear hh hge
          go_wp2
          go_roundw
          case rel => exact ⟨k + 1, by omega, by go_num, JB⟩
          case measure => simp only [intOf]; omega
    · have hke : np = k := by omega
      subst hke
      have hjn : ¬ (np : Int) < (np : Int) := by omega
      go_wp2
      refine bodyPost_end (results_none rfl _ _ _) rfl ?_
      exact ⟨rfl, J.out⟩

set_option maxHeartbeats 4000000 in
set_option maxRecDepth 10000 in
theorem auEachB (B : Nat) (w0 : World) (vb : Value) (vl : Value) (np : Nat) (KV : Nat → Value) (UV : Nat → Nat → Value) (P : Ps) (ver : Int) (gt : Nat) (I : Nat → World → Prop) (w : World) (hvb : ∃ a n c, vb = .slice a n c) (hl : PsSl w0 B vl np KV UV P) (h8 : np ≤ 1000)
    (hI : ∀ k wr, I k wr → Below B w0 wr ∧ B ≤ wr.heap.size) (hup : ∀ k wr w', I k wr → Below wr.heap.size wr w' → I k w') (hno : ∀ k wr, k < np → hasK P ver k = false → I k wr → I (k + 1) wr)
    (hyes : ∀ k wr, k < np → hasK P ver k = true → I k wr → Calls Tryz.prog 24 #[.int .i64 (k : Int), .agg #[.int .i64 (numK P ver k), UV k (atK P ver k)], .pointer (some ⟨gt, 0, none⟩)] wr fun e w' => e = .returned (.tuple #[]) ∧ I (k + 1) w') (h0 : I 0 w) :
    Calls Tryz.prog 20 #[meshV vb vl, .int .i64 ver, .func (.func 24) #[] #[.pointer (some ⟨gt, 0, none⟩)]] w fun e w' => e = .returned (.tuple #[]) ∧ I np w' := by
  obtain ⟨ab, nb, cb, rfl⟩ := hvb
  have HL := hid hl
  have HI : Hid (∀ k wr, I k wr → Below B w0 wr ∧ B ≤ wr.heap.size) := hI
  have HUp : Hid (∀ k wr w', I k wr → Below wr.heap.size wr w' → I k w') := hup
  have HNo : Hid (∀ k wr, k < np → hasK P ver k = false → I k wr → I (k + 1) wr) := hno
  have HYes := hid hyes
  obtain ⟨al, cl, rfl, _, _⟩ := hl
  have hb0 := below_alloc w (.cells #[.slice ab nb cb, .slice al np cl] 27)
  have k0 := heap_alloc_new w (.cells #[.slice ab nb cb, .slice al np cl] 27)
  have J0 := hid (HUp.out _ _ _ h0 hb0)
  obtain ⟨U, hU⟩ : ∃ u, w.alloc (.cells #[.slice ab nb cb, .slice al np cl] 27) = u := ⟨_, rfl⟩
  rw [hU] at J0 k0
  obtain ⟨c0, c1⟩ := two_at k0
  clear hI hup hno hyes h0 hb0 k0
  unfold meshV
  go_enter Tryz.func20, Tryz.ntmps20
  go_wp2
  clear c0 c1 hU
  go_loopw [12] (fun kv wr => ∃ k : Nat, k ≤ np ∧ kv = .int .i64 k ∧ Hid (I k wr)) (fun kv _ => np - (intOf kv).toNat)
  case atStart => exact ⟨0, Nat.zero_le _, rfl, J0⟩
  case round =>
    obtain ⟨k, hk, rfl, J⟩ := hrel
    by_cases hlt : k < np
    · have hki : (k : Int) < (np : Int) := by omega
      obtain ⟨hbw, hbz⟩ := HI.out _ _ J.out
      obtain ⟨bl, off, rfl, hbl, g0, g1, g2, g3⟩ := ((HL.out.below hbw).mono hbz).at hlt
      have G3 := hid g3
      obtain ⟨ak, ck, hke, _, hk3⟩ := g3
      rw [hke] at g2 G3
      have HK3 := hid hk3
      have hbA := below_alloc wr (.cells #[.bool (P.th k), .int .i64 (P.rm k), .slice ak (P.m k) ck] 45)
      have kp := heap_alloc_new wr (.cells #[.bool (P.th k), .int .i64 (P.rm k), .slice ak (P.m k) ck] 45)
      obtain ⟨W1, hW1⟩ : ∃ u, wr.alloc (.cells #[.bool (P.th k), .int .i64 (P.rm k), .slice ak (P.m k) ck] 45) = u := ⟨_, rfl⟩
      rw [hW1] at hbA kp
      obtain ⟨p0, p1, p2⟩ := three_at kp
      have HBA := hid hbA
      have CS := hid (peFind (P.th k) (P.rm k) _ (P.m k) (UV k) (P.t k) ver W1 (G3.out.up hbA))
      obtain ⟨at9, hat⟩ : ∃ a, fstAt (P.t k).V ver (P.m k) 0 = a := ⟨_, rfl⟩
      have HHas : Hid (hasK P ver k = (P.th k && decide (0 ≤ at9)) ∧ atK P ver k = at9.toNat) := by unfold hasK atK; rw [hat]; exact ⟨rfl, rfl⟩
      rw [hat] at CS
      obtain ⟨t0, ht0⟩ : ∃ t, P.th k = t := ⟨_, rfl⟩
      have HT0 := hid ht0
      unfold peerV at CS
      rw [ht0] at CS p0 kp
      have KP := hid kp
      clear hbA kp hke hat hbw hbz hk3 ht0
      go_wp2_with fail
      refine Calls.mono CS.out ?_
      rintro e w2 ⟨rfl, hb2⟩
      have J2 := hid (HUp.out _ _ _ J.out (HBA.out.trans (hb2.mono HBA.out.size)))
      obtain ⟨p0, p1, p2⟩ := three_at (stayB KP.out hb2)
      have HB2 := hid hb2
      clear hb2 CS
      cases t0 with
      | false =>
        have hh : hasK P ver k = false := by rw [HHas.out.1, HT0.out]; rfl
        have JB := hid (HNo.out k _ hlt hh J2.out)
        clear hh
        go_wp2
        go_roundw
        case rel => exact ⟨k + 1, by omega, by go_num, JB⟩
        case measure => simp only [intOf]; omega
      | true =>
        by_cases hge : 0 ≤ at9
        · have hh : hasK P ver k = true := by rw [HHas.out.1, HT0.out, decide_eq_true hge]; rfl
          obtain ⟨q, rfl⟩ : ∃ q : Nat, at9 = q := ⟨at9.toNat, by omega⟩
          obtain ⟨_, hqm, _⟩ := hasK_at hh
          have hqe : atK P ver k = q := by rw [HHas.out.2, Int.toNat_natCast]
          rw [hqe] at hqm
          have HC := hid (HYes.out k w2 hlt hh J2.out)
          have hne : numK P ver k = (P.t k).N q := by unfold numK; rw [hqe]
          rw [hne, hqe] at HC
          rcases HK3.out with h9 | ⟨bk, ok, rfl, hbk, hx⟩
          · omega
          obtain ⟨_, x1, x2, x3⟩ := hx q hqm
          obtain ⟨au, cu, hue, _, _⟩ := x3
          rw [hue] at x2 HC
          have hb12 := HBA.out.trans (HB2.out.mono HBA.out.size)
          have y1 : w2.cell? ⟨bk, ok + q * 3 + 1, none⟩ = some (.int .i64 ((P.t k).N q)) := by rw [hb12.cell hbk]; exact x1
          have y2 : w2.cell? ⟨bk, ok + q * 3 + 2, none⟩ = some (.slice au ((P.t k).L q) cu) := by rw [hb12.cell hbk]; exact x2
          have hqi : (q : Int) < (P.m k : Int) := by omega
          clear hh hqe hne hx x1 x2 hue hb12
          go_wp2_with fail
          refine Calls.mono HC.out ?_
          rintro e w3 ⟨rfl, hI3⟩
          have JB := hid hI3
          clear hI3 HC p0 p1 p2 y1 y2
          go_wp2
          go_roundw
          case rel => exact ⟨k + 1, by omega, by go_num, JB⟩
          case measure => simp only [intOf]; omega
        · have hh : hasK P ver k = false := by rw [HHas.out.1, decide_eq_false hge, Bool.and_false]
          have JB := hid (HNo.out k _ hlt hh J2.out)
          have hgn : ¬ (at9 ≥ 0) := hge
          clear hh hge
          go_wp2
          go_roundw
          case rel => exact ⟨k + 1, by omega, by go_num, JB⟩
          case measure => simp only [intOf]; omega
    · have hke : np = k := by omega
      subst hke
      have hjn : ¬ (np : Int) < (np : Int) := by omega
      go_wp2
      refine bodyPost_end (results_none rfl _ _ _) rfl ?_
      exact ⟨rfl, J.out⟩

end Go.Proofs.YtjfnpjmhippdoafGreat

/- Rows of cells that a call makes and fills from the front; lists of versions, peers and kept ones read off them. -/
namespace Go.Proofs.YtjfnpjmhippdoafGreat

open Go.RowKit
set_option linter.unusedVariables false

/-- block g is a row of sz cells, the first k of them these -/
def CRow (w : World) (g : Nat) (T : TypeId) (sz k : Nat) (C : Nat → Value) : Prop :=
  ∃ cs : Array Value, w.heap[g]? = some (.cells cs T (0, 0)) ∧ cs.size = sz ∧ ∀ i, i < k → cs[i]? = some (C i)

section

variable {w w' : World} {g : Nat} {T : TypeId} {sz k : Nat} {C : Nat → Value}

theorem CRow.lt (h : CRow w g T sz k C) : g < w.heap.size := by
  obtain ⟨cs, h1, _⟩ := h
  exact (Array.getElem?_eq_some_iff.1 h1).1

theorem CRow.up (h : CRow w g T sz k C) (hb : Below w.heap.size w w') : CRow w' g T sz k C := by
  obtain ⟨cs, h1, h2⟩ := h
  exact ⟨cs, stayB h1 hb, h2⟩

theorem CRow.below {B : Nat} (h : CRow w g T sz k C) (hb : Below B w w') (hg : g < B) : CRow w' g T sz k C := by
  obtain ⟨cs, h1, h2⟩ := h
  exact ⟨cs, by rw [hb.block _ hg]; exact h1, h2⟩

theorem CRow.room (h : CRow w g T sz k C) {i : Nat} (hi : i < sz) : (∃ u, w.cell? ⟨g, i, none⟩ = some u) ∧ w.frozen? ⟨g, i, none⟩ = false := by
  obtain ⟨cs, h1, h2, h3⟩ := h
  exact ⟨⟨cs[i]'(by omega), cell_at h1 (by simp [show i < cs.size by omega])⟩, frozen_at h1⟩

theorem CRow.free (h : CRow w g T sz k C) (i : Nat) : w.frozen? ⟨g, i, none⟩ = false := by
  obtain ⟨cs, h1, h2, h3⟩ := h
  exact frozen_at h1

theorem CRow.cell (h : CRow w g T sz k C) {i : Nat} (hi : i < k) : w.cell? ⟨g, i, none⟩ = some (C i) := by
  obtain ⟨cs, h1, h2, h3⟩ := h
  exact cell_at h1 (h3 i hi)

theorem CRow.put (h : CRow w g T sz k C) (hk : k < sz) {u : Value} (hu : u = C k) : CRow (w.setCell ⟨g, k, none⟩ u) g T sz (k + 1) C := by
  obtain ⟨cs, h1, h2, h3⟩ := h
  refine ⟨cs.setIfInBounds k u, by simp [World.setCell, Array.getElem?_modify, h1], by simpa using h2, fun i hi => ?_⟩
  rw [Array.getElem?_setIfInBounds]
  by_cases e : k = i
  · subst e
    rw [if_pos rfl, if_pos (by omega), hu]
  · rw [if_neg e]
    exact h3 i (by omega)

theorem CRow.other (h : CRow w g T sz k C) {g' o : Nat} (hg : g ≠ g') (u : Value) : CRow (w.setCell ⟨g', o, none⟩ u) g T sz k C := by
  obtain ⟨cs, h1, h2⟩ := h
  exact ⟨cs, by rw [Below.heap_setCell _ _ _ _ (by show g ≠ g'; exact hg)]; exact h1, h2⟩

theorem CRow.congr (h : CRow w g T sz k C) {C' : Nat → Value} (e : ∀ i, i < k → C i = C' i) : CRow w g T sz k C' := by
  obtain ⟨cs, h1, h2, h3⟩ := h
  exact ⟨cs, h1, h2, fun i hi => by rw [h3 i hi, e i hi]⟩

theorem CRow.made {B n size : Nat} {z : Value} (ho : w.ownsRow B T size (.slice (some ⟨g, 0, none⟩) n n) n (madeCells z.cells (n * size)).toList) (C : Nat → Value) : CRow w g T (n * size) 0 C := by
  obtain ⟨hl, h2⟩ := ho
  rcases h2 with ⟨h1, _⟩ | ⟨g', cap, cur, hv, _, hh, hc1, hc2, hsz, hcur⟩
  · cases h1
  · injection hv with e1 _ e3
    injection e1 with e1
    injection e1 with e1
    subst e1 e3
    exact ⟨cur, hh, hsz, fun i hi => by omega⟩

theorem CRow.three (h : CRow w g T sz (k * 3) C) (hk : k * 3 + 3 ≤ sz) {u0 u1 u2 : Value} (e0 : u0 = C (k * 3)) (e1 : u1 = C (k * 3 + 1)) (e2 : u2 = C (k * 3 + 2)) : CRow (((w.setCell ⟨g, k * 3, none⟩ u0).setCell ⟨g, k * 3 + 1, none⟩ u1).setCell ⟨g, k * 3 + 2, none⟩ u2) g T sz ((k + 1) * 3) C := by
  have h1 := ((h.put (by omega) e0).put (by omega) e1).put (by omega) e2
  rw [show (k + 1) * 3 = k * 3 + 1 + 1 + 1 by omega]
  exact h1

theorem CRow.four (h : CRow w g T sz (k * 4) C) (hk : k * 4 + 4 ≤ sz) {u0 u1 u2 u3 : Value} (e0 : u0 = C (k * 4)) (e1 : u1 = C (k * 4 + 1)) (e2 : u2 = C (k * 4 + 2)) (e3 : u3 = C (k * 4 + 3)) : CRow ((((w.setCell ⟨g, k * 4, none⟩ u0).setCell ⟨g, k * 4 + 1, none⟩ u1).setCell ⟨g, k * 4 + 2, none⟩ u2).setCell ⟨g, k * 4 + 3, none⟩ u3) g T sz ((k + 1) * 4) C := by
  have h1 := (((h.put (by omega) e0).put (by omega) e1).put (by omega) e2).put (by omega) e3
  rw [show (k + 1) * 4 = k * 4 + 1 + 1 + 1 + 1 by omega]
  exact h1

end

/-- cell number i of a list of peers -/
def cellP (KV : Nat → Value) (P : Ps) (i : Nat) : Value := if i % 3 = 0 then .bool (P.th (i / 3)) else if i % 3 = 1 then .int .i64 (P.rm (i / 3)) else KV (i / 3)
/-- cell number i of a list of kept ones -/
def cellK (UV : Nat → Value) (t : Kt) (i : Nat) : Value := if i % 3 = 0 then .int .i64 (t.V (i / 3)) else if i % 3 = 1 then .int .i64 (t.N (i / 3)) else UV (i / 3)

section

variable {KV : Nat → Value} {P : Ps} {UV PV : Nat → Value} {t : Kt} {b : Bk} {k : Nat}

theorem cellP_at : cellP KV P (k * 3) = .bool (P.th k) ∧ cellP KV P (k * 3 + 1) = .int .i64 (P.rm k) ∧ cellP KV P (k * 3 + 2) = KV k := by
  unfold cellP
  refine ⟨?_, ?_, ?_⟩
  · rw [if_pos (by omega), show k * 3 / 3 = k by omega]
  · rw [if_neg (by omega), if_pos (by omega), show (k * 3 + 1) / 3 = k by omega]
  · rw [if_neg (by omega), if_neg (by omega), show (k * 3 + 2) / 3 = k by omega]

theorem cellK_at : cellK UV t (k * 3) = .int .i64 (t.V k) ∧ cellK UV t (k * 3 + 1) = .int .i64 (t.N k) ∧ cellK UV t (k * 3 + 2) = UV k := by
  unfold cellK
  refine ⟨?_, ?_, ?_⟩
  · rw [if_pos (by omega), show k * 3 / 3 = k by omega]
  · rw [if_neg (by omega), if_pos (by omega), show (k * 3 + 1) / 3 = k by omega]
  · rw [if_neg (by omega), if_neg (by omega), show (k * 3 + 2) / 3 = k by omega]

theorem cellV_at : cellV PV b (k * 4) = PV k ∧ cellV PV b (k * 4 + 1) = .int .i64 (b.nd k) ∧ cellV PV b (k * 4 + 2) = .int .i64 (b.of k) ∧ cellV PV b (k * 4 + 3) = .int .i64 (b.sz k) := by
  unfold cellV
  refine ⟨?_, ?_, ?_, ?_⟩
  · rw [if_pos (by omega), show k * 4 / 4 = k by omega]
  · rw [if_neg (by omega), if_pos (by omega), show (k * 4 + 1) / 4 = k by omega]
  · rw [if_neg (by omega), if_neg (by omega), if_pos (by omega), show (k * 4 + 2) / 4 = k by omega]
  · rw [if_neg (by omega), if_neg (by omega), if_neg (by omega), show (k * 4 + 3) / 4 = k by omega]

theorem cellP_cong {KV' : Nat → Value} (h : ∀ j, j < k → KV j = KV' j) : ∀ i, i < k * 3 → cellP KV P i = cellP KV' P i := fun i hi => by
  unfold cellP
  rw [h (i / 3) (by omega)]

theorem cellK_cong {UV' : Nat → Value} (h : ∀ j, j < k → UV j = UV' j) : ∀ i, i < k * 3 → cellK UV t i = cellK UV' t i := fun i hi => by
  unfold cellK
  rw [h (i / 3) (by omega)]

theorem cellV_cong {PV' : Nat → Value} (h : ∀ j, j < k → PV j = PV' j) : ∀ i, i < k * 4 → cellV PV b i = cellV PV' b i := fun i hi => by
  unfold cellV
  rw [h (i / 4) (by omega)]

end

section

variable {w : World} {g n m : Nat} {KV : Nat → Value} {P : Ps} {UV PV : Nat → Value} {t : Kt} {b : Bk}

theorem CRow.rowP {sz : Nat} (h : CRow w g 45 sz (n * 3) (cellP KV P)) : RowP w g n KV P :=
  ⟨fun k hk => by
    obtain ⟨e0, e1, e2⟩ := cellP_at (KV := KV) (P := P) (k := k)
    exact ⟨by rw [h.cell (by omega), e0], by rw [h.cell (by omega), e1], by rw [h.cell (by omega), e2]⟩, fun i _ => h.free i, h.lt⟩

theorem CRow.kel {sz : Nat} (h : CRow w g 50 sz (m * 3) (cellK UV t)) (hr : m * 40 ≤ 140737488351232) (hi : ∀ j, j < m → IntSl w w.heap.size (UV j) (t.L j) (t.X j)) : KeSl w w.heap.size (.slice (some ⟨g, 0, none⟩) m m) m UV t := by
  refine ⟨_, _, rfl, ⟨Nat.le_refl _, hr⟩, Or.inr ⟨g, 0, rfl, h.lt, fun j hj => ?_⟩⟩
  obtain ⟨e0, e1, e2⟩ := cellK_at (UV := UV) (t := t) (k := j)
  rw [Nat.zero_add]
  exact ⟨by rw [h.cell (by omega), e0], by rw [h.cell (by omega), e1], by rw [h.cell (by omega), e2], hi j hj⟩

theorem CRow.vel {sz : Nat} (h : CRow w g 60 sz (n * 4) (cellV PV b)) (hr : n * 48 ≤ 140737488351232) (hi : ∀ j, j < n → IntSl w w.heap.size (PV j) (b.PL j) (b.PX j)) : VeSl w w.heap.size (.slice (some ⟨g, 0, none⟩) n n) n PV b := by
  refine ⟨_, _, rfl, ⟨Nat.le_refl _, hr⟩, Or.inr ⟨g, 0, rfl, h.lt, fun j hj => ?_⟩⟩
  obtain ⟨e0, e1, e2, e3⟩ := cellV_at (PV := PV) (b := b) (k := j)
  rw [Nat.zero_add]
  exact ⟨by rw [h.cell (by omega), e0], by rw [h.cell (by omega), e1], by rw [h.cell (by omega), e2], by rw [h.cell (by omega), e3], hi j hj⟩

theorem CRow.newV {T : TypeId} {sz k n c : Nat} {C : Nat → Value} {B : Nat} (h : CRow w g T sz k C) (hB : B ≤ g) : NewV B w (.slice (some ⟨g, 0, none⟩) n c) := by
  obtain ⟨cs, h1, _⟩ := h
  exact newV_block h1 hB

/-- a write into a block ahead leaves a list alone -/
theorem KeSl.ahead {w : World} {g o B : Nat} {v : Value} {m : Nat} {UV : Nat → Value} {t : Kt} (h : KeSl w B v m UV t) (ha : Above (g + 1) v) (hu : ∀ j, j < m → Above (g + 1) (UV j)) (u : Value) : KeSl (w.setCell ⟨g, o, none⟩ u) B v m UV t := by
  obtain ⟨ad, cap, rfl, h0, h2⟩ := h
  refine ⟨ad, cap, rfl, h0, ?_⟩
  rcases h2 with h2 | ⟨bl, off, rfl, h4, h5⟩
  · exact Or.inl h2
  · have hg : g + 1 ≤ bl := ha _ _ _ rfl
    refine Or.inr ⟨bl, off, rfl, h4, fun j hj => ?_⟩
    obtain ⟨g1, g2, g3, g4⟩ := h5 j hj
    exact ⟨by rw [cell_set_lit (Or.inl (by omega))]; exact g1, by rw [cell_set_lit (Or.inl (by omega))]; exact g2, by rw [cell_set_lit (Or.inl (by omega))]; exact g3, g4.set (hu j hj) o u⟩

/-- a write into another block leaves a list of versions alone whose parents lie behind that block -/
theorem VeSl.ahead {w : World} {g gv o B : Nat} {n c : Nat} {PV : Nat → Value} {b : Bk} (h : VeSl w B (.slice (some ⟨gv, 0, none⟩) n c) n PV b) (hg : gv ≠ g) (hu : ∀ j, j < n → Above (g + 1) (PV j)) (u : Value) : VeSl (w.setCell ⟨g, o, none⟩ u) B (.slice (some ⟨gv, 0, none⟩) n c) n PV b := by
  obtain ⟨ad, cap, e, h0, h2⟩ := h
  injection e with e1 _ e3
  subst e1 e3
  refine ⟨_, _, rfl, h0, ?_⟩
  rcases h2 with h2 | ⟨bl, off, e, h4, h5⟩
  · exact Or.inl h2
  · injection e with e
    injection e with e5 e6
    subst e5 e6
    refine Or.inr ⟨_, _, rfl, h4, fun j hj => ?_⟩
    obtain ⟨x0, x1, x2, x3, x4⟩ := h5 j hj
    exact ⟨by rw [cell_set_lit (Or.inl hg)]; exact x0, by rw [cell_set_lit (Or.inl hg)]; exact x1, by rw [cell_set_lit (Or.inl hg)]; exact x2, by rw [cell_set_lit (Or.inl hg)]; exact x3, x4.set (hu j hj) o u⟩

/-- the list v lies at or above block B and below block C, in memory that may be written to -/
def NewB (B C : Nat) (w : World) (v : Value) : Prop := ∀ ad n c, v = .slice (some ad) n c → B ≤ ad.block ∧ ad.block < C ∧ ∀ i, w.frozen? ⟨ad.block, i, none⟩ = false

theorem NewB.below {B C : Nat} {w w' : World} {v : Value} (h : NewB B C w v) (hb : Below C w w') : NewB B C w' v := fun ad n c e => by
  obtain ⟨h1, h2, h3⟩ := h ad n c e
  exact ⟨h1, h2, fun i => by rw [← h3 i]; exact World.frozen?_of_block (hb.block _ h2)⟩
theorem NewB.mono {B C C' : Nat} {w : World} {v : Value} (h : NewB B C w v) (hc : C ≤ C') : NewB B C' w v := fun ad n c e => by
  obtain ⟨h1, h2, h3⟩ := h ad n c e
  exact ⟨h1, by omega, h3⟩
theorem NewB.set {B C : Nat} {w : World} {v : Value} (h : NewB B C w v) (a : Addr) (u : Value) : NewB B C (w.setCell a u) v := fun ad n c e => by
  obtain ⟨h1, h2, h3⟩ := h ad n c e
  exact ⟨h1, h2, fun i => by rw [frozen_setN]; exact h3 i⟩
theorem NewB.above {B C : Nat} {w : World} {v : Value} (h : NewB B C w v) : Above B v := fun ad n c e => (h ad n c e).1
theorem NewB.newV {B B' C : Nat} {w : World} {v : Value} (h : NewB B C w v) (hc : C ≤ w.heap.size) (hb : B' ≤ B) : NewV B' w v := fun ad n c e => by
  obtain ⟨h1, h2, h3⟩ := h ad n c e
  exact ⟨by omega, by omega, h3⟩
theorem NewV.newB {B : Nat} {w : World} {v : Value} (h : NewV B w v) : NewB B w.heap.size w v := fun ad n c e => h ad n c e

end

end Go.Proofs.YtjfnpjmhippdoafGreat

/- A map of ints that a call makes itself and counts in. -/
namespace Go.Proofs.YtjfnpjmhippdoafGreat

open Go.RowKit Go.Maps
set_option linter.unusedVariables false

theorem keyedInt : Keyed Tryz.prog 3 := int_keyed Tryz.underlying3

theorem zeroInt (w : World) : (zeroValue 3).run Tryz.prog w = .ok (.int .i64 0) w := by kernel_rfl

/-- block g is a map of at most m entries that tells c of each number -/
def CntM (w : World) (g m : Nat) (c : Int → Int) : Prop := ∃ D : DataW Empty, w.ownsMap Tryz.prog 3 (plainElem Tryz.prog 3) g m D ∧ ∀ x : Int, D.atKey (.int .i64 x) (.lit (.int .i64 0)) = .lit (.int .i64 (c x))

theorem cntM_made (w : World) : CntM (w.alloc (.map #[] 0)) w.heap.size 0 (fun _ => 0) := ⟨_, World.ownsMap_made _ _ _ _, fun x => rfl⟩

theorem cnt_val {D : DataW Empty} {c : Int → Int} (h : ∀ x : Int, D.atKey (.int .i64 x) (.lit (.int .i64 0)) = .lit (.int .i64 (c x))) {x v : Int} (hat : D.atKey (.int .i64 x) (.lit (.int .i64 0)) = .lit (.int .i64 v)) : v = c x := by
  rw [h x] at hat
  injection hat with h1
  injection h1 with _ h2
  exact h2.symm

theorem cntM_put {w w' : World} {g m : Nat} {c : Int → Int} {D : DataW Empty} {x v : Int} (hD : w.ownsMap Tryz.prog 3 (plainElem Tryz.prog 3) g m D) (h : ∀ x : Int, D.atKey (.int .i64 x) (.lit (.int .i64 0)) = .lit (.int .i64 (c x)))
    (ho : w'.ownsMap Tryz.prog 3 (plainElem Tryz.prog 3) g (m + 1) (D.put (.int .i64 x) (.lit (.int .i64 v)))) : CntM w' g (m + 1) (fun y => if y = x then v else c y) := by
  refine ⟨_, ho, fun y => ?_⟩
  by_cases e : y = x
  · subst e
    rw [atKey_put_same hD.isMap (by simp [WideAt.IsKeyLit])]
    simp only [if_true]
  · rw [atKey_put_other (fun h => e (by injection h)), h y]
    simp only [if_neg e]

theorem CntM.kept {w w' : World} {g m : Nat} {c : Int → Int} {row : Option Nat} (h : CntM w g m c) (hg : w.grownBy w' row) (hne : some g ≠ row) : CntM w' g m c := by
  obtain ⟨D, h1, h2⟩ := h
  exact ⟨D, h1.kept hg hne, h2⟩

theorem CntM.up {w w' : World} {g m : Nat} {c : Int → Int} (h : CntM w g m c) (hb : Below w.heap.size w w') : CntM w' g m c := h.kept (grown_of_below hb none) (by intro e; cases e)

theorem CntM.lt {w : World} {g m : Nat} {c : Int → Int} (h : CntM w g m c) : g < w.heap.size := by
  obtain ⟨D, h1, _⟩ := h
  exact h1.lt

/-- a cell lies in no map -/
theorem CntM.ne {w : World} {g m : Nat} {c : Int → Int} (h : CntM w g m c) {a : Addr} {u : Value} (ha : w.cell? a = some u) : a.block ≠ g := by
  obtain ⟨D, ⟨es, clock, hb, _⟩, _⟩ := h
  intro e
  rw [World.cell?, e, hb] at ha
  simp at ha

theorem keyInt {x : Int} (h : 0 ≤ x ∧ x ≤ 1000) : keyOf Tryz.prog 3 (.int .i64 x) = some (.int .i64 x) := keyOf_int_mk Tryz.underlying3 (WalkArith.wf_i64 (by omega))

/-- what 'count' has done to the map behind i of the numbers -/
def Cnted (c ci : Int → Int) (X : Nat → Int) (M i : Nat) : Prop := (∀ x, 0 ≤ ci x ∧ ci x ≤ (M : Int) + i) ∧ ∀ x, ci x = 0 ↔ c x = 0 ∧ ∀ j, j < i → X j ≠ x

theorem Cnted.step {c ci : Int → Int} {X : Nat → Int} {M i : Nat} (h : Cnted c ci X M i) {x : Int} (hx : X i = x) : Cnted c (fun y => if y = x then ci x + 1 else ci y) X M (i + 1) := by
  obtain ⟨h1, h2⟩ := h
  have h3 := h1 x
  refine ⟨fun y => ?_, fun y => ?_⟩
  · have h4 := h1 y
    by_cases e : y = x
    · simp only [if_pos e]; omega
    · simp only [if_neg e]; omega
  · by_cases e : y = x
    · simp only [if_pos e]
      constructor
      · intro h; omega
      · rintro ⟨_, hh⟩; exact absurd (by rw [hx, e]) (hh i (by omega))
    · simp only [if_neg e]
      rw [h2 y]
      constructor
      · rintro ⟨g1, g2⟩
        refine ⟨g1, fun j hj => ?_⟩
        by_cases ej : j = i
        · subst ej; rw [hx]; exact fun h => e h.symm
        · exact g2 j (by omega)
      · rintro ⟨g1, g2⟩; exact ⟨g1, fun j hj => g2 j (by omega)⟩

end Go.Proofs.YtjfnpjmhippdoafGreat
