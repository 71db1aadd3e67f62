/- Several texts of one proof, in their order. -/
import Derived.Test.YtikchpffkhohlaaGreatASum6
import Derived.Test.YtikchpffkhohlaaGreatASum22
import Derived.Test.YtikchpffkhohlaaGreatASum5
import Derived.Test.YtikchpffkhohlaaGreatASum14
import Derived.Test.YtikchpffkhohlaaGreatASum13
import Derived.Test.YtikchpffkhohlaaGreatASum4

namespace Go.Proofs.YtikchpffkhohlaaGreat

open Go.ChangeShapes Go.WideShapes Go.ChangeAt Go.RowKit Go.Deep
set_option linter.unusedVariables false

variable {H : Type} {enc : TypeId × Value → H} {W : World}

theorem Tryz.cellsMesh : Tryz.prog.cellsOf 27 = 2 := by kernel_rfl

theorem book_cell {fuel : Nat} {cs : List Value} {x : DataW H × List MemPlace} (h : DataW.trod enc Tryz.prog W 0 (fun _ => true) true fuel 24 cs = some x) (hs : ∀ y ∈ x.1.weights Tryz.prog 24, y ≤ reachBytes) :
    ∃ vs n PV b, cs = [vs] ∧ VeSl W W.heap.size vs n PV b := by
  obtain ⟨y0, n, hx, hl, h0⟩ := trod_struct1 Tryz.underlying24 h
  rw [Tryz.cellsBook] at hl
  rw [Tryz.cellsVers] at h0
  have hd : x.1 = .agg [y0.1] := congrArg Prod.fst hx
  obtain ⟨vs, m, PV, b, e, hv⟩ := vers_cell h0 (fun y hy => hs y (by
    rw [hd]
    simp only [DataW.weights, Tryz.underlying24, List.map_cons, List.map_nil, DataW.weightsEach, List.mem_append]
    exact Or.inl hy))
  refine ⟨vs, m, PV, b, ?_, hv⟩
  match cs, hl with
  | [u0], _ =>
    simp at e
    subst e
    rfl

theorem mesh_arg {v : Value} {d : DataW H} {p : List MemPlace} (h : DataW.Trod enc Tryz.prog W 0 (fun _ => true) true 27 v d p) (hs : ∀ y ∈ d.weights Tryz.prog 27, y ≤ reachBytes) :
    ∃ vb n PV b vl np KV UV P, v = meshV vb vl ∧ VeSl W W.heap.size vb n PV b ∧ PsSl W W.heap.size vl np KV UV P := by
  obtain ⟨fuel, hf⟩ := h
  obtain ⟨y0, y1, n, hx, hl, h0, h1⟩ := trod_struct2 Tryz.underlying27 hf
  rw [Tryz.cellsMesh] at hl
  have hv := agg_of (by omega) hl
  rw [Tryz.cellsBook] at h0
  rw [Tryz.cellsPeers] at h1
  have hd : d = .agg [y0.1, y1.1] := congrArg Prod.fst hx
  obtain ⟨vb, nb, PV, b, e0, hb⟩ := book_cell h0 (fun y hy => hs y (by
    rw [hd]
    simp only [DataW.weights, Tryz.underlying27, List.map_cons, List.map_nil, DataW.weightsEach, List.mem_append]
    exact Or.inl hy))
  obtain ⟨vl, np, KV, UV, P, e1, hp⟩ := peers_cell h1 (fun y hy => hs y (by
    rw [hd]
    simp only [DataW.weights, Tryz.underlying27, List.map_cons, List.map_nil, DataW.weightsEach, List.mem_append]
    exact Or.inr (Or.inl hy)))
  refine ⟨vb, nb, PV, b, vl, np, KV, UV, P, ?_, hb, hp⟩
  rw [hv]
  generalize v.cells = cs at *
  obtain ⟨l⟩ := cs
  match l, hl with
  | [u0, u1], _ =>
    simp at e0 e1
    subst e0 e1
    rfl

end Go.Proofs.YtikchpffkhohlaaGreat

namespace Go.Proofs.YtikchpffkhohlaaGreat

open Go.RowKit
set_option linter.unusedVariables false

theorem peFindF (bx : Nat) (ver V N : Int) (uv : Value) (w : World) (hx : w.cell? ⟨bx, 0, none⟩ = some (.int .i64 ver)) (hu : ∃ a l c, uv = .slice a l c) :
    Calls Tryz.prog 60 #[keptV V N uv, .pointer (some ⟨bx, 0, none⟩)] w fun e w' => e = .returned (.bool (decide (V = ver))) ∧ Below w.heap.size w w' := by
  obtain ⟨a, l, c, rfl⟩ := hu
  have hb := below_alloc w (.cells #[.int .i64 V, .int .i64 N, .slice a l c] 55)
  have HB := hid hb
  have c1 : (w.alloc (.cells #[.int .i64 V, .int .i64 N, .slice a l c] 55)).cell? ⟨bx, 0, none⟩ = some (.int .i64 ver) := by rw [hb.cell (cell_lt hx)]; exact hx
  clear hb
  have he : (V == ver) = decide (V = ver) := by by_cases h : V = ver <;> simp [h]
  unfold keptV
  go_enter Tryz.func60, Tryz.ntmps60
  go_wp2
  go_ret
  exact ⟨by first | rfl | rw [← he], HB.out⟩

set_option maxHeartbeats 1000000 in
theorem peIndex (bx : Nat) (ver : Int) (v : Value) (m : Nat) (UV : Nat → Value) (t : Kt) (w : World) (h : KeSl w w.heap.size v m UV t) (hx : w.cell? ⟨bx, 0, none⟩ = some (.int .i64 ver)) :
    Calls Tryz.prog 59 #[v, .func (.func 60) #[] #[.pointer (some ⟨bx, 0, none⟩)]] w fun e w' => e = .returned (.int .i64 (fstAt t.V ver m 0)) ∧ Below w.heap.size w w' := by
  obtain ⟨ad, cap, rfl, ⟨hc, hr⟩, hk⟩ := h
  obtain ⟨ans, hans⟩ : ∃ a, fstAt t.V ver m 0 = a := ⟨_, rfl⟩
  rw [hans]
  have HA := hid hans
  have HX := hid hk
  have HBx := hid hx
  clear hans hk hx
  go_enter Tryz.func59, Tryz.ntmps59
  go_wp2
  go_loopw [8] (fun iv wr => ∃ i : Nat, i ≤ m ∧ iv = .int .i64 i ∧ Hid (Below w.heap.size w wr) ∧ Hid (fstAt t.V ver (m - i) i = ans)) (fun iv _ => m - (intOf iv).toNat)
  case atStart => exact ⟨0, Nat.zero_le _, rfl, Below.refl _ _, HA⟩
  case round =>
    obtain ⟨i, hi, rfl, HB, HS⟩ := hrel
    by_cases hlt : i < m
    · have hii : (i : Int) < (m : Int) := by omega
      rcases HX.out with h0 | ⟨b1, o1, rfl, hb1, hk⟩
      · omega
      obtain ⟨x0, x1, x2, x3⟩ := hk i hlt
      obtain ⟨au, cu, hue, _, _⟩ := x3
      rw [hue] at x2
      have g0 : wr.cell? ⟨b1, o1 + i * 3, none⟩ = some (.int .i64 (t.V i)) := by rw [HB.out.cell hb1]; exact x0
      have g1 : wr.cell? ⟨b1, o1 + i * 3 + 1, none⟩ = some (.int .i64 (t.N i)) := by rw [HB.out.cell hb1]; exact x1
      have g2 : wr.cell? ⟨b1, o1 + i * 3 + 2, none⟩ = some (.slice au (t.L i) cu) := by rw [HB.out.cell hb1]; exact x2
      have hstep := HS.out
      rw [show m - i = (m - (i + 1)) + 1 by omega] at hstep
      simp only [fstAt] at hstep
      obtain ⟨x, hxx⟩ : ∃ x, t.V i = x := ⟨_, rfl⟩
      rw [hxx] at g0 hstep
      have HC := hid (peFindF bx ver x (t.N i) (.slice au (t.L i) cu) wr (by rw [HB.out.cell (cell_lt HBx.out)]; exact HBx.out) ⟨_, _, _, rfl⟩)
      unfold keptV at HC
      clear x0 x1 x2 hk hue hxx
      by_cases hv : ver = x
      · rw [if_pos hv] at hstep
        rw [decide_eq_true hv.symm] at HC
        have HF := hid hstep
        clear hstep hv
        go_wp2_with fail
        refine Calls.mono HC.out ?_
        rintro e w2 ⟨rfl, hb2⟩
        have HB2 := hid (HB.out.trans (hb2.mono HB.out.size))
        clear hb2
        go_wp2
        go_ret
        exact ⟨by rw [← HF.out]; rfl, HB2.out⟩
      · rw [if_neg hv] at hstep
        rw [decide_eq_false (fun h => hv h.symm)] at HC
        have HF := hid hstep
        clear hstep hv
        go_wp2_with fail
        refine Calls.mono HC.out ?_
        rintro e w2 ⟨rfl, hb2⟩
        have HB2 := hid (HB.out.trans (hb2.mono HB.out.size))
        clear hb2
        go_wp2
        go_roundw
        case rel => exact ⟨i + 1, by omega, by go_num, HB2, HF⟩
        case measure => simp only [intOf]; omega
    · have hie : m = i := by omega
      subst hie
      have hst := HS.out
      rw [Nat.sub_self] at hst
      have HFin : Hid ((-1 : Int) = ans) := hst
      clear hst
      go_wp2
      go_ret
      exact ⟨by rw [← HFin.out]; rfl, HB.out⟩

theorem peFind (th : Bool) (room : Int) (v : Value) (m : Nat) (UV : Nat → Value) (t : Kt) (ver : Int) (w : World) (h : KeSl w w.heap.size v m UV t) :
    Calls Tryz.prog 25 #[peerV th room v, .int .i64 ver] w fun e w' => e = .returned (.int .i64 (fstAt t.V ver m 0)) ∧ Below w.heap.size w w' := by
  have hb := ((Below.refl w.heap.size w).alloc (Nat.le_refl _) (.cells #[.bool th, .int .i64 room, v] 47)).alloc (by simp) (.cells #[.int .i64 ver] 3)
  have k2 := heap_two_new w (.cells #[.bool th, .int .i64 room, v] 47) (.cells #[.int .i64 ver] 3)
  have HI := hid (peIndex (w.heap.size + 1) ver v m UV t _ (h.up hb) (cell_at k2 rfl))
  have HB := hid hb
  obtain ⟨ad, cap, rfl, _, _⟩ := h
  clear hb k2
  generalize fstAt t.V ver m 0 = ans at *
  have hmf : ∀ (fn : Fn) (first cap : Array Value) (w : World), (Instr.makeFunc fn first cap).run Tryz.prog w = .ok (.func fn first cap) w := fun _ _ _ _ => rfl
  unfold peerV
  go_enter Tryz.func25, Tryz.ntmps25
  go_wp2_with fail
  refine Calls.mono HI.out ?_
  rintro e w2 ⟨rfl, hb2⟩
  have HB2 := hid (HB.out.trans (hb2.mono HB.out.size))
  clear hb2
  go_wp2
  go_ret
  exact ⟨rfl, HB2.out⟩

end Go.Proofs.YtikchpffkhohlaaGreat

namespace Go.Proofs.YtikchpffkhohlaaGreat

open Go.RowKit CurveMath
set_option linter.unusedVariables false

set_option maxHeartbeats 4000000 in
set_option maxRecDepth 10000 in
theorem auEachA (B : Nat) (w0 : World) (vb : Value) (vl : Value) (np : Nat) (KV : Nat → Value) (UV : Nat → Nat → Value) (P : Ps) (ver : Int) (ga gw : Nat) (I : Nat → World → Prop) (w : World) (hvb : ∃ a n c, vb = .slice a n c) (hl : PsSl w0 B vl np KV UV P) (h8 : np ≤ 1000)
    (hI : ∀ k wr, I k wr → Below B w0 wr ∧ B ≤ wr.heap.size) (hup : ∀ k wr w', I k wr → Below wr.heap.size wr w' → I k w') (hno : ∀ k wr, k < np → hasK P ver k = false → I k wr → I (k + 1) wr)
    (hyes : ∀ k wr, k < np → hasK P ver k = true → I k wr → Calls Tryz.prog 70 #[.int .i64 (k : Int), .agg #[.int .i64 (numK P ver k), UV k (atK P ver k)], .pointer (some ⟨ga, 0, none⟩), .pointer (some ⟨gw, 0, none⟩)] wr fun e w' => e = .returned (.tuple #[]) ∧ I (k + 1) w') (h0 : I 0 w) :
    Calls Tryz.prog 69 #[meshV vb vl, .int .i64 ver, .func (.func 70) #[] #[.pointer (some ⟨ga, 0, none⟩), .pointer (some ⟨gw, 0, none⟩)]] w fun e w' => e = .returned (.tuple #[]) ∧ I np w' := by
  obtain ⟨ab, nb, cb, rfl⟩ := hvb
  have HL := hid hl
  have HI : Hid (∀ k wr, I k wr → Below B w0 wr ∧ B ≤ wr.heap.size) := hI
  have HUp : Hid (∀ k wr w', I k wr → Below wr.heap.size wr w' → I k w') := hup
  have HNo : Hid (∀ k wr, k < np → hasK P ver k = false → I k wr → I (k + 1) wr) := hno
  have HYes := hid hyes
  obtain ⟨al, cl, rfl, _, _⟩ := hl
  have hb0 := below_alloc w (.cells #[.slice ab nb cb, .slice al np cl] 27)
  have k0 := heap_alloc_new w (.cells #[.slice ab nb cb, .slice al np cl] 27)
  have J0 := hid (HUp.out _ _ _ h0 hb0)
  obtain ⟨U, hU⟩ : ∃ u, w.alloc (.cells #[.slice ab nb cb, .slice al np cl] 27) = u := ⟨_, rfl⟩
  rw [hU] at J0 k0
  obtain ⟨c0, c1⟩ := two_at k0
  clear hI hup hno hyes h0 hb0 k0
  unfold meshV
  go_enter Tryz.func69, Tryz.ntmps69
  go_wp2
  clear c0 c1 hU
  go_loopw [12] (fun kv wr => ∃ k : Nat, k ≤ np ∧ kv = .int .i64 k ∧ Hid (I k wr)) (fun kv _ => np - (intOf kv).toNat)
  case atStart => exact ⟨0, Nat.zero_le _, rfl, J0⟩
  case round =>
    obtain ⟨k, hk, rfl, J⟩ := hrel
    by_cases hlt : k < np
    · have hki : (k : Int) < (np : Int) := by omega
      obtain ⟨hbw, hbz⟩ := HI.out _ _ J.out
      obtain ⟨bl, off, rfl, hbl, g0, g1, g2, g3⟩ := ((HL.out.below hbw).mono hbz).at hlt
      have G3 := hid g3
      obtain ⟨ak, ck, hke, _, hk3⟩ := g3
      rw [hke] at g2 G3
      have HK3 := hid hk3
      have hbA := below_alloc wr (.cells #[.bool (P.th k), .int .i64 (P.rm k), .slice ak (P.m k) ck] 47)
      have kp := heap_alloc_new wr (.cells #[.bool (P.th k), .int .i64 (P.rm k), .slice ak (P.m k) ck] 47)
      obtain ⟨W1, hW1⟩ : ∃ u, wr.alloc (.cells #[.bool (P.th k), .int .i64 (P.rm k), .slice ak (P.m k) ck] 47) = u := ⟨_, rfl⟩
      rw [hW1] at hbA kp
      obtain ⟨p0, p1, p2⟩ := three_at kp
      have HBA := hid hbA
      have CS := hid (peFind (P.th k) (P.rm k) _ (P.m k) (UV k) (P.t k) ver W1 (G3.out.up hbA))
      obtain ⟨at9, hat⟩ : ∃ a, fstAt (P.t k).V ver (P.m k) 0 = a := ⟨_, rfl⟩
      have HHas : Hid (hasK P ver k = (P.th k && decide (0 ≤ at9)) ∧ atK P ver k = at9.toNat) := by unfold hasK atK; rw [hat]; exact ⟨rfl, rfl⟩
      rw [hat] at CS
      obtain ⟨t0, ht0⟩ : ∃ t, P.th k = t := ⟨_, rfl⟩
      have HT0 := hid ht0
      unfold peerV at CS
      rw [ht0] at CS p0 kp
      have KP := hid kp
      clear hbA kp hke hat hbw hbz hk3 ht0
      go_wp2_with fail
      refine Calls.mono CS.out ?_
      rintro e w2 ⟨rfl, hb2⟩
      have J2 := hid (HUp.out _ _ _ J.out (HBA.out.trans (hb2.mono HBA.out.size)))
      obtain ⟨p0, p1, p2⟩ := three_at (stayB KP.out hb2)
      have HB2 := hid hb2
      clear hb2 CS
      cases t0 with
      | false =>
        have hh : hasK P ver k = false := by rw [HHas.out.1, HT0.out]; rfl
        have JB := hid (HNo.out k _ hlt hh J2.out)
        clear hh
        go_wp2
        go_roundw
        case rel => exact ⟨k + 1, by omega, by go_num, JB⟩
        case measure => simp only [intOf]; omega
      | true =>
        by_cases hge : 0 ≤ at9
        · have hh : hasK P ver k = true := by rw [HHas.out.1, HT0.out, decide_eq_true hge]; rfl
          obtain ⟨q, rfl⟩ : ∃ q : Nat, at9 = q := ⟨at9.toNat, by omega⟩
          obtain ⟨_, hqm, _⟩ := hasK_at hh
          have hqe : atK P ver k = q := by rw [HHas.out.2, Int.toNat_natCast]
          rw [hqe] at hqm
          have HC := hid (HYes.out k w2 hlt hh J2.out)
          have hne : numK P ver k = (P.t k).N q := by unfold numK; rw [hqe]
          rw [hne, hqe] at HC
          rcases HK3.out with h9 | ⟨bk, ok, rfl, hbk, hx⟩
          · omega
          obtain ⟨_, x1, x2, x3⟩ := hx q hqm
          obtain ⟨au, cu, hue, _, _⟩ := x3
          rw [hue] at x2 HC
          have hb12 := HBA.out.trans (HB2.out.mono HBA.out.size)
          have y1 : w2.cell? ⟨bk, ok + q * 3 + 1, none⟩ = some (.int .i64 ((P.t k).N q)) := by rw [hb12.cell hbk]; exact x1
          have y2 : w2.cell? ⟨bk, ok + q * 3 + 2, none⟩ = some (.slice au ((P.t k).L q) cu) := by rw [hb12.cell hbk]; exact x2
          have hqi : (q : Int) < (P.m k : Int) := by omega
          clear hh hqe hne hx x1 x2 hue hb12
          go_wp2_with fail
          refine Calls.mono HC.out ?_
          rintro e w3 ⟨rfl, hI3⟩
          have JB := hid hI3
          clear hI3 HC p0 p1 p2 y1 y2
          go_wp2
          go_roundw
          case rel => exact ⟨k + 1, by omega, by go_num, JB⟩
          case measure => simp only [intOf]; omega
        · have hh : hasK P ver k = false := by rw [HHas.out.1, decide_eq_false hge, Bool.and_false]
          have JB := hid (HNo.out k _ hlt hh J2.out)
          have hgn : ¬ (at9 ≥ 0) := hge
          clear hh hge
          go_wp2
          go_roundw
          case rel => exact ⟨k + 1, by omega, by go_num, JB⟩
          case measure => simp only [intOf]; omega
    · have hke : np = k := by omega
      subst hke
      have hjn : ¬ (np : Int) < (np : Int) := by omega
      go_wp2
      refine bodyPost_end (results_none rfl _ _ _) rfl ?_
      exact ⟨rfl, J.out⟩

set_option maxHeartbeats 4000000 in
set_option maxRecDepth 10000 in
theorem auEachB (B : Nat) (w0 : World) (vb : Value) (vl : Value) (np : Nat) (KV : Nat → Value) (UV : Nat → Nat → Value) (P : Ps) (ver : Int) (gt : Nat) (I : Nat → World → Prop) (w : World) (hvb : ∃ a n c, vb = .slice a n c) (hl : PsSl w0 B vl np KV UV P) (h8 : np ≤ 1000)
    (hI : ∀ k wr, I k wr → Below B w0 wr ∧ B ≤ wr.heap.size) (hup : ∀ k wr w', I k wr → Below wr.heap.size wr w' → I k w') (hno : ∀ k wr, k < np → hasK P ver k = false → I k wr → I (k + 1) wr)
    (hyes : ∀ k wr, k < np → hasK P ver k = true → I k wr → Calls Tryz.prog 71 #[.int .i64 (k : Int), .agg #[.int .i64 (numK P ver k), UV k (atK P ver k)], .pointer (some ⟨gt, 0, none⟩)] wr fun e w' => e = .returned (.tuple #[]) ∧ I (k + 1) w') (h0 : I 0 w) :
    Calls Tryz.prog 69 #[meshV vb vl, .int .i64 ver, .func (.func 71) #[] #[.pointer (some ⟨gt, 0, none⟩)]] w fun e w' => e = .returned (.tuple #[]) ∧ I np w' := by
  obtain ⟨ab, nb, cb, rfl⟩ := hvb
  have HL := hid hl
  have HI : Hid (∀ k wr, I k wr → Below B w0 wr ∧ B ≤ wr.heap.size) := hI
  have HUp : Hid (∀ k wr w', I k wr → Below wr.heap.size wr w' → I k w') := hup
  have HNo : Hid (∀ k wr, k < np → hasK P ver k = false → I k wr → I (k + 1) wr) := hno
  have HYes := hid hyes
  obtain ⟨al, cl, rfl, _, _⟩ := hl
  have hb0 := below_alloc w (.cells #[.slice ab nb cb, .slice al np cl] 27)
  have k0 := heap_alloc_new w (.cells #[.slice ab nb cb, .slice al np cl] 27)
  have J0 := hid (HUp.out _ _ _ h0 hb0)
  obtain ⟨U, hU⟩ : ∃ u, w.alloc (.cells #[.slice ab nb cb, .slice al np cl] 27) = u := ⟨_, rfl⟩
  rw [hU] at J0 k0
  obtain ⟨c0, c1⟩ := two_at k0
  clear hI hup hno hyes h0 hb0 k0
  unfold meshV
  go_enter Tryz.func69, Tryz.ntmps69
  go_wp2
  clear c0 c1 hU
  go_loopw [12] (fun kv wr => ∃ k : Nat, k ≤ np ∧ kv = .int .i64 k ∧ Hid (I k wr)) (fun kv _ => np - (intOf kv).toNat)
  case atStart => exact ⟨0, Nat.zero_le _, rfl, J0⟩
  case round =>
    obtain ⟨k, hk, rfl, J⟩ := hrel
    by_cases hlt : k < np
    · have hki : (k : Int) < (np : Int) := by omega
      obtain ⟨hbw, hbz⟩ := HI.out _ _ J.out
      obtain ⟨bl, off, rfl, hbl, g0, g1, g2, g3⟩ := ((HL.out.below hbw).mono hbz).at hlt
      have G3 := hid g3
      obtain ⟨ak, ck, hke, _, hk3⟩ := g3
      rw [hke] at g2 G3
      have HK3 := hid hk3
      have hbA := below_alloc wr (.cells #[.bool (P.th k), .int .i64 (P.rm k), .slice ak (P.m k) ck] 47)
      have kp := heap_alloc_new wr (.cells #[.bool (P.th k), .int .i64 (P.rm k), .slice ak (P.m k) ck] 47)
      obtain ⟨W1, hW1⟩ : ∃ u, wr.alloc (.cells #[.bool (P.th k), .int .i64 (P.rm k), .slice ak (P.m k) ck] 47) = u := ⟨_, rfl⟩
      rw [hW1] at hbA kp
      obtain ⟨p0, p1, p2⟩ := three_at kp
      have HBA := hid hbA
      have CS := hid (peFind (P.th k) (P.rm k) _ (P.m k) (UV k) (P.t k) ver W1 (G3.out.up hbA))
      obtain ⟨at9, hat⟩ : ∃ a, fstAt (P.t k).V ver (P.m k) 0 = a := ⟨_, rfl⟩
      have HHas : Hid (hasK P ver k = (P.th k && decide (0 ≤ at9)) ∧ atK P ver k = at9.toNat) := by unfold hasK atK; rw [hat]; exact ⟨rfl, rfl⟩
      rw [hat] at CS
      obtain ⟨t0, ht0⟩ : ∃ t, P.th k = t := ⟨_, rfl⟩
      have HT0 := hid ht0
      unfold peerV at CS
      rw [ht0] at CS p0 kp
      have KP := hid kp
      clear hbA kp hke hat hbw hbz hk3 ht0
      go_wp2_with fail
      refine Calls.mono CS.out ?_
      rintro e w2 ⟨rfl, hb2⟩
      have J2 := hid (HUp.out _ _ _ J.out (HBA.out.trans (hb2.mono HBA.out.size)))
      obtain ⟨p0, p1, p2⟩ := three_at (stayB KP.out hb2)
      have HB2 := hid hb2
      clear hb2 CS
      cases t0 with
      | false =>
        have hh : hasK P ver k = false := by rw [HHas.out.1, HT0.out]; rfl
        have JB := hid (HNo.out k _ hlt hh J2.out)
        clear hh
        go_wp2
        go_roundw
        case rel => exact ⟨k + 1, by omega, by go_num, JB⟩
        case measure => simp only [intOf]; omega
      | true =>
        by_cases hge : 0 ≤ at9
        · have hh : hasK P ver k = true := by rw [HHas.out.1, HT0.out, decide_eq_true hge]; rfl
          obtain ⟨q, rfl⟩ : ∃ q : Nat, at9 = q := ⟨at9.toNat, by omega⟩
          obtain ⟨_, hqm, _⟩ := hasK_at hh
          have hqe : atK P ver k = q := by rw [HHas.out.2, Int.toNat_natCast]
          rw [hqe] at hqm
          have HC := hid (HYes.out k w2 hlt hh J2.out)
          have hne : numK P ver k = (P.t k).N q := by unfold numK; rw [hqe]
          rw [hne, hqe] at HC
          rcases HK3.out with h9 | ⟨bk, ok, rfl, hbk, hx⟩
          · omega
          obtain ⟨_, x1, x2, x3⟩ := hx q hqm
          obtain ⟨au, cu, hue, _, _⟩ := x3
          rw [hue] at x2 HC
          have hb12 := HBA.out.trans (HB2.out.mono HBA.out.size)
          have y1 : w2.cell? ⟨bk, ok + q * 3 + 1, none⟩ = some (.int .i64 ((P.t k).N q)) := by rw [hb12.cell hbk]; exact x1
          have y2 : w2.cell? ⟨bk, ok + q * 3 + 2, none⟩ = some (.slice au ((P.t k).L q) cu) := by rw [hb12.cell hbk]; exact x2
          have hqi : (q : Int) < (P.m k : Int) := by omega
          clear hh hqe hne hx x1 x2 hue hb12
          go_wp2_with fail
          refine Calls.mono HC.out ?_
          rintro e w3 ⟨rfl, hI3⟩
          have JB := hid hI3
          clear hI3 HC p0 p1 p2 y1 y2
          go_wp2
          go_roundw
          case rel => exact ⟨k + 1, by omega, by go_num, JB⟩
          case measure => simp only [intOf]; omega
        · have hh : hasK P ver k = false := by rw [HHas.out.1, decide_eq_false hge, Bool.and_false]
          have JB := hid (HNo.out k _ hlt hh J2.out)
          have hgn : ¬ (at9 ≥ 0) := hge
          clear hh hge
          go_wp2
          go_roundw
          case rel => exact ⟨k + 1, by omega, by go_num, JB⟩
          case measure => simp only [intOf]; omega
    · have hke : np = k := by omega
      subst hke
      have hjn : ¬ (np : Int) < (np : Int) := by omega
      go_wp2
      refine bodyPost_end (results_none rfl _ _ _) rfl ?_
      exact ⟨rfl, J.out⟩

end Go.Proofs.YtikchpffkhohlaaGreat

namespace Go.Proofs.YtikchpffkhohlaaGreat

open Go.RowKit
set_option linter.unusedVariables false

def CRow (w : World) (g : Nat) (T : TypeId) (sz k : Nat) (C : Nat → Value) : Prop :=
  ∃ cs : Array Value, w.heap[g]? = some (.cells cs T (0, 0)) ∧ cs.size = sz ∧ ∀ i, i < k → cs[i]? = some (C i)

section

variable {w w' : World} {g : Nat} {T : TypeId} {sz k : Nat} {C : Nat → Value}

theorem CRow.lt (h : CRow w g T sz k C) : g < w.heap.size := by
  obtain ⟨cs, h1, _⟩ := h
  exact (Array.getElem?_eq_some_iff.1 h1).1

theorem CRow.up (h : CRow w g T sz k C) (hb : Below w.heap.size w w') : CRow w' g T sz k C := by
  obtain ⟨cs, h1, h2⟩ := h
  exact ⟨cs, stayB h1 hb, h2⟩

theorem CRow.room (h : CRow w g T sz k C) {i : Nat} (hi : i < sz) : (∃ u, w.cell? ⟨g, i, none⟩ = some u) ∧ w.frozen? ⟨g, i, none⟩ = false := by
  obtain ⟨cs, h1, h2, h3⟩ := h
  exact ⟨⟨cs[i]'(by omega), cell_at h1 (by simp [show i < cs.size by omega])⟩, frozen_at h1⟩

theorem CRow.free (h : CRow w g T sz k C) (i : Nat) : w.frozen? ⟨g, i, none⟩ = false := by
  obtain ⟨cs, h1, h2, h3⟩ := h
  exact frozen_at h1

theorem CRow.cell (h : CRow w g T sz k C) {i : Nat} (hi : i < k) : w.cell? ⟨g, i, none⟩ = some (C i) := by
  obtain ⟨cs, h1, h2, h3⟩ := h
  exact cell_at h1 (h3 i hi)

theorem CRow.put (h : CRow w g T sz k C) (hk : k < sz) {u : Value} (hu : u = C k) : CRow (w.setCell ⟨g, k, none⟩ u) g T sz (k + 1) C := by
  obtain ⟨cs, h1, h2, h3⟩ := h
  refine ⟨cs.setIfInBounds k u, by simp [World.setCell, Array.getElem?_modify, h1], by simpa using h2, fun i hi => ?_⟩
  rw [Array.getElem?_setIfInBounds]
  by_cases e : k = i
  · subst e
    rw [if_pos rfl, if_pos (by omega), hu]
  · rw [if_neg e]
    exact h3 i (by omega)

theorem CRow.other (h : CRow w g T sz k C) {g' o : Nat} (hg : g ≠ g') (u : Value) : CRow (w.setCell ⟨g', o, none⟩ u) g T sz k C := by
  obtain ⟨cs, h1, h2⟩ := h
  exact ⟨cs, by rw [Below.heap_setCell _ _ _ _ (by show g ≠ g'; exact hg)]; exact h1, h2⟩

theorem CRow.congr (h : CRow w g T sz k C) {C' : Nat → Value} (e : ∀ i, i < k → C i = C' i) : CRow w g T sz k C' := by
  obtain ⟨cs, h1, h2, h3⟩ := h
  exact ⟨cs, h1, h2, fun i hi => by rw [h3 i hi, e i hi]⟩

theorem CRow.made {B n size : Nat} {z : Value} (ho : w.ownsRow B T size (.slice (some ⟨g, 0, none⟩) n n) n (madeCells z.cells (n * size)).toList) (C : Nat → Value) : CRow w g T (n * size) 0 C := by
  obtain ⟨hl, h2⟩ := ho
  rcases h2 with ⟨h1, _⟩ | ⟨g', cap, cur, hv, _, hh, hc1, hc2, hsz, hcur⟩
  · cases h1
  · injection hv with e1 _ e3
    injection e1 with e1
    injection e1 with e1
    subst e1 e3
    exact ⟨cur, hh, hsz, fun i hi => by omega⟩

theorem CRow.three (h : CRow w g T sz (k * 3) C) (hk : k * 3 + 3 ≤ sz) {u0 u1 u2 : Value} (e0 : u0 = C (k * 3)) (e1 : u1 = C (k * 3 + 1)) (e2 : u2 = C (k * 3 + 2)) : CRow (((w.setCell ⟨g, k * 3, none⟩ u0).setCell ⟨g, k * 3 + 1, none⟩ u1).setCell ⟨g, k * 3 + 2, none⟩ u2) g T sz ((k + 1) * 3) C := by
  have h1 := ((h.put (by omega) e0).put (by omega) e1).put (by omega) e2
  rw [show (k + 1) * 3 = k * 3 + 1 + 1 + 1 by omega]
  exact h1

end

def cellP (KV : Nat → Value) (P : Ps) (i : Nat) : Value := if i % 3 = 0 then .bool (P.th (i / 3)) else if i % 3 = 1 then .int .i64 (P.rm (i / 3)) else KV (i / 3)
def cellK (UV : Nat → Value) (t : Kt) (i : Nat) : Value := if i % 3 = 0 then .int .i64 (t.V (i / 3)) else if i % 3 = 1 then .int .i64 (t.N (i / 3)) else UV (i / 3)

section

variable {KV : Nat → Value} {P : Ps} {UV PV : Nat → Value} {t : Kt} {b : Bk} {k : Nat}

theorem cellP_at : cellP KV P (k * 3) = .bool (P.th k) ∧ cellP KV P (k * 3 + 1) = .int .i64 (P.rm k) ∧ cellP KV P (k * 3 + 2) = KV k := by
  unfold cellP
  refine ⟨?_, ?_, ?_⟩
  · rw [if_pos (by omega), show k * 3 / 3 = k by omega]
  · rw [if_neg (by omega), if_pos (by omega), show (k * 3 + 1) / 3 = k by omega]
  · rw [if_neg (by omega), if_neg (by omega), show (k * 3 + 2) / 3 = k by omega]

theorem cellK_at : cellK UV t (k * 3) = .int .i64 (t.V k) ∧ cellK UV t (k * 3 + 1) = .int .i64 (t.N k) ∧ cellK UV t (k * 3 + 2) = UV k := by
  unfold cellK
  refine ⟨?_, ?_, ?_⟩
  · rw [if_pos (by omega), show k * 3 / 3 = k by omega]
  · rw [if_neg (by omega), if_pos (by omega), show (k * 3 + 1) / 3 = k by omega]
  · rw [if_neg (by omega), if_neg (by omega), show (k * 3 + 2) / 3 = k by omega]

theorem cellP_cong {KV' : Nat → Value} (h : ∀ j, j < k → KV j = KV' j) : ∀ i, i < k * 3 → cellP KV P i = cellP KV' P i := fun i hi => by
  unfold cellP
  rw [h (i / 3) (by omega)]

theorem cellK_cong {UV' : Nat → Value} (h : ∀ j, j < k → UV j = UV' j) : ∀ i, i < k * 3 → cellK UV t i = cellK UV' t i := fun i hi => by
  unfold cellK
  rw [h (i / 3) (by omega)]

end

section

variable {w : World} {g n m : Nat} {KV : Nat → Value} {P : Ps} {UV PV : Nat → Value} {t : Kt} {b : Bk}

theorem CRow.rowP {sz : Nat} (h : CRow w g 47 sz (n * 3) (cellP KV P)) : RowP w g n KV P :=
  ⟨fun k hk => by
    obtain ⟨e0, e1, e2⟩ := cellP_at (KV := KV) (P := P) (k := k)
    exact ⟨by rw [h.cell (by omega), e0], by rw [h.cell (by omega), e1], by rw [h.cell (by omega), e2]⟩, fun i _ => h.free i, h.lt⟩

theorem CRow.kel {sz : Nat} (h : CRow w g 55 sz (m * 3) (cellK UV t)) (hr : m * 40 ≤ 140737488351232) (hi : ∀ j, j < m → IntSl w w.heap.size (UV j) (t.L j) (t.X j)) : KeSl w w.heap.size (.slice (some ⟨g, 0, none⟩) m m) m UV t := by
  refine ⟨_, _, rfl, ⟨Nat.le_refl _, hr⟩, Or.inr ⟨g, 0, rfl, h.lt, fun j hj => ?_⟩⟩
  obtain ⟨e0, e1, e2⟩ := cellK_at (UV := UV) (t := t) (k := j)
  rw [Nat.zero_add]
  exact ⟨by rw [h.cell (by omega), e0], by rw [h.cell (by omega), e1], by rw [h.cell (by omega), e2], hi j hj⟩

theorem CRow.newV {T : TypeId} {sz k n c : Nat} {C : Nat → Value} {B : Nat} (h : CRow w g T sz k C) (hB : B ≤ g) : NewV B w (.slice (some ⟨g, 0, none⟩) n c) := by
  obtain ⟨cs, h1, _⟩ := h
  exact newV_block h1 hB

end

end Go.Proofs.YtikchpffkhohlaaGreat

namespace Go.Proofs.YtikchpffkhohlaaGreat

set_option linter.unusedVariables false

variable {P : Program} {D : World → Prop}

theorem anyL_mono {md : Region.Mode} {ops : Array Oper} {sE : Array Bool} {R R' : Act → World → Prop} (hR : ∀ a w, R a w → R' a w) : ∀ (f : Nat) (seen : Array Bool) (a : Act) (w : World), anyL P md ops D sE R f seen a w → anyL P md ops D sE R' f seen a w := by
  intro f
  induction f with
  | zero => intro seen a w h; exact ⟨h.1, hR _ _ h.2⟩
  | succ f ih => intro seen a w h; exact ⟨h.1, fun i hi => wpOp_ends (fun a' w' h' => ⟨h'.1, ih _ a' w' h'.2⟩) (h.2 i hi)⟩

theorem region_tree_to {id : Nat} {Q : Exit → Act → World → Prop} {a : Act} {w : World} {l lc : List Oper} (D : World → Prop) (c : Nat) (sE : Array Bool) (f : Nat) (R : Act → World → Prop) (hm : P.follows .mixedOrders = true) (hE : Region.ready .any l.toArray sE = [c]) (hE2 : Region.ready .any l.toArray (sE.setIfInBounds c true) = []) (hf : f + 1 = l.length) (hc : pickO l [c] = lc) (hcs : (l[c]?).isSome = true)
    (h : anyL P .any l.toArray D sE R f (Array.replicate l.length false) a w.drew) (hR : ∀ a' w', R a' w' → wpList P l.toArray Q lc a' w') : (Code.region id l.toArray true).wp P Q a w :=
  region_tree_last D c sE f hm hE hE2 hf hc hcs (anyL_mono hR _ _ _ _ h)

end Go.Proofs.YtikchpffkhohlaaGreat

namespace Go.Proofs.YtikchpffkhohlaaGreat

open Go.RowKit
set_option linter.unusedVariables false

def lastP (X : Nat → Int) (i : Nat) : Int := if i = 0 then -1 else X (i - 1)

def oneV (k : Int) (m : Nat) (X : Nat → Int) (nd of sz : Int) : Int := if parE k X m 0 (-1) = 0 then chkP nd of sz else parE k X m 0 (-1)

set_option maxHeartbeats 2000000 in
theorem bkOne (k : Nat) (pv : Value) (m : Nat) (X : Nat → Int) (nd of sz : Int) (w : World) (h : IntSl w w.heap.size pv m X) :
    Calls Tryz.prog 137 #[.int .i64 (k : Int), verV pv nd of sz] w fun e w' => e = .returned (.int .i64 (oneV k m X nd of sz)) ∧ Below w.heap.size w w' := by
  have hbA := below_alloc w (.cells #[pv, .int .i64 nd, .int .i64 of, .int .i64 sz] 60)
  obtain ⟨ap, cp, rfl, ⟨hcap, hbig⟩, hpc⟩ := h
  obtain ⟨W, hW⟩ : ∃ W, w.alloc (.cells #[.slice ap m cp, .int .i64 nd, .int .i64 of, .int .i64 sz] 60) = W := ⟨_, rfl⟩
  rw [hW] at hbA
  have s0 : W.cell? ⟨w.heap.size, 0, none⟩ = some (.slice ap m cp) := by rw [← hW]; exact cell_at (heap_alloc_new _ _) rfl
  have s1 : W.cell? ⟨w.heap.size, 1, none⟩ = some (.int .i64 nd) := by rw [← hW]; exact cell_at (heap_alloc_new _ _) rfl
  have s2 : W.cell? ⟨w.heap.size, 2, none⟩ = some (.int .i64 of) := by rw [← hW]; exact cell_at (heap_alloc_new _ _) rfl
  have s3 : W.cell? ⟨w.heap.size, 3, none⟩ = some (.int .i64 sz) := by rw [← hW]; exact cell_at (heap_alloc_new _ _) rfl
  have HBW := hid hbA
  have HPc := hid hpc
  obtain ⟨ans, hans⟩ : ∃ a, oneV k m X nd of sz = a := ⟨_, rfl⟩
  rw [hans]
  unfold oneV at hans
  have HA := hid hans
  clear hbA hpc hans
  unfold verV
  go_enter Tryz.func137, Tryz.ntmps137
  go_wp2
  go_loopw [10] (fun iv wz => ∃ i : Nat, i ≤ m ∧ iv = .int .i64 i ∧ wz = W ∧ Hid (parE k X (m - i) i (lastP X i) = parE k X m 0 (-1))) (fun iv _ => m - (intOf iv).toNat)
  case atStart => exact ⟨0, Nat.zero_le _, rfl, rfl, rfl⟩
  case round =>
    obtain ⟨i, hi, rfl, hwz, HP⟩ := hrel
    subst hwz
    by_cases him : i < m
    · have himi : (i : Int) < (m : Int) := by omega
      rcases HPc.out with h0 | ⟨bp, op, rfl, hbp, hpx⟩
      · omega
      have e0 : wr.cell? ⟨bp, op + i, none⟩ = some (.int .i64 (X i)) := by rw [HBW.out.cell hbp]; exact hpx i him
      have hp := HP.out
      rw [show m - i = (m - (i + 1)) + 1 by omega] at hp
      simp only [parE] at hp
      obtain ⟨x, hxx⟩ : ∃ x, X i = x := ⟨_, rfl⟩
      have hlast : lastP X (i + 1) = x := by unfold lastP; rw [if_neg (by omega)]; exact hxx
      rw [hxx] at e0 hp
      have HLx := hid hlast
      clear hxx hlast
      by_cases c1 : x < 0 ∨ (k : Int) ≤ x
      · rw [if_pos c1] at hp
        have hst := HA.out
        rw [← hp, if_neg (by decide)] at hst
        have HFin := hid hst
        clear hp hst hpx
        by_cases c2 : x < 0
        · go_wp2
          go_ret
          exact ⟨by rw [← HFin.out]; rfl, HBW.out⟩
        · have c3 : (k : Int) ≤ x := by omega
          go_wp2
          go_ret
          exact ⟨by rw [← HFin.out]; rfl, HBW.out⟩
      · rw [if_neg c1] at hp
        have c2 : ¬ x < 0 := fun h => c1 (Or.inl h)
        have c3 : ¬ (k : Int) ≤ x := fun h => c1 (Or.inr h)
        by_cases h0 : i = 0
        · have hz : ¬ 0 < (i : Int) := by omega
          rw [show lastP X i = -1 from if_pos h0, if_neg (by omega)] at hp
          have HP2 := hid hp
          clear hp c1 hpx h0
          go_wp2
          go_roundw
          case rel => exact ⟨i + 1, by omega, by go_num, trivial, by rw [HLx.out]; exact HP2.out⟩
          case measure => simp only [intOf]; omega
        · have hpos : 0 < (i : Int) := by omega
          obtain ⟨j, rfl⟩ : ∃ j, i = j + 1 := ⟨i - 1, by omega⟩
          have e1 : wr.cell? ⟨bp, op + j, none⟩ = some (.int .i64 (X j)) := by rw [HBW.out.cell hbp]; exact hpx j (by omega)
          have hjm : (j : Int) < (m : Int) := by omega
          rw [show lastP X (j + 1) = X j from rfl] at hp
          obtain ⟨y, hyy⟩ : ∃ y, X j = y := ⟨_, rfl⟩
          rw [hyy] at e1 hp
          clear hpx hyy
          by_cases c4 : x ≤ y
          · rw [if_pos c4] at hp
            have hst := HA.out
            rw [← hp, if_neg (by decide)] at hst
            have HFin := hid hst
            clear hp hst c1
            go_wp2
            go_ret
            exact ⟨by rw [← HFin.out]; rfl, HBW.out⟩
          · rw [if_neg c4] at hp
            have HP2 := hid hp
            clear hp c1
            go_wp2
            go_roundw
            case rel => exact ⟨j + 1 + 1, by omega, by go_num, trivial, by rw [HLx.out]; exact HP2.out⟩
            case measure => simp only [intOf]; omega
    · have hie : m = i := by omega
      subst hie
      have hp := HP.out
      rw [Nat.sub_self] at hp
      have hp0 : parE k X m 0 (-1) = 0 := hp.symm
      have hst := HA.out
      rw [hp0, if_pos rfl] at hst
      have HCk := hid (shCheck nd of sz wr)
      rw [hst] at HCk
      clear hp hp0 hst
      unfold planV at HCk
      go_wp2_with fail
      refine Calls.mono HCk.out ?_
      rintro e w5 ⟨rfl, hb5⟩
      have HB5 := hid (HBW.out.trans (hb5.mono HBW.out.size))
      clear hb5
      go_wp2
      go_ret
      exact ⟨rfl, HB5.out⟩

set_option maxHeartbeats 2000000 in
theorem bkCheck (v : Value) (n : Nat) (PV : Nat → Value) (b : Bk) (w : World) (h : VeSl w w.heap.size v n PV b) :
    Calls Tryz.prog 88 #[bookV v] w fun e w' => e = .returned (.int .i64 (bookE n b)) ∧ Below w.heap.size w w' := by
  obtain ⟨ad, cap, rfl, ⟨hcap, hbig⟩, hx⟩ := h
  have hbx := below_alloc w (.cells #[.slice ad n cap] 24)
  have HBx := hid hbx
  have HX := hid hx
  obtain ⟨ans, hans⟩ : ∃ a, bookE n b = a := ⟨_, rfl⟩
  rw [hans]
  unfold bookE at hans
  clear hbx hx
  unfold bookV
  by_cases hn : n ≤ 12
  · rw [if_pos hn] at hans
    have HA := hid hans
    have hni : (n : Int) ≤ 12 := by omega
    clear hans
    go_enter Tryz.func88, Tryz.ntmps88
    go_wp2
    go_loopw [13] (fun iv wr => ∃ k : Nat, k ≤ n ∧ iv = .int .i64 k ∧ Hid (Below w.heap.size w wr) ∧ Hid (scanV b (n - k) k = ans)) (fun iv _ => n - (intOf iv).toNat)
    case atStart => exact ⟨0, Nat.zero_le _, rfl, HBx, HA⟩
    case round =>
      obtain ⟨k, hk, rfl, HB, HS⟩ := hrel
      by_cases hlt : k < n
      · have hki : (k : Int) < (n : Int) := by omega
        rcases HX.out with h0 | ⟨bl, off, rfl, hbl, hx⟩
        · omega
        obtain ⟨x0, x1, x2, x3, x4⟩ := hx k hlt
        have hstep := HS.out
        rw [show n - k = (n - (k + 1)) + 1 by omega] at hstep
        simp only [scanV] at hstep
        have HI : Hid (∀ w', Below w.heap.size w w' → IntSl w' w'.heap.size (PV k) (b.PL k) (b.PX k)) := fun w' hb => x4.up hb
        obtain ⟨ap, cp, hpe, _, _⟩ := x4
        rw [hpe] at x0 HI
        have g0 : wr.cell? ⟨bl, off + k * 4, none⟩ = some (.slice ap (b.PL k) cp) := by rw [HB.out.cell hbl]; exact x0
        have g1 : wr.cell? ⟨bl, off + k * 4 + 1, none⟩ = some (.int .i64 (b.nd k)) := by rw [HB.out.cell hbl]; exact x1
        have g2 : wr.cell? ⟨bl, off + k * 4 + 2, none⟩ = some (.int .i64 (b.of k)) := by rw [HB.out.cell hbl]; exact x2
        have g3 : wr.cell? ⟨bl, off + k * 4 + 3, none⟩ = some (.int .i64 (b.sz k)) := by rw [HB.out.cell hbl]; exact x3
        have hbA := below_alloc wr (.cells #[.slice ap (b.PL k) cp, .int .i64 (b.nd k), .int .i64 (b.of k), .int .i64 (b.sz k)] 60)
        have HBW := hid (HB.out.trans (hbA.mono HB.out.size))
        have HC := hid (bkOne k _ _ _ (b.nd k) (b.of k) (b.sz k) _ (HI.out _ HBW.out))
        rw [show oneV k (b.PL k) (b.PX k) (b.nd k) (b.of k) (b.sz k) = verE b k from rfl] at HC
        obtain ⟨c, hcc⟩ : ∃ c, verE b k = c := ⟨_, rfl⟩
        rw [hcc] at HC hstep
        clear x0 x1 x2 x3 hx hpe hbA hcc
        unfold verV at HC
        by_cases hc0 : c = 0
        · subst hc0
          rw [if_pos rfl] at hstep
          have HNx := hid hstep
          clear hstep
          go_wp2_with fail
          refine Calls.mono HC.out ?_
          rintro e w5 ⟨rfl, hb5⟩
          have HB5 := hid (HBW.out.trans (hb5.mono HBW.out.size))
          clear hb5
          go_wp2
          go_roundw
          case rel => exact ⟨k + 1, by omega, by go_num, HB5, HNx⟩
          case measure => simp only [intOf]; omega
        · rw [if_neg hc0] at hstep
          have HFin := hid hstep
          have hcb : (c != 0) = true := by simpa using hc0
          clear hstep hc0
          go_wp2_with fail
          refine Calls.mono HC.out ?_
          rintro e w5 ⟨rfl, hb5⟩
          have HB5 := hid (HBW.out.trans (hb5.mono HBW.out.size))
          clear hb5
          go_wp2
          go_ret
          exact ⟨by rw [← HFin.out]; rfl, HB5.out⟩
      · have hke : n = k := by omega
        subst hke
        have hst := HS.out
        rw [Nat.sub_self] at hst
        have HFin : Hid ((0 : Int) = ans) := hst
        clear hst
        go_wp2
        go_ret
        exact ⟨by rw [← HFin.out]; rfl, HB.out⟩
  · rw [if_neg hn] at hans
    have HA := hid hans
    have hni : ¬ (n : Int) ≤ 12 := by omega
    clear hans
    go_enter Tryz.func88, Tryz.ntmps88
    go_wp2
    go_ret
    exact ⟨by rw [← HA.out]; rfl, HBx.out⟩

end Go.Proofs.YtikchpffkhohlaaGreat
