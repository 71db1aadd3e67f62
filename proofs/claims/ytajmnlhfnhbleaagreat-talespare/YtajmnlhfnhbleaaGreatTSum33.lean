/- Several texts of one proof, in their order. -/
import Derived.Test.YtajmnlhfnhbleaaGreatTSum4
import Derived.Test.YtajmnlhfnhbleaaGreatTSum32
import Derived.Test.YtajmnlhfnhbleaaGreatTSum11
import Derived.Test.YtajmnlhfnhbleaaGreatTSum27
import Derived.Test.YtajmnlhfnhbleaaGreatTSum12
import Derived.Maps.AppendAt

namespace Go.Proofs.YtajmnlhfnhbleaaGreat

open Go.ChangeShapes Go.WideShapes Go.ChangeAt Go.RowKit Go.Deep
set_option linter.unusedVariables false

variable {H : Type} {enc : TypeId × Value → H} {W : World}

theorem Tryz.bytesPeer : Tryz.prog.bytesOf 41 = 40 := by kernel_rfl
theorem Tryz.cellsPeers : Tryz.prog.cellsOf 25 = 1 := by kernel_rfl

theorem peer_cells {fuel : Nat} {cs : List Value} {x : DataW H × List MemPlace} (h : DataW.trod enc Tryz.prog W 0 (fun _ => true) true fuel 41 cs = some x) (hs : ∀ y ∈ x.1.weights Tryz.prog 41, y ≤ reachBytes) :
    ∃ (th : Bool) (room : Int) (vk : Value) (m : Nat) (UV : Nat → Value) (t : Kt), cs = [.bool th, .int .i64 room, vk] ∧ KeSl W W.heap.size vk m UV t := by
  obtain ⟨y0, y1, y2, n, hx, hl, h0, h1, h2⟩ := trod_struct3 Tryz.underlying41 h
  rw [Tryz.cellsPeer] at hl
  rw [Tryz.cellsBool] at h0
  rw [Tryz.cellsInt] at h1
  rw [Tryz.cellsKepts] at h2
  obtain ⟨th, e0, _⟩ := DataW.trod_bool Tryz.underlying4 h0
  obtain ⟨room, e1, _, b1⟩ := DataW.trod_int Tryz.underlying3 h1
  have hd : x.1 = .agg [y0.1, y1.1, y2.1] := congrArg Prod.fst hx
  obtain ⟨vk, m, UV, t, e2, hk⟩ := kepts_cell h2 (fun y hy => hs y (by
    rw [hd]
    simp only [DataW.weights, Tryz.underlying41, List.map_cons, List.map_nil, DataW.weightsEach, List.mem_append]
    exact Or.inr (Or.inr (Or.inl hy))))
  refine ⟨th, room, vk, m, UV, t, ?_, hk⟩
  match cs, hl with
  | [u0, u1, u2], _ =>
    simp at e0 e1 e2
    subst e0 e1 e2
    rfl

theorem peers_cell {fuel : Nat} {cs : List Value} {x : DataW H × List MemPlace} (h : DataW.trod enc Tryz.prog W 0 (fun _ => true) true fuel 25 cs = some x) (hs : ∀ y ∈ x.1.weights Tryz.prog 25, y ≤ reachBytes) :
    ∃ v n KV UV P, cs = [v] ∧ PsSl W W.heap.size v n KV UV P := by
  rcases open_slice Tryz.underlying25 h with ⟨hcs, _⟩ | ⟨ad, len, cap, m, n, D, Pl, hcs, _, hl, hm, hmm, hx, hall⟩
  · exact ⟨_, 0, fun _ => undef, fun _ _ => undef, ⟨fun _ => false, fun _ => 0, fun _ => 0, fun _ => ⟨fun _ => 0, fun _ => 0, fun _ => 0, fun _ _ => 0⟩⟩, hcs, none, 0, rfl, ⟨Nat.le_refl _, by omega⟩, Or.inl rfl⟩
  · simp only [if_true] at hmm
    subst hmm
    have hd : x.1 = .slice ((List.range len).map D) ((List.range (m - len)).map fun j => D (len + j)) := congrArg Prod.fst hx
    rw [Tryz.cellsPeer] at hall
    have each : ∀ i, i < len → ∃ q : Bool × Int × Value × Nat × (Nat → Value) × Kt, W.cell? (Addr.add ad (i * 3)) = some (.bool q.1) ∧ W.cell? (Addr.add ad (i * 3 + 1)) = some (.int .i64 q.2.1) ∧ W.cell? (Addr.add ad (i * 3 + 2)) = some q.2.2.1 ∧ KeSl W W.heap.size q.2.2.1 q.2.2.2.1 q.2.2.2.2.1 q.2.2.2.2.2 := by
      intro i hi
      obtain ⟨cs', h1, h2⟩ := hall i (by omega)
      obtain ⟨_, _, hcell⟩ := World.cells?_some h1
      obtain ⟨th, room, vk, mk, UV, t, e, hX⟩ := peer_cells h2 (fun y hy => hs y (by
        rw [hd]
        simp only [DataW.weights, Tryz.underlying25, List.mem_cons, List.mem_append]
        exact Or.inr (Or.inl (weightsAll_mem (d := D i) (List.mem_map.2 ⟨i, List.mem_range.2 hi, rfl⟩) hy))))
      subst e
      have e0 := hcell 0 (by omega)
      have e1 := hcell 1 (by omega)
      have e2 := hcell 2 (by omega)
      rw [add_add] at e0 e1 e2
      exact ⟨⟨th, room, vk, mk, UV, t⟩, e0, e1, e2, hX⟩
    haveI : Inhabited Kt := ⟨⟨fun _ => 0, fun _ => 0, fun _ => 0, fun _ _ => 0⟩⟩
    obtain ⟨q, hq⟩ := choose_lt each
    have hr : (len + (m - len)) * 40 ≤ 140737488351232 := by
      have h1 := hs ((len + (m - len)) * Tryz.prog.bytesOf 41) (by
        rw [hd]
        simp [DataW.weights, Tryz.underlying25])
      rw [Tryz.bytesPeer] at h1
      simpa [reachBytes] using h1
    refine ⟨_, len, fun i => (q i).2.2.1, fun i => (q i).2.2.2.2.1, ⟨fun i => (q i).1, fun i => (q i).2.1, fun i => (q i).2.2.2.1, fun i => (q i).2.2.2.2.2⟩, hcs, some ad, m, rfl, ⟨hl, by omega⟩, ?_⟩
    by_cases h0 : len = 0
    · exact Or.inl h0
    · obtain ⟨b, off, spot⟩ := ad
      have hspot : spot = none := by simpa [Addr.add] using World.cell?_spot (hq 0 (by omega)).1
      subst hspot
      refine Or.inr ⟨b, off, rfl, ?_, fun j hj => ?_⟩
      · have h1 := cell_lt (hq 0 (by omega)).1
        simpa [Addr.add] using h1
      · obtain ⟨c0, c1, c2, hi⟩ := hq j hj
        rw [Go.WideShapes.add_plain] at c0 c1 c2
        exact ⟨c0, by simpa [Nat.add_assoc] using c1, by simpa [Nat.add_assoc] using c2, hi⟩

end Go.Proofs.YtajmnlhfnhbleaaGreat

namespace Go.Proofs.YtajmnlhfnhbleaaGreat

open Go.ChangeShapes Go.WideShapes Go.ChangeAt Go.RowKit Go.Deep
set_option linter.unusedVariables false

variable {H : Type} {enc : TypeId × Value → H} {W : World}

theorem Tryz.cellsMesh : Tryz.prog.cellsOf 27 = 2 := by kernel_rfl

theorem book_cell {fuel : Nat} {cs : List Value} {x : DataW H × List MemPlace} (h : DataW.trod enc Tryz.prog W 0 (fun _ => true) true fuel 24 cs = some x) (hs : ∀ y ∈ x.1.weights Tryz.prog 24, y ≤ reachBytes) :
    ∃ vs n PV b, cs = [vs] ∧ VeSl W W.heap.size vs n PV b := by
  obtain ⟨y0, n, hx, hl, h0⟩ := trod_struct1 Tryz.underlying24 h
  rw [Tryz.cellsBook] at hl
  rw [Tryz.cellsVers] at h0
  have hd : x.1 = .agg [y0.1] := congrArg Prod.fst hx
  obtain ⟨vs, m, PV, b, e, hv⟩ := vers_cell h0 (fun y hy => hs y (by
    rw [hd]
    simp only [DataW.weights, Tryz.underlying24, List.map_cons, List.map_nil, DataW.weightsEach, List.mem_append]
    exact Or.inl hy))
  refine ⟨vs, m, PV, b, ?_, hv⟩
  match cs, hl with
  | [u0], _ =>
    simp at e
    subst e
    rfl

theorem mesh_arg {v : Value} {d : DataW H} {p : List MemPlace} (h : DataW.Trod enc Tryz.prog W 0 (fun _ => true) true 27 v d p) (hs : ∀ y ∈ d.weights Tryz.prog 27, y ≤ reachBytes) :
    ∃ vb n PV b vl np KV UV P, v = meshV vb vl ∧ VeSl W W.heap.size vb n PV b ∧ PsSl W W.heap.size vl np KV UV P := by
  obtain ⟨fuel, hf⟩ := h
  obtain ⟨y0, y1, n, hx, hl, h0, h1⟩ := trod_struct2 Tryz.underlying27 hf
  rw [Tryz.cellsMesh] at hl
  have hv := agg_of (by omega) hl
  rw [Tryz.cellsBook] at h0
  rw [Tryz.cellsPeers] at h1
  have hd : d = .agg [y0.1, y1.1] := congrArg Prod.fst hx
  obtain ⟨vb, nb, PV, b, e0, hb⟩ := book_cell h0 (fun y hy => hs y (by
    rw [hd]
    simp only [DataW.weights, Tryz.underlying27, List.map_cons, List.map_nil, DataW.weightsEach, List.mem_append]
    exact Or.inl hy))
  obtain ⟨vl, np, KV, UV, P, e1, hp⟩ := peers_cell h1 (fun y hy => hs y (by
    rw [hd]
    simp only [DataW.weights, Tryz.underlying27, List.map_cons, List.map_nil, DataW.weightsEach, List.mem_append]
    exact Or.inr (Or.inl hy)))
  refine ⟨vb, nb, PV, b, vl, np, KV, UV, P, ?_, hb, hp⟩
  rw [hv]
  generalize v.cells = cs at *
  obtain ⟨l⟩ := cs
  match l, hl with
  | [u0, u1], _ =>
    simp at e0 e1
    subst e0 e1
    rfl

theorem bulk_one (d : DataW H) : 1 ≤ Rows.uptoBulk d := by
  rcases d with l | _ | _ | _ | _ | _ | _ | _
  · rcases l <;> simp [Rows.uptoBulk]
  all_goals simp [Rows.uptoBulk]

theorem bulk_len (l : List (DataW H)) : l.length ≤ Rows.uptoBulkAll l := by
  induction l with
  | nil => exact Nat.zero_le _
  | cons x r ih =>
    have h := bulk_one x
    rw [List.length_cons, Rows.uptoBulkAll]
    omega

theorem bulk_part {d : DataW H} {l : List (DataW H)} (h : d ∈ l) : Rows.uptoBulk d ≤ Rows.uptoBulkAll l := by
  induction l with
  | nil => exact absurd h List.not_mem_nil
  | cons x r ih =>
    rw [Rows.uptoBulkAll]
    rcases List.mem_cons.1 h with rfl | h2
    · exact Nat.le_add_right _ _
    · exact Nat.le_trans (ih h2) (Nat.le_add_left _ _)

theorem ints_len {T : TypeId} {a : Option Addr} {len cap : Nat} {d : DataW H} {p : List MemPlace} (ht : Tryz.prog.underlying T = some (.slice 3))
    (h : DataW.Trod enc Tryz.prog W 0 (fun _ => true) true T (.slice a len cap) d p) : len ≤ Rows.uptoBulk d := by
  obtain ⟨fuel, hf⟩ := h
  rcases open_ints ht Tryz.underlying3 Tryz.cellsInt hf with ⟨hcs, _⟩ | ⟨x, l, c, zs, hcs, _, hl, hm, hz, hx, hcell, hwz⟩
  · simp [Value.cells] at hcs
    obtain ⟨rfl, rfl, rfl⟩ := hcs
    exact Nat.zero_le _
  · simp [Value.cells] at hcs
    obtain ⟨rfl, rfl, rfl⟩ := hcs
    simp only [if_true] at hz
    have hd : d = .slice (lits .i64 (zs.take len)) (lits .i64 (zs.drop len)) := congrArg Prod.fst hx
    rw [hd]
    have h1 := bulk_len (H := H) (lits .i64 (zs.take len))
    have h2 : (lits (H := H) .i64 (zs.take len)).length = len := by simp only [lits, List.length_map, List.length_take]; omega
    simp only [Rows.uptoBulk]
    omega

end Go.Proofs.YtajmnlhfnhbleaaGreat

namespace Go.Proofs.YtajmnlhfnhbleaaGreat

open Go.RowKit Go.Maps CurveMath
set_option linter.unusedVariables false

def CntL (w : World) (g m : Nat) (c : Int → Int) (l : List Int) : Prop := ∃ D : DataW Empty, w.ownsMap Tryz.prog 3 (plainElem Tryz.prog 3) g m D ∧ (∀ x : Int, D.atKey (.int .i64 x) (.lit (.int .i64 0)) = .lit (.int .i64 (c x))) ∧ (∀ x : Int, Maps.has D (.int .i64 x) = decide (x ∈ l)) ∧ Maps.size D = l.length

theorem cntL_made (w : World) : CntL (w.alloc (.map #[] 0)) w.heap.size 0 (fun _ => 0) [] := ⟨_, World.ownsMap_made _ _ _ _, fun x => rfl, fun x => rfl, rfl⟩

theorem cntL_put {w w' : World} {g m : Nat} {c : Int → Int} {l : List Int} {D : DataW Empty} {x v : Int} (hD : w.ownsMap Tryz.prog 3 (plainElem Tryz.prog 3) g m D) (h : ∀ x : Int, D.atKey (.int .i64 x) (.lit (.int .i64 0)) = .lit (.int .i64 (c x)))
    (hh : ∀ x : Int, Maps.has D (.int .i64 x) = decide (x ∈ l)) (hs : Maps.size D = l.length) (ho : w'.ownsMap Tryz.prog 3 (plainElem Tryz.prog 3) g (m + 1) (D.put (.int .i64 x) (.lit (.int .i64 v)))) : CntL w' g (m + 1) (fun y => if y = x then v else c y) (if x ∈ l then l else l ++ [x]) := by
  have hne : ∀ {y : Int}, y ≠ x → Lit.int .i64 y ≠ Lit.int .i64 x := fun hyx e => hyx (by injection e)
  refine ⟨_, ho, fun y => ?_, fun y => ?_, ?_⟩
  · by_cases e : y = x
    · subst e
      rw [atKey_put_same hD.isMap (by simp [WideAt.IsKeyLit])]
      simp only [if_true]
    · rw [atKey_put_other (hne e), h y]
      simp only [if_neg e]
  · by_cases e : y = x
    · subst e
      rw [has_put_same hD.isMap (by simp [WideAt.IsKeyLit])]
      by_cases d : y ∈ l <;> simp [d]
    · rw [has_put_other (hne e), hh y]
      by_cases d : x ∈ l <;> simp [d, e]
  · rw [size_put (hD.tidy keyedInt), hh x, hs]
    by_cases d : x ∈ l <;> simp [d]

theorem CntL.up {w w' : World} {g m : Nat} {c : Int → Int} {l : List Int} (h : CntL w g m c l) (hb : Below w.heap.size w w') : CntL w' g m c l := by
  obtain ⟨D, h1, h2⟩ := h
  exact ⟨D, h1.kept (grown_of_below hb none) (by intro e; cases e), h2⟩

theorem CntL.len_ {w : World} {g m : Nat} {c : Int → Int} {l : List Int} (h : CntL w g m c l) : (Builtin.len_ #[102] 3 #[.map (some g)]).run Tryz.prog w = .ok (.int .i64 ((l.length : Nat) : Int)) w := by
  obtain ⟨D, h1, _, _, h2⟩ := h
  rw [← h2]
  exact h1.len Tryz.underlying102 3

theorem thN_succ {n : Nat} {b : Bk} {np : Nat} {P : Ps} (hR : MeshR n b np P) (v : Int) {k : Nat} (hk : k < np) : thN P v (k + 1) = if hasK P v k = true then (if numK P v k ∈ thN P v k then thN P v k else thN P v k ++ [numK P v k]) else thN P v k := by
  have h := thAll_has hR v hk
  by_cases hh : hasK P v k = true
  · rw [if_pos hh]
    rw [hh, Bool.true_and] at h
    by_cases hs : numK P v k ∈ thN P v k
    · rw [if_pos hs]
      rw [(seen_thN P v k _).2 hs, Bool.not_true, if_neg (by decide)] at h
      unfold thN
      rw [h]
    · have h9 : seenN P (thAll P v k) (numK P v k) = false := by
        cases e : seenN P (thAll P v k) (numK P v k) with
        | false => rfl
        | true => exact absurd ((seen_thN P v k _).1 e) hs
      rw [if_neg hs]
      rw [h9, Bool.not_false, if_pos rfl] at h
      unfold thN
      rw [h, List.map_append]
      rfl
  · have hf : hasK P v k = false := by simpa using hh
    rw [if_neg hh]
    rw [hf, Bool.false_and, if_neg (by decide)] at h
    unfold thN
    rw [h]

structure SpI (W wr : World) (gm : Nat) (P : Ps) (v : Int) (k : Nat) : Prop where
  below : Below W.heap.size W wr
  ge : W.heap.size ≤ gm ∧ gm < wr.heap.size
  map : ∃ c : Int → Int, CntL wr gm k c (thN P v k) ∧ ∀ x, 0 ≤ c x ∧ c x ≤ (k : Int)

theorem CntL.mono {w : World} {g m m' : Nat} {c : Int → Int} {l : List Int} (h : CntL w g m c l) (hm : m ≤ m') : CntL w g m' c l := by
  obtain ⟨D, h1, h2⟩ := h
  exact ⟨D, h1.mono hm, h2⟩

section

variable {W wr w' : World} {gm : Nat} {P : Ps} {v : Int} {k : Nat}

theorem SpI.up (h : SpI W wr gm P v k) (hb : Below wr.heap.size wr w') : SpI W w' gm P v k := by
  obtain ⟨c, h1, h2⟩ := h.map
  exact ⟨h.below.trans (hb.mono h.below.size), ⟨h.ge.1, Nat.lt_of_lt_of_le h.ge.2 hb.size⟩, c, h1.up hb, h2⟩

theorem SpI.skip (h : SpI W wr gm P v k) (he : thN P v (k + 1) = thN P v k) : SpI W wr gm P v (k + 1) := by
  obtain ⟨c, h1, h2⟩ := h.map
  exact ⟨h.below, h.ge, c, by rw [he]; exact h1.mono (by omega), fun x => by have := h2 x; omega⟩

theorem SpI.put {c : Int → Int} {x y : Int} {D : DataW Empty} (h : SpI W wr gm P v k) (hD : wr.ownsMap Tryz.prog 3 (plainElem Tryz.prog 3) gm k D) (hat : ∀ x : Int, D.atKey (.int .i64 x) (.lit (.int .i64 0)) = .lit (.int .i64 (c x)))
    (hh : ∀ x : Int, Maps.has D (.int .i64 x) = decide (x ∈ thN P v k)) (hs : Maps.size D = (thN P v k).length) (hc : ∀ x, 0 ≤ c x ∧ c x ≤ (k : Int)) (ho : w'.ownsMap Tryz.prog 3 (plainElem Tryz.prog 3) gm (k + 1) (D.put (.int .i64 x) (.lit (.int .i64 y)))) (hg : wr.grownBy w' (some gm)) (hy : y = c x + 1)
    (he : thN P v (k + 1) = if x ∈ thN P v k then thN P v k else thN P v k ++ [x]) : SpI W w' gm P v (k + 1) := by
  refine ⟨h.below.grown hg h.below.size (fun g hgg => by injection hgg with hgg; have := h.ge.1; omega), ⟨h.ge.1, Nat.lt_of_lt_of_le h.ge.2 hg.size⟩, _, by rw [he]; exact cntL_put hD hat hh hs ho, fun z => ?_⟩
  have h1 := hc z
  have h2 := hc x
  by_cases e : z = x
  · simp only [if_pos e]; omega
  · simp only [if_neg e]; omega

end

end Go.Proofs.YtajmnlhfnhbleaaGreat

namespace Go.Proofs.YtajmnlhfnhbleaaGreat

open Go.RowKit Go.Maps CurveMath
set_option linter.unusedVariables false

set_option maxHeartbeats 8000000 in
set_option maxRecDepth 10000 in
theorem tlSpare (vb : Value) (n : Nat) (PV : Nat → Value) (b : Bk) (vl : Value) (np : Nat) (KV : Nat → Value) (UV : Nat → Nat → Value) (P : Ps) (k : Int) (w : World) (hv : VeSl w w.heap.size vb n PV b) (hl : PsSl w w.heap.size vl np KV UV P) :
    Calls Tryz.prog 26 #[meshV vb vl, .int .i64 k] w fun e w' => e = .returned (.tuple #[.int .i64 (spV n b np P k), .int .i64 (verM n b np P k)]) ∧ Below w.heap.size w w' := by
  have hb0 := below_alloc w (.cells #[vb, vl] 27)
  have k1 := heap_alloc_new w (.cells #[vb, vl] 27)
  obtain ⟨W0, hW0⟩ : ∃ W, w.alloc (.cells #[vb, vl] 27) = W := ⟨_, rfl⟩
  rw [hW0] at hb0 k1
  have HV := hid hv
  have HL := hid hl
  obtain ⟨ad, cap0, rfl, _, hxv⟩ := hv
  obtain ⟨al, cl, rfl, _, _⟩ := hl
  have CK := hid (msCheck _ n PV b _ np KV UV P W0 (HV.out.up hb0) (HL.out.up hb0))
  obtain ⟨lv, hlv⟩ : ∃ c, spV n b np P k = c := ⟨_, rfl⟩
  obtain ⟨ve, hve⟩ : ∃ c, verM n b np P k = c := ⟨_, rfl⟩
  rw [hlv, hve]
  unfold spV at hlv
  rw [hve] at hlv
  have HVe := hid hve
  have HLv := hid hlv
  obtain ⟨c, hc⟩ : ∃ c, peersE n b np P = c := ⟨_, rfl⟩
  rw [hc] at CK
  unfold verM at hve
  rw [hc] at hve
  have HVc := hid hve
  have HC := hid hc
  obtain ⟨m0, m1⟩ := two_at k1
  have B0 := hid hb0
  have K1 := hid k1
  have HXv := hid hxv
  clear hb0 k1 hlv hve hxv hc
  unfold meshV at CK
  unfold meshV
  go_enter Tryz.func26, Tryz.ntmps26
  go_wp2_with fail
  refine Calls.mono CK.out ?_
  rintro e W ⟨rfl, hbW⟩
  have B1 := hid (B0.out.trans (hbW.mono B0.out.size))
  have d1 := stayB K1.out hbW
  have D1 := hid d1
  clear hbW m0 m1 CK hW0
  obtain ⟨m0, m1⟩ := two_at d1
  clear d1
  by_cases h0 : c = 0
  · subst h0
    have hve := HVc.out
    rw [if_pos rfl] at hve
    by_cases hlo : k < 0
    · have hne : ¬ (0 ≤ k ∧ k < (n : Int)) := by omega
      rw [if_neg hne] at hve
      subst hve
      have hl0 := HLv.out
      rw [if_neg (by decide)] at hl0
      subst hl0
      clear hne
      go_wp2
      go_ret2
      exact ⟨rfl, B1.out⟩
    · by_cases hhi : k < (n : Int)
      · rw [if_pos ⟨by omega, hhi⟩] at hve
        subst hve
        obtain ⟨q, rfl⟩ : ∃ q : Nat, k = q := ⟨k.toNat, by omega⟩
        obtain ⟨hR, _, _⟩ := verM_ok HVe.out
        have hqn : q < n := by omega
        have HR := hid hR
        have h8 := hR.few
        have hpb := plan_bd hR hqn
        have hl0 := HLv.out
        rw [if_pos rfl] at hl0
        unfold spN at hl0
        rw [Int.toNat_natCast, ← thN_len] at hl0
        obtain ⟨o, ho⟩ : ∃ o : Int, b.nd q = o := ⟨_, rfl⟩
        rw [ho] at hl0 hpb
        have HTl : Hid ((thN P (q : Int) np).length ≤ 8) := by
          have := thAll_len hR (q : Int) np (Nat.le_refl _)
          have h9 := thN_len P (q : Int) np
          unfold thereL at h9
          show _ ≤ _
          omega
        have HOb : Hid (0 ≤ o ∧ o ≤ 100) := by show _ ∧ _; omega
        have HLn := hid hl0
        rcases HXv.out with h0 | ⟨bv, ov, rfl, hbv, hxv⟩
        · omega
        obtain ⟨_, v1, _, _, _⟩ := hxv q hqn
        rw [ho] at v1
        have V1 : Hid (∀ u, Below w.heap.size w u → u.cell? ⟨bv, ov + q * 4 + 1, none⟩ = some (.int .i64 o)) := fun u hu => by rw [hu.cell hbv]; exact v1
        have hnl : ¬ (q : Int) < 0 := hlo
        have hki : (q : Int) < (n : Int) := hhi
        have hge : ¬ (q : Int) ≥ (n : Int) := by omega
        have hd1 : decide (n ≤ q) = false := decide_eq_false (by omega)
        have hd2 : decide ((n : Int) ≤ (q : Int)) = false := decide_eq_false (by omega)
        have hd3 : decide ((q : Int) < 0) = false := decide_eq_false (by omega)
        clear hxv v1 hl0 hR hpb hlo hhi ho
        have hbx := below_alloc W (.map #[] 0)
        have hcm := cntL_made W
        obtain ⟨W4, hW4⟩ : ∃ u, W.alloc (.map #[] 0) = u := ⟨_, rfl⟩
        rw [hW4] at hbx hcm
        have hgl : W.heap.size < W4.heap.size := by rw [← hW4]; simp
        have J0 : Hid (SpI W W4 W.heap.size P (q : Int) 0) := ⟨hbx, ⟨Nat.le_refl _, hgl⟩, _, hcm, fun x => ⟨Int.le_refl _, Int.le_refl _⟩⟩
        obtain ⟨gm, hgm⟩ : ∃ g, W.heap.size = g := ⟨_, rfl⟩
        rw [hgm] at J0
        have D4 := hid (stayB D1.out hbx)
        clear hbx hcm hgl
        obtain ⟨r0, r1⟩ := two_at D4.out
        have hmm := @run_makeMap Tryz.prog
        go_wp2
        clear hmm m0 m1 r0 r1 hW4
        go_loopw [30] (fun iv wr => ∃ i : Nat, i ≤ np ∧ iv = .int .i64 i ∧ Hid (SpI W wr gm P (q : Int) i)) (fun iv _ => np - (intOf iv).toNat)
        case atStart => exact ⟨0, Nat.zero_le _, rfl, J0⟩
        case round =>
          obtain ⟨i, hi, rfl, J⟩ := hrel
          by_cases hlt : i < np
          · have hii : (i : Int) < (np : Int) := by omega
            have BJ := hid (B1.out.trans (J.out.below.mono B1.out.size))
            obtain ⟨bl, off, rfl, hbl, g0, g1, g2, g3⟩ := (HL.out.up BJ.out).at hlt
            have G3 := hid g3
            obtain ⟨ak, ck, hke, _, hx9⟩ := g3
            have HX9 := hid hx9
            rw [hke] at g2 G3
            have hbA := below_alloc wr (.cells #[.bool (P.th i), .int .i64 (P.rm i), .slice ak (P.m i) ck] 41)
            have kp := heap_alloc_new wr (.cells #[.bool (P.th i), .int .i64 (P.rm i), .slice ak (P.m i) ck] 41)
            obtain ⟨W1, hW1⟩ : ∃ u, wr.alloc (.cells #[.bool (P.th i), .int .i64 (P.rm i), .slice ak (P.m i) ck] 41) = u := ⟨_, rfl⟩
            rw [hW1] at hbA kp
            have HBA := hid hbA
            obtain ⟨p0, p1, p2⟩ := three_at kp
            have KP := hid kp
            have JA := hid (J.out.up hbA)
            have CF := hid (peFind (P.th i) (P.rm i) _ (P.m i) (UV i) (P.t i) (q : Int) W1 (G3.out.up hbA))
            obtain ⟨fa, hfa⟩ : ∃ x, fstAt (P.t i).V (q : Int) (P.m i) 0 = x := ⟨_, rfl⟩
            rw [hfa] at CF
            have hst := thN_succ HR.out (q : Int) hlt
            have hhk : hasK P (q : Int) i = (P.th i && decide (0 ≤ fa)) := by unfold hasK; rw [hfa]
            have hak : atK P (q : Int) i = fa.toNat := by unfold atK; rw [hfa]
            have HSt := hid hst
            have HHk := hid hhk
            have HAk := hid hak
            have HFa := hid hfa
            unfold peerV at CF
            clear hbA kp hke hst hhk hak hfa J G3 hx9
            go_wp2_with fail
            refine Calls.mono CF.out ?_
            rintro e w2 ⟨rfl, hb2⟩
            have JB := hid (JA.out.up hb2)
            have d3 := stayB KP.out hb2
            have H2 := hid (HBA.out.trans (hb2.mono HBA.out.size))
            clear p0 p1 p2 hb2 CF hW1
            obtain ⟨p0, p1, p2⟩ := three_at d3
            clear d3
            obtain ⟨th, hth⟩ : ∃ t, P.th i = t := ⟨_, rfl⟩
            rw [hth] at p0 HHk
            clear hth
            cases th with
            | false =>
              have hf : hasK P (q : Int) i = false := by rw [HHk.out]; rfl
              have hst := HSt.out
              rw [hf, if_neg (by decide)] at hst
              have HS2 := hid hst
              clear hst hf
              go_wp2
              go_roundw
              case rel => exact ⟨i + 1, by omega, by go_num, JB.out.skip HS2.out⟩
              case measure => simp only [intOf]; omega
            | true =>
              by_cases hf : 0 ≤ fa
              · have hh : hasK P (q : Int) i = true := by rw [HHk.out, decide_eq_true hf]; rfl
                obtain ⟨_, h1, _⟩ := hasK_at hh
                have hnum : 0 ≤ numK P (q : Int) i ∧ numK P (q : Int) i < 8 := HR.out.num i _ hlt h1
                obtain ⟨j, hj⟩ : ∃ j : Nat, fa = (j : Int) := ⟨fa.toNat, by omega⟩
                rw [HAk.out, hj, Int.toNat_natCast] at h1
                have hst := HSt.out
                rw [hh, if_pos rfl] at hst
                unfold numK at hst hnum
                rw [HAk.out, hj, Int.toNat_natCast] at hst hnum
                rcases HX9.out with h9 | ⟨bk, ok, rfl, hbk, hx9⟩
                · omega
                obtain ⟨_, x1, _, _⟩ := hx9 j h1
                obtain ⟨x, hx⟩ : ∃ x, (P.t i).N j = x := ⟨_, rfl⟩
                rw [hx] at x1 hst hnum
                have y1 : w2.cell? ⟨bk, ok + j * 3 + 1, none⟩ = some (.int .i64 x) := by rw [H2.out.cell hbk]; exact x1
                have HS2 := hid hst
                have hxk : 0 ≤ x ∧ x ≤ 1000 := by omega
                have HK := hid (keyInt hxk)
                obtain ⟨c9, ⟨D, hD, hat, hha, hsz⟩, hc9⟩ := JB.out.map
                have HD := hid hD
                have HAt := hid hat
                have HHa := hid hha
                have HSz := hid hsz
                have HC9 := hid hc9
                obtain ⟨cx, hcx⟩ : ∃ cx, c9 x = cx := ⟨_, rfl⟩
                have HCx := hid hcx
                have hbd := hc9 x
                rw [hcx] at hbd
                have hjm : (j : Int) < (P.m i : Int) := by omega
                have hj0 : (j : Int) ≥ 0 := by omega
                subst hj
                clear hh hnum hst hx9 x1 hx hD hat hha hsz hc9 hcx hf
                go_wp2_with (first
                  | (at_lookup; refine wpList_lookup_own_int _ rfl _ _ 102 rfl 3 3 .i64 keyedInt Tryz.underlying102 Tryz.underlying3 (zeroInt _) gm i _ rfl HD.out _ _ rfl HK.out ?_; intro cz hat0 hwc; obtain rfl := (cnt_val HAt.out hat0).trans HCx.out; clear hat0 hwc)
                  | (at_mapUpdate; refine wpList_mapUpdate_own _ rfl _ _ _ 102 rfl 3 3 keyedInt Tryz.underlying102 _ gm i _ rfl HD.out (by unfold maxLen; omega) _ _ _ rfl rfl HK.out _ [] (plainElem_int Tryz.underlying3 (by first | exact wrap64_wf _ | exact WalkArith.wf_i64 (by omega))) ?_; intro w7 hown7 hgrow7; have HO7 := hid hown7; have HG7 := hid hgrow7; clear hown7 hgrow7))
                go_roundw
                case rel => exact ⟨i + 1, by omega, by go_num, JB.out.put HD.out HAt.out HHa.out HSz.out HC9.out HO7.out HG7.out (by rw [HCx.out]) HS2.out⟩
                case measure => simp only [intOf]; omega
              · have hfl : ¬ fa ≥ 0 := hf
                have hfn : hasK P (q : Int) i = false := by rw [HHk.out, decide_eq_false hf]; rfl
                have hst := HSt.out
                rw [hfn, if_neg (by decide)] at hst
                have HS2 := hid hst
                clear hst hfn hf
                go_wp2
                go_roundw
                case rel => exact ⟨i + 1, by omega, by go_num, JB.out.skip HS2.out⟩
                case measure => simp only [intOf]; omega
          · have hie : np = i := by omega
            subst hie
            have hjn : ¬ (np : Int) < (np : Int) := by omega
            have BJ := hid (B1.out.trans (J.out.below.mono B1.out.size))
            have HDr : Hid (Below wr.heap.size wr wr.drew) := drew_below wr
            have v1 := V1.out wr BJ.out
            obtain ⟨m0, m1⟩ := two_at (stayB D1.out J.out.below)
            obtain ⟨c9, hm9, _⟩ := J.out.map
            have HM9 := hid hm9
            clear hm9
            go_wp2_with fail
            have hne : Nonempty (Of (Below wr.heap.size wr)) := ⟨⟨wr, Below.refl _ _⟩⟩
            have F0 : ∀ u : Of (Below wr.heap.size wr), u.val.cell? _ = some _ := fun u => by rw [u.is.cell (cell_lt m0)]; exact m0
            have F1 : ∀ u : Of (Below wr.heap.size wr), u.val.cell? _ = some _ := fun u => by rw [u.is.cell (cell_lt v1)]; exact v1
            have FL : ∀ u : Of (Below wr.heap.size wr), (Builtin.len_ #[102] 3 #[.map (some gm)]).run Tryz.prog u.val = .ok (.int .i64 (((thN P (q : Int) np).length : Nat) : Int)) u.val := fun u => (HM9.out.up u.is).len_
            have hob := HOb.out
            have htl := HTl.out
            refine region_mixed (Below wr.heap.size wr) [] [0, 1, 2, 3, 4, 5, 6, 7, 8, 9, 10, 11, 12] (by kernel_rfl) (by kernel_rfl) HDr.out ?_
            refine mixO_nil (by simp only [pickO, List.getElem?_cons_zero, List.getElem?_cons_succ]; exact rfl) ?_
            repeat (go_big_quiet_step (fail))
            refine wpQuiet_nil ?_
            clear F0 F1 FL hne
            go_wp2
            go_ret2
            exact ⟨by rw [← HLn.out]; rfl, BJ.out.trans (HDr.out.mono BJ.out.size)⟩
      · rw [if_neg (fun h => hhi h.2)] at hve
        subst hve
        have hl0 := HLv.out
        rw [if_neg (by decide)] at hl0
        subst hl0
        have hge : k ≥ (n : Int) := by omega
        clear hhi
        go_wp2
        go_ret2
        exact ⟨rfl, B1.out⟩
  · have hcb : (c != 0) = true := by simpa using h0
    have hve := HVc.out
    rw [if_neg h0] at hve
    subst hve
    have hl0 := HLv.out
    rw [if_neg h0] at hl0
    subst hl0
    clear h0
    go_wp2
    go_ret2
    exact ⟨rfl, B1.out⟩

end Go.Proofs.YtajmnlhfnhbleaaGreat

namespace Go.Proofs.YtajmnlhfnhbleaaGreat

open Go.RowKit Go.Maps CurveMath
set_option linter.unusedVariables false

theorem Tryz.infoLs : (Tryz.prog.info? 28).map (fun i => (i.zero, i.size, i.bytes)) = some (some (.slice none 0 0), 1, 24) := by kernel_rfl

theorem one_ls {w : World} {g : Nat} {x : Value} {T : TypeId} (k : w.heap[g]? = some (.cells #[x] T (0, 0))) : ∀ j u, [x][j]? = some u → w.cell? ((⟨g, 0, none⟩ : Addr).add j) = some u := by
  intro j u hj
  cases j with
  | zero =>
    have e : x = u := by simpa using hj
    rw [← e]
    exact cell_at (i := 0) k rfl
  | succ j => simp at hj

theorem savedL_parts (l : List Hp) : ∀ (m : Ms) (k : List Hp), savedL m (l ++ k) = savedL m l ++ savedL (runM m l) k := by
  induction l with
  | nil => intro m k; rfl
  | cons x l ih => intro m k; simp only [List.cons_append, savedL, ih, List.append_assoc]; rfl

theorem savedL_next (m : Ms) (H : Nat → Hp) (i : Nat) : savedL m (hapL H (i + 1)) = savedL m (hapL H i) ++ (if (H i).kd = 1 ∧ happE (runM m (hapL H i)) (H i) = 0 then [((H i).len, (H i).D)] else []) := by
  rw [hapL_succ, savedL_parts]
  simp only [savedL, List.append_nil]

theorem runS_at (m : Ms) (H : Nat → Hp) {len i : Nat} (hi : i < len) : (runS m (hapL H len)).getD i 0 = happE (runM m (hapL H i)) (H i) := by
  rw [← runS_new, hapL_cut H len (i + 1) (by omega), runS_parts, List.getD_eq_getElem?_getD, List.getD_eq_getElem?_getD, List.getElem?_append_left (by rw [runS_len, hapL_len]; omega)]

theorem savedL_len (l : List Hp) : ∀ m : Ms, (savedL m l).length ≤ l.length := by
  induction l with
  | nil => intro m; exact Nat.le_refl _
  | cons x l ih =>
    intro m
    have := ih (stepM m x)
    simp only [savedL, List.length_append, List.length_cons]
    by_cases c : x.kd = 1 ∧ happE m x = 0
    · rw [if_pos c]; simp; omega
    · rw [if_neg c]; simp; omega

theorem isl_at0 {w : World} {B g n c m : Nat} {X : Nat → Int} (h : IntSl w B (.slice (some ⟨g, 0, none⟩) n c) m X) {j : Nat} (hj : j < m) : w.cell? ⟨g, j, none⟩ = some (.int .i64 (X j)) := by
  obtain ⟨ad, cap, e, _, h2⟩ := h
  injection e with e1
  subst e1
  rcases h2 with h2 | ⟨b, off, e1, _, h5⟩
  · omega
  · injection e1 with e1
    injection e1 with e1 e2
    subst e1 e2
    have := h5 j hj
    rw [Nat.zero_add] at this
    exact this

theorem saved_none {w w' : World} {er : Int} {l : List (Nat × (Nat → Int))} (hb : Below w.heap.size w w') (h0 : er ≠ 0) : SavedPost w er l (.returned (.tuple #[.slice none 0 0, .int .i64 er])) w' :=
  ⟨hb, _, 0, fun _ => undef, rfl, by rw [if_neg h0], none, 0, rfl, ⟨Nat.le_refl _, by omega⟩, Or.inl rfl⟩

set_option maxHeartbeats 8000000 in
set_option maxRecDepth 10000 in
theorem tlSaved (vr : Value) (lr : Nat) (Z : Nat → Int) (vs : Value) (len : Nat) (DV QV : Nat → Value) (H : Nat → Hp) (w : World) (hr : IntSl w w.heap.size vr lr Z) (hlr : lr ≤ 1048576) (hs : HpSl w w.heap.size vs len DV QV H) :
    Calls Tryz.prog 25 #[vr, vs] w (SavedPost w (savE lr Z len) (savedL ⟨0, noB, lr, freshP Z⟩ (hapL H len))) := by
  have HS := hid hs
  have CK := hid (msNew _ lr Z w hr hlr)
  obtain ⟨ar, cr, rfl, _, _⟩ := hr
  obtain ⟨asl, csl, rfl, ⟨hsc, hsb⟩, _⟩ := hs
  obtain ⟨ie, hie, hez0, hez1, hez2⟩ := info_parts Tryz.infoLs
  obtain ⟨en, hen⟩ : ∃ c, newE lr Z = c := ⟨_, rfl⟩
  obtain ⟨er, her⟩ : ∃ c, savE lr Z len = c := ⟨_, rfl⟩
  obtain ⟨M, hM⟩ : ∃ m : Ms, (⟨0, noB, lr, freshP Z⟩ : Ms) = m := ⟨_, rfl⟩
  rw [hen] at CK
  rw [her, hM]
  unfold savE at her
  rw [hen] at her
  have HEn := hid hen
  have HEr := hid her
  have HM := hid hM
  clear hen her hM
  go_enter Tryz.func25, Tryz.ntmps25
  go_wp2_with fail
  refine Calls.mono CK.out ?_
  rintro e u1 hMp
  obtain ⟨hb, a1, n1, c1, PV1, l1, np1, d1, KV1, UV1, rfl, hn1, hnp1, hv9, hl9⟩ := mesh_open hMp.old
  clear hMp CK
  have HN1 := hid hn1
  have HP1 := hid hnp1
  have hb1 := below_alloc u1 (.cells #[.slice none 0 0, .slice none 0 0] 27)
  have k0 := heap_alloc_new u1 (.cells #[.slice none 0 0, .slice none 0 0] 27)
  replace hv9 := hv9.up hb1
  replace hl9 := hl9.up hb1
  obtain ⟨V1, hV1⟩ : ∃ v, World.alloc u1 (.cells #[.slice none 0 0, .slice none 0 0] 27) = v := ⟨_, rfl⟩
  rw [hV1] at k0 hv9 hl9 hb1
  have hb2 : Below u1.heap.size u1 (put2 V1 u1.heap.size (.slice a1 n1 c1) (.slice l1 np1 d1)) := put2_below hb1 (Nat.le_refl _)
  obtain ⟨gy, hgy⟩ : ∃ g, u1.heap.size = g := ⟨_, rfl⟩
  rw [hgy] at k0
  rw [show put2 V1 u1.heap.size (.slice a1 n1 c1) (.slice l1 np1 d1) = put2 V1 gy (.slice a1 n1 c1) (.slice l1 np1 d1) by rw [hgy]] at hb2
  have bx : MsAt (put2 V1 gy (.slice a1 n1 c1) (.slice l1 np1 d1)) gy _ _ _ _ _ _ _ _ _ _ _ := pt_store k0 hv9 hl9
  obtain ⟨q0, q1⟩ := two_at k0
  have f0 := frozen_at (i := 0) k0
  have f1 := frozen_at (i := 1) k0
  obtain ⟨Y1, hY1⟩ : ∃ y, put2 V1 gy (.slice a1 n1 c1) (.slice l1 np1 d1) = y := ⟨_, rfl⟩
  rw [hY1] at hb2 bx
  unfold put2 at hY1
  have HB1 := hid (hb.trans (hb2.mono hb.size))
  have X0 := hid bx
  clear hb hb1 hb2 k0 hv9 hl9 bx hn1 hnp1
  by_cases h0 : en = 0
  · subst h0
    have hn1 := HN1.out
    have hnp1 := HP1.out
    rw [if_pos rfl] at hn1 hnp1
    have hnp2 := hnp1.symm
    subst hn1 hnp2
    have hM0 : msE M = 0 := by rw [← HM.out]; exact HEn.out
    have HM0 := hid hM0
    have CD := hid (wdRunS _ 0 PV1 noB _ lr KV1 UV1 (freshP Z) _ len DV QV H Y1 X0.out.2.1 X0.out.2.2 (HS.out.up HB1.out))
    rw [HM.out] at CD
    unfold meshV at CD
    obtain ⟨c0, c1⟩ := X0.out.cells
    have her := HEr.out
    rw [if_pos rfl] at her
    clear hM0
    by_cases hlen : len ≤ 100
    · rw [if_pos hlen] at her
      subst her
      rw [runE_of HM0.out hlen] at CD
      obtain ⟨mA, hmA⟩ : ∃ q, runM M (hapL H len) = q := ⟨_, rfl⟩
      obtain ⟨sA, hsA⟩ : ∃ q, runS M (hapL H len) = q := ⟨_, rfl⟩
      rw [hmA, hsA] at CD
      have HSA := hid hsA
      have HSl : Hid (sA.length = len) := by show _ = _; rw [← hsA, runS_len, hapL_len]
      clear hmA hsA
      go_wp2_with fail
      refine Calls.mono CD.out ?_
      rintro e u2 hR
      obtain ⟨hb, ay, cy, PVy, ly, dy, KVy, UVy, gsy, rfl, hv9, hl9, ho9⟩ := run_said hR
      clear hR CD c0 c1 q0 q1 f0 f1 hV1 hY1
      rw [HSl.out] at ho9 ⊢
      have hb1 := below_alloc u2 (.cells #[.slice none 0 0, .slice none 0 0] 27)
      have k0 := heap_alloc_new u2 (.cells #[.slice none 0 0, .slice none 0 0] 27)
      replace ho9 := ho9.up hb1
      obtain ⟨V2, hV2⟩ : ∃ v, World.alloc u2 (.cells #[.slice none 0 0, .slice none 0 0] 27) = v := ⟨_, rfl⟩
      rw [hV2] at k0 ho9 hb1
      have hb2 : Below u2.heap.size u2 (put2 V2 u2.heap.size (.slice ay mA.n cy) (.slice ly mA.np dy)) := put2_below hb1 (Nat.le_refl _)
      obtain ⟨gz, hgz⟩ : ∃ g, u2.heap.size = g := ⟨_, rfl⟩
      rw [hgz] at k0
      rw [show put2 V2 u2.heap.size (.slice ay mA.n cy) (.slice ly mA.np dy) = put2 V2 gz (.slice ay mA.n cy) (.slice ly mA.np dy) by rw [hgz]] at hb2
      have so := isl_put2D k0 ho9 (.slice ay mA.n cy) (.slice ly mA.np dy)
      obtain ⟨q0, q1⟩ := two_at k0
      have f0 := frozen_at (i := 0) k0
      have f1 := frozen_at (i := 1) k0
      obtain ⟨Y2, hY2⟩ : ∃ y, put2 V2 gz (.slice ay mA.n cy) (.slice ly mA.np dy) = y := ⟨_, rfl⟩
      rw [hY2] at hb2 so
      unfold put2 at hY2
      replace hb := hb.trans (hb2.mono hb.size)
      have HB2 := hid (HB1.out.trans (hb.mono HB1.out.size))
      have SO := hid so
      clear hb hb1 hb2 k0 hv9 hl9 ho9 so X0 HB1
      go_wp2
      clear q0 q1 f0 f1 hV2 hY2
      go_loopw [10, 33] (fun vo iv wr => ∃ (i : Nat) (VV : List Value), i ≤ len ∧ iv = .int .i64 i ∧ Hid (LsInv Y2 wr vo VV (savedL M (hapL H i)))) (fun _ iv _ => len - (intOf iv).toNat)
      case atStart => exact ⟨0, [], Nat.zero_le _, rfl, LsInv.nil _⟩
      case round =>
        obtain ⟨i, VV, hi, rfl, J⟩ := hrel
        by_cases hlt : i < len
        · have hii : (i : Int) < (len : Int) := by omega
          have BJ := hid (HB2.out.trans (J.out.below.mono HB2.out.size))
          obtain ⟨bl, off, rfl, hbl, ⟨x0, x1, x2, x3, x4, x5, x6⟩, hat⟩ := (HS.out.up BJ.out).at hlt
          have HAt := hid hat
          obtain ⟨⟨avd, cvd, hvd, _, _⟩, ⟨avp, cvp, hvp, _, _⟩⟩ := hat
          rw [hvd] at x3 HAt
          rw [hvp] at x4 HAt
          obtain ⟨x, hx⟩ : ∃ x, H i = x := ⟨_, rfl⟩
          rw [hx] at x0 x1 x2 x3 x4 x5 x6 HAt
          obtain ⟨Q, hQ⟩ : ∃ Q, runM M (hapL H i) = Q := ⟨_, rfl⟩
          have hsv := savedL_next M H i
          have hsa := runS_at M H hlt
          rw [hQ, hx] at hsv hsa
          rw [HSA.out] at hsa
          have hbU := below_alloc wr (.cells #[.int .i64 x.kd, .int .i64 x.N, .int .i64 x.M, .slice avd x.len cvd, .slice avp x.lp cvp, .int .i64 x.need, .int .i64 x.of] 30)
          have kx := heap_alloc_new wr (.cells #[.int .i64 x.kd, .int .i64 x.N, .int .i64 x.M, .slice avd x.len cvd, .slice avp x.lp cvp, .int .i64 x.need, .int .i64 x.of] 30)
          obtain ⟨U, hU⟩ : ∃ u, wr.alloc (.cells #[.int .i64 x.kd, .int .i64 x.N, .int .i64 x.M, .slice avd x.len cvd, .slice avp x.lp cvp, .int .i64 x.need, .int .i64 x.of] 30) = u := ⟨_, rfl⟩
          rw [hU] at hbU kx
          obtain ⟨bx, hbx⟩ : ∃ q, wr.heap.size = q := ⟨_, rfl⟩
          rw [hbx] at kx
          obtain ⟨y0, _, _, y3, _, _, _⟩ := seven_atC kx
          have HLt : Hid (∀ s, u10.ownBlock = some s → s < U.heap.size) := fun s hs => ((J.out.up hbU).own.lt s hs).2
          replace J := hid (J.out.up hbU)
          have z0 := isl_at0 ((SO.out).up J.out.below) hlt
          obtain ⟨e9, he9⟩ : ∃ c, happE Q x = c := ⟨_, rfl⟩
          rw [hsa, he9] at z0
          rw [he9] at hsv
          have HSv := hid hsv
          have HE9 := hid he9
          obtain ⟨kd, hkd⟩ : ∃ c, x.kd = c := ⟨_, rfl⟩
          rw [hkd] at y0 hU
          have HKd := hid hkd
          have HA9 := hid (HAt.out.up hbU)
          clear hbU hvd hvp hsv hsa hQ he9 kx hkd hx
          rw [HKd.out] at x0
          by_cases c1 : kd = 1
          · subst c1
            by_cases c2 : e9 = 0
            · subst c2
              have hsp : 1 ≤ x.len ∧ x.len ≤ 24 := by
                have h9 := HE9.out
                unfold happE at h9
                rw [if_pos HKd.out] at h9
                have := planOk_spec (splitE_ok (saveE_ok h9).split).1
                omega
              have HSp := hid hsp
              have hsn := HSv.out
              rw [HKd.out, if_pos ⟨rfl, rfl⟩] at hsn
              have HSn := hid hsn
              have hll := savedL_len (hapL H i) M
              rw [hapL_len] at hll
              have HLl := hid hll
              clear hsn hll hsp
              go_wp2_with fail
              refine Calls.mono (clone_isl HA9.out.1 HSp.out.1) ?_
              rintro e u5 ⟨g9, cap9, rfl, hcap9, hrow⟩
              have HX9 := hid (hrow.isl hcap9 (by have := HSp.out; omega))
              have HG9 := hid hrow.ge
              replace J := hid (J.out.up hrow.below)
              clear hrow x0 x1 x2 x3 x4 x5 x6 y0 y3 z0 hU hbx
              have hb1 := below_alloc u5 (.cells #[.slice (some ⟨g9, 0, none⟩) x.len cap9] 28)
              have k0 := heap_alloc_new u5 (.cells #[.slice (some ⟨g9, 0, none⟩) x.len cap9] 28)
              obtain ⟨V7, hV7⟩ : ∃ v, World.alloc u5 (.cells #[.slice (some ⟨g9, 0, none⟩) x.len cap9] 28) = v := ⟨_, rfl⟩
              obtain ⟨g7, hg7⟩ : ∃ g, u5.heap.size = g := ⟨_, rfl⟩
              rw [hV7] at hb1 k0
              rw [hg7] at k0
              have HOf : Hid (∀ s, u10.ownBlock = some s → OfB s x.len (.slice (some ⟨g9, 0, none⟩) x.len cap9)) := fun s hs => by
                have h8 := HLt.out s hs
                have h9 := HG9.out
                refine Or.inr fun ad n c e => ?_
                injection e with e1
                injection e1 with e1
                subst e1
                show g9 ≠ s
                omega
              replace J := hid (J.out.up hb1)
              replace HX9 := hid (HX9.out.up hb1)
              have KN := hid k0
              clear hb1 k0
              go_wp2_with (at_builtin; go_must (refine wpList_append_own_at _ rfl (.tmp 48) (.tmp 52) 53 rfl Y2.heap.size 28 ie (.slice none 0 0) 1 24 Tryz.underlying53 hie hez0 hez1 hez2 rfl (by decide) u10 (savedL M (hapL H i)).length _ rfl J.out.own ⟨g7, 0, none⟩ 1 1 [.slice (some ⟨g9, 0, none⟩) x.len cap9] rfl rfl (one_ls KN.out) (by intro u hu; simp at hu; subst hu; rfl) (by have := HLl.out; unfold maxLen; omega) (by have := HLl.out; omega) J.out.below.size ?_; intro v9 w9 ho9 hg9 _ hat9; have J9 := hid (J.out.grow HX9.out HOf.out hg9 ho9 hat9); clear ho9 hg9 hat9))
              go_roundw
              case rel => exact ⟨i + 1, _, by omega, by go_num, by rw [HSn.out]; exact J9⟩
              case measure => simp only [intOf]; omega
            · have hcb : (e9 == 0) = false := by rw [beq_eq_false_iff_ne]; exact c2
              have hsn := HSv.out
              rw [if_neg (fun q => c2 q.2), List.append_nil] at hsn
              have HSn := hid hsn
              clear hsn c2
              go_wp2
              go_roundw
              case rel => exact ⟨i + 1, _, by omega, by go_num, by rw [HSn.out]; exact J⟩
              case measure => simp only [intOf]; omega
          · have hcb : (kd == 1) = false := by rw [beq_eq_false_iff_ne]; exact c1
            have hsn := HSv.out
            rw [HKd.out, if_neg (fun q => c1 q.1), List.append_nil] at hsn
            have HSn := hid hsn
            clear hsn c1
            go_wp2
            go_roundw
            case rel => exact ⟨i + 1, _, by omega, by go_num, by rw [HSn.out]; exact J⟩
            case measure => simp only [intOf]; omega
        · have hie' : i = len := by omega
          subst hie'
          have hjn : ¬ (i : Int) < (i : Int) := by omega
          have hll := savedL_len (hapL H i) M
          rw [hapL_len] at hll
          have HLi := hid (J.out.lisl (by omega))
          have BJ := hid (HB2.out.trans (J.out.below.mono HB2.out.size))
          clear hll
          go_wp2
          go_ret2
          exact ⟨BJ.out, _, _, _, rfl, by rw [if_pos rfl], HLi.out⟩
    · rw [if_neg hlen] at her
      subst her
      have hrE : runE M len = 1 := by unfold runE; rw [if_pos HM0.out, if_neg hlen]
      rw [hrE] at CD
      clear hrE hlen
      go_wp2_with fail
      refine Calls.mono CD.out ?_
      rintro e u2 hR
      obtain ⟨hb, ay, ny, cy, ly, my, dy, so, no, co, rfl⟩ := run_none hR
      clear hR CD c0 c1 q0 q1 f0 f1 hV1 hY1
      have hb1 := below_alloc u2 (.cells #[.slice none 0 0, .slice none 0 0] 27)
      have k0 := heap_alloc_new u2 (.cells #[.slice none 0 0, .slice none 0 0] 27)
      obtain ⟨V2, hV2⟩ : ∃ v, World.alloc u2 (.cells #[.slice none 0 0, .slice none 0 0] 27) = v := ⟨_, rfl⟩
      rw [hV2] at k0 hb1
      have hb2 : Below u2.heap.size u2 (put2 V2 u2.heap.size (.slice ay ny cy) (.slice ly my dy)) := put2_below hb1 (Nat.le_refl _)
      have HB2 := hid (HB1.out.trans ((hb.trans (hb2.mono hb.size)).mono HB1.out.size))
      obtain ⟨gz, hgz⟩ : ∃ g, u2.heap.size = g := ⟨_, rfl⟩
      rw [hgz] at k0
      obtain ⟨q0, q1⟩ := two_at k0
      have f0 := frozen_at (i := 0) k0
      have f1 := frozen_at (i := 1) k0
      unfold put2 at HB2
      clear hb hb1 hb2 k0
      go_wp2
      go_ret2
      exact saved_none (by rw [hgz] at HB2; exact HB2.out) (by decide)
  · have hcb : (en != 0) = true := by simpa using h0
    have her := HEr.out
    rw [if_neg h0] at her
    subst her
    have H0 := hid h0
    clear h0
    go_wp2
    go_ret2
    exact saved_none HB1.out H0.out

theorem taleOwes : TaleOwes where
  saved := tlSaved
  spare := tlSpare

end Go.Proofs.YtajmnlhfnhbleaaGreat
