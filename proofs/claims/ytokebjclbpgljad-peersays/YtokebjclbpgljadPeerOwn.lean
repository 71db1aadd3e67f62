/- Lists of kept ones that a call makes itself; what a peer keeps without a version. -/
import Derived.Test.YtokebjclbpgljadPeerRef
import Derived.Test.YtokebjclbpgljadPut3
namespace Go.Proofs.Ytokebjclbpgljad
open Go.RowKit
set_option linter.unusedVariables false

/-- the cells of the kept ones at these places -/
def flatI (UV : Nat → Value) (t : Kt) (l : List Nat) : List Value := l.flatMap fun i => [.int .i64 (t.V i), .int .i64 (t.N i), UV i]

theorem flatI_len (UV : Nat → Value) (t : Kt) (l : List Nat) : (flatI UV t l).length = l.length * 3 := by
  induction l with
  | nil => rfl
  | cons x l ih => simp only [flatI, List.flatMap_cons, List.length_append, List.length_cons, List.length_nil] at *; omega

theorem flatI_snoc (UV : Nat → Value) (t : Kt) (l : List Nat) (i : Nat) : flatI UV t (l ++ [i]) = flatI UV t l ++ [.int .i64 (t.V i), .int .i64 (t.N i), UV i] := by
  simp [flatI]

theorem flatI_get (UV : Nat → Value) (t : Kt) : ∀ (l : List Nat) (j : Nat), j < l.length → (flatI UV t l)[j * 3]? = some (.int .i64 (t.V (l.getD j 0))) ∧ (flatI UV t l)[j * 3 + 1]? = some (.int .i64 (t.N (l.getD j 0))) ∧ (flatI UV t l)[j * 3 + 2]? = some (UV (l.getD j 0)) := by
  intro l
  induction l with
  | nil => intro j hj; simp at hj
  | cons x l ih =>
    intro j hj
    have e : flatI UV t (x :: l) = [.int .i64 (t.V x), .int .i64 (t.N x), UV x] ++ flatI UV t l := by simp [flatI]
    rw [e]
    cases j with
    | zero => exact ⟨rfl, rfl, rfl⟩
    | succ j =>
      obtain ⟨h1, h2, h3⟩ := ih j (by simpa using hj)
      have a1 : (j + 1) * 3 = 3 + j * 3 := by omega
      have key : ∀ c, ([Value.int .i64 (t.V x), .int .i64 (t.N x), UV x] ++ flatI UV t l)[3 + j * 3 + c]? = (flatI UV t l)[j * 3 + c]? := fun c => by
        rw [List.getElem?_append_right (by simp; omega)]
        simp only [List.length_cons, List.length_nil]
        congr 1
        omega
      rw [a1]
      refine ⟨?_, ?_, ?_⟩
      · have := key 0; rw [Nat.add_zero, Nat.add_zero] at this; rw [this, h1]; rfl
      · rw [key 1, h2]; rfl
      · rw [key 2, h3]; rfl

/-- those at these places -/
def selT (t : Kt) (l : List Nat) : Kt := ⟨fun j => t.V (l.getD j 0), fun j => t.N (l.getD j 0), fun j => t.L (l.getD j 0), fun j => t.X (l.getD j 0)⟩

/-- an own list of kept ones, those at these places -/
def OwnT (w0 wr : World) (v : Value) (UV : Nat → Value) (t : Kt) (l : List Nat) : Prop := wr.ownsRow w0.heap.size 58 3 v l.length (flatI UV t l) ∧ Below w0.heap.size w0 wr

theorem OwnT.nil (w : World) (UV : Nat → Value) (t : Kt) : OwnT w w (.slice none 0 0) UV t [] := ⟨World.ownsRow_nil _ _ _ _, Below.refl _ _⟩

theorem OwnT.up {w0 wr w' : World} {v : Value} {UV : Nat → Value} {t : Kt} {l : List Nat} (h : OwnT w0 wr v UV t l) (hb : Below wr.heap.size wr w') : OwnT w0 w' v UV t l := ⟨owns_below h.1 hb, h.2.trans (hb.mono h.2.size)⟩

theorem OwnT.push {w0 wr w1 : World} {v v' : Value} {UV : Nat → Value} {t : Kt} {l : List Nat} {i : Nat} (h : OwnT w0 wr v UV t l)
    (ho : w1.ownsRow w0.heap.size 58 3 v' (l.length + 1) (flatI UV t l ++ [.int .i64 (t.V i), .int .i64 (t.N i), UV i])) (hg : wr.grownBy w1 v.ownBlock) : OwnT w0 w1 v' UV t (l ++ [i]) := by
  refine ⟨?_, h.2.grown hg h.2.size (fun g hgg => (h.1.lt g hgg).1)⟩
  rw [List.length_append, flatI_snoc]
  exact ho

theorem rowT_kel {wr : World} {base : Nat} {v : Value} {UV : Nat → Value} {t : Kt} {l : List Nat} (h : wr.ownsRow base 58 3 v l.length (flatI UV t l)) (hr : l.length * 40 ≤ 140737488351232) (hi : ∀ i, i ∈ l → IntSl wr wr.heap.size (UV i) (t.L i) (t.X i)) : KeSl wr wr.heap.size v l.length (fun j => UV (l.getD j 0)) (selT t l) := by
  obtain ⟨hl, h2⟩ := h
  rcases h2 with ⟨rfl, h0⟩ | ⟨g, cap, cur, rfl, hg, hh, hc1, hc2, hsz, hcur⟩
  · rw [h0]; exact ⟨none, 0, rfl, ⟨Nat.le_refl _, by omega⟩, Or.inl rfl⟩
  · refine ⟨_, cap, rfl, ⟨hc1, hr⟩, Or.inr ⟨g, 0, rfl, (Array.getElem?_eq_some_iff.1 hh).1, fun j hj => ?_⟩⟩
    have key : ∀ i u, i < l.length * 3 → (flatI UV t l)[i]? = some u → wr.cell? ⟨g, i, none⟩ = some u := fun i u hi h3 => by
      rw [← hcur, List.getElem?_take, if_pos hi] at h3
      exact cell_at hh (by simpa using h3)
    obtain ⟨q1, q2, q3⟩ := flatI_get UV t l j hj
    rw [Nat.zero_add]
    refine ⟨key _ _ (by omega) q1, key _ _ (by omega) q2, key _ _ (by omega) q3, hi _ ?_⟩
    rw [List.getD_eq_getElem?_getD, List.getElem?_eq_getElem hj]
    exact List.getElem_mem hj

theorem Try.infoKept : (Try.prog.info? 58).map (fun i => (i.zero, i.size, i.bytes)) = some (some (.agg #[.int .i64 0, .int .i64 0, .slice none 0 0]), 3, 40) := by kernel_rfl

theorem cells_three (w : World) (v0 v1 v2 : Value) (T : TypeId) : ∀ j u, ([v0, v1, v2] : List Value)[j]? = some u → (w.alloc (.cells #[v0, v1, v2] T)).cell? (Addr.add ⟨w.heap.size, 0, none⟩ j) = some u := by
  intro j u hj
  rw [Addr.add_lit]
  match j, hj with
  | 0, hj => simp at hj; subst hj; exact cell_at (heap_alloc_new _ _) rfl
  | 1, hj => simp at hj; subst hj; exact cell_at (heap_alloc_new _ _) rfl
  | 2, hj => simp at hj; subst hj; exact cell_at (heap_alloc_new _ _) rfl

/-- the places of all but this version -/
def butL (t : Kt) (ver : Int) (m : Nat) : List Nat := (List.range m).filter fun j => t.V j != ver

theorem butL_succ (t : Kt) (ver : Int) (m : Nat) : butL t ver (m + 1) = butL t ver m ++ (if (t.V m != ver) = true then [m] else []) := by
  unfold butL
  rw [List.range_succ, List.filter_append]
  cases h : (t.V m != ver) <;> simp [h]

theorem butL_len (t : Kt) (ver : Int) (m : Nat) : (butL t ver m).length ≤ m := by
  unfold butL
  refine Nat.le_trans (List.length_filter_le _ _) ?_
  simp

theorem butL_lt {t : Kt} {ver : Int} {m i : Nat} (h : i ∈ butL t ver m) : i < m := by
  unfold butL at h
  exact List.mem_range.1 (List.mem_filter.1 h).1

/-- what a peer is answered as: new lists, or those that came in -/
def PePost (w : World) (th : Bool) (room : Int) (m : Nat) (t : Kt) (e : Ending) (w' : World) : Prop :=
  Below w.heap.size w w' ∧ ∃ (r : Value) (UV : Nat → Value), e = .returned (peerV th room r) ∧ KeSl w' w'.heap.size r m UV t

set_option maxHeartbeats 2000000 in
theorem without_any (th : Bool) (room : Int) (v : Value) (m : Nat) (UV : Nat → Value) (t : Kt) (ver : Int) (w : World) (hm : m ≤ 1000) (h : KeSl w w.heap.size v m UV t) :
    Calls Try.prog 36 #[peerV th room v, .int .i64 ver] w (PePost w th room (butL t ver m).length (selT t (butL t ver m))) := by
  obtain ⟨ad, cap, rfl, ⟨hcap, hbig⟩, hx⟩ := h
  have hb0 := ((Below.refl w.heap.size w).alloc (Nat.le_refl _) (.cells #[.bool th, .int .i64 room, .slice ad m cap] 54)).alloc (by simp) (.cells #[.bool false, .int .i64 0, .slice none 0 0] 54)
  have k1 := heap_two_old w (.cells #[.bool th, .int .i64 room, .slice ad m cap] 54) (.cells #[.bool false, .int .i64 0, .slice none 0 0] 54)
  have k2 := heap_two_new w (.cells #[.bool th, .int .i64 room, .slice ad m cap] 54) (.cells #[.bool false, .int .i64 0, .slice none 0 0] 54)
  obtain ⟨W, hW⟩ : ∃ W, (w.alloc (.cells #[.bool th, .int .i64 room, .slice ad m cap] 54)).alloc (.cells #[.bool false, .int .i64 0, .slice none 0 0] 54) = W := ⟨_, rfl⟩
  rw [hW] at hb0 k1 k2
  have B0 := hid hb0
  have K1 := hid k1
  have K2 := hid k2
  have HX := hid hx
  obtain ⟨p0, p1, p2⟩ := three_at k1
  obtain ⟨ii, hii, hz0, hz1, hz2⟩ := info_parts Try.infoKept
  have hl1 : w.heap.size + 1 < W.heap.size := (Array.getElem?_eq_some_iff.1 k2).1
  have HL1 := hid hl1
  clear hb0 k1 k2 hx hl1
  unfold peerV
  go_enter Try.func36, Try.ntmps36
  go_wp2
  clear p0 p1 p2
  go_loopw [5, 11] (fun vo iv wr => ∃ j : Nat, j ≤ m ∧ iv = .int .i64 j ∧ Hid (OwnT W wr vo UV t (butL t ver j))) (fun _ iv _ => m - (intOf iv).toNat)
  case atStart => exact ⟨0, Nat.zero_le _, rfl, OwnT.nil _ _ _⟩
  case round =>
    obtain ⟨k, hk, rfl, OW⟩ := hrel
    by_cases hlt : k < m
    · have hki : (k : Int) < (m : Int) := by omega
      have BR := hid (B0.out.trans (OW.out.2.mono B0.out.size))
      rcases HX.out with h0 | ⟨bl, off, rfl, hbl, hx⟩
      · omega
      obtain ⟨x0, x1, x2, x3⟩ := hx k hlt
      obtain ⟨ap, cp, hpe, _, _⟩ := x3
      have HPe := hid hpe
      rw [hpe] at x2
      have g0 : wr.cell? ⟨bl, off + k * 3, none⟩ = some (.int .i64 (t.V k)) := by rw [BR.out.cell hbl]; exact x0
      have g1 : wr.cell? ⟨bl, off + k * 3 + 1, none⟩ = some (.int .i64 (t.N k)) := by rw [BR.out.cell hbl]; exact x1
      have g2 : wr.cell? ⟨bl, off + k * 3 + 2, none⟩ = some (.slice ap (t.L k) cp) := by rw [BR.out.cell hbl]; exact x2
      obtain ⟨Z, hZ⟩ : ∃ Z, wr.alloc (.cells #[.int .i64 (t.V k), .int .i64 (t.N k), .slice ap (t.L k) cp] 58) = Z := ⟨_, rfl⟩
      have hbZ : Below wr.heap.size wr Z := by rw [← hZ]; exact below_alloc _ _
      have OZ := hid (OW.out.up hbZ)
      obtain ⟨z0, z1, z2⟩ : Z.cell? ⟨wr.heap.size, 0, none⟩ = _ ∧ Z.cell? ⟨wr.heap.size, 1, none⟩ = _ ∧ Z.cell? ⟨wr.heap.size, 2, none⟩ = _ := three_at (by rw [← hZ]; exact heap_alloc_new wr _)
      have hsc := butL_succ t ver k
      have hll := butL_len t ver k
      have hge : W.heap.size ≤ Z.heap.size := OZ.out.2.size
      clear x0 x1 x2 hx hpe hbZ
      cases hne : (t.V k != ver) with
      | false =>
        rw [hne, if_neg (by decide), List.append_nil] at hsc
        have HSc := hid hsc
        clear hsc
        go_wp2
        go_roundw
        case rel => exact ⟨k + 1, by omega, by go_num, by rw [HSc.out]; exact OZ.out⟩
        case measure => simp only [intOf]; omega
      | true =>
        rw [hne, if_pos rfl] at hsc
        have HSc := hid hsc
        have HCt := hid (cells_three Z (.int .i64 (t.V k)) (.int .i64 (t.N k)) (.slice ap (t.L k) cp) 58)
        clear hsc
        go_wp2_with (at_builtin; go_must (refine wpList_append_own _ rfl (.tmp 19) (.tmp 21) 52 rfl W.heap.size 58 ii (.agg #[.int .i64 0, .int .i64 0, .slice none 0 0]) 3 40 Try.underlying52 hii hz0 hz1 hz2 rfl (by decide) _ _ _ rfl (World.ownsRow.alloc OZ.out.1 _) ⟨_, 0, none⟩ 1 1 [.int .i64 (t.V k), .int .i64 (t.N k), .slice ap (t.L k) cp] rfl rfl HCt.out (by intro u hu; simp at hu; rcases hu with rfl | rfl | rfl <;> rfl) (by unfold maxLen; omega) (by omega) (by simp; omega) ?_; intro v1 w6 ho6 hg6 _; have HO6 := hid ho6; have HG6 := hid hg6; clear ho6 hg6))
        have O6 : OwnT W w6 v1 UV t (butL t ver k ++ [k]) := by
          have hbZ2 := below_alloc Z (.cells #[.int .i64 (t.V k), .int .i64 (t.N k), .slice ap (t.L k) cp] 58)
          refine (OZ.out.up hbZ2).push ?_ HG6.out
          rw [HPe.out]
          exact HO6.out
        go_roundw
        case rel => exact ⟨k + 1, by omega, by go_num, by rw [HSc.out]; exact O6⟩
        case measure => simp only [intOf]; omega
    · have hke : m = k := by omega
      subst hke
      have kk1 : wr.heap[w.heap.size]? = some (.cells #[.bool th, .int .i64 room, .slice ad m cap] 54 (0, 0)) := by rw [OW.out.2.block _ (Array.getElem?_eq_some_iff.1 K1.out).1]; exact K1.out
      have kk2 : wr.heap[w.heap.size + 1]? = some (.cells #[.bool false, .int .i64 0, .slice none 0 0] 54 (0, 0)) := by rw [OW.out.2.block _ (Array.getElem?_eq_some_iff.1 K2.out).1]; exact K2.out
      obtain ⟨p0, p1, p2⟩ := three_at kk1
      obtain ⟨r0, r1, r2⟩ := three_at kk2
      have f2 := frozen_at (i := 2) kk1
      have q0 := frozen_at (i := 0) kk2
      have q1 := frozen_at (i := 1) kk2
      have q2 := frozen_at (i := 2) kk2
      obtain ⟨ao, co, hvo⟩ := owns_sliceV OW.out.1
      subst hvo
      have hll := butL_len t ver m
      go_wp2
      have h1 := HL1.out
      have e1 : (wr.setCell ⟨w.heap.size, 2, none⟩ (.slice ao (butL t ver m).length co)).heap[w.heap.size + 1]? = some (.cells #[.bool false, .int .i64 0, .slice none 0 0] 54 (0, 0)) := by
        rw [Below.heap_setCell _ _ _ _ (by show w.heap.size + 1 ≠ w.heap.size; omega)]; exact kk2
      have hH := put3_whole e1 (.bool th) (.int .i64 room) (.slice ao (butL t ver m).length co)
      have hB : Below w.heap.size w (put3 (wr.setCell ⟨w.heap.size, 2, none⟩ (.slice ao (butL t ver m).length co)) (w.heap.size + 1) (.bool th) (.int .i64 room) (.slice ao (butL t ver m).length co)) :=
        ((((B0.out.trans (OW.out.2.mono B0.out.size)).setCell (p := ⟨w.heap.size, 2, none⟩) (Nat.le_refl _) _).setCell (p := ⟨w.heap.size + 1, 0, none⟩) (by show w.heap.size ≤ w.heap.size + 1; omega) _).setCell (p := ⟨w.heap.size + 1, 1, none⟩) (by show w.heap.size ≤ w.heap.size + 1; omega) _).setCell (p := ⟨w.heap.size + 1, 2, none⟩) (by show w.heap.size ≤ w.heap.size + 1; omega) _
      have hne : ∀ g, g ≤ w.heap.size + 1 → (Value.slice ao (butL t ver m).length co).ownBlock ≠ some g := fun g hg e => by have := (OW.out.1.lt g e).1; omega
      have hO := owns_set_other (o := 2) (owns_set_other (o := 1) (owns_set_other (o := 0) (owns_set_other (o := 2) OW.out.1 (hne _ (Nat.le_succ _)) (.slice ao (butL t ver m).length co)) (hne _ (Nat.le_refl _)) (.bool th)) (hne _ (Nat.le_refl _)) (.int .i64 room)) (hne _ (Nat.le_refl _)) (.slice ao (butL t ver m).length co)
      refine bodyPost_ret (results_cell_row rfl _ _ (w.heap.size + 1) 54 #[.bool th, .int .i64 room, .slice ao (butL t ver m).length co] (0, 0) _ rfl hH Try.underlying54 rfl (by kernel_rfl)) rfl ?_
      refine ⟨hB, _, _, rfl, rowT_kel hO (by omega) fun i hi => ?_⟩
      rcases HX.out with h0 | ⟨bl, off, _, hbl, hx⟩
      · have := butL_lt hi; omega
      · exact (hx i (butL_lt hi)).2.2.2.up hB

end Go.Proofs.Ytokebjclbpgljad
