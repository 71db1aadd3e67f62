/- Several texts of one proof, in their order. -/
import Derived.Test.YtdhefajaekackaaPrSum5

/- Three cells of a block, written anew; the kept one of the closed facts. -/
namespace Go.Proofs.Ytdhefajaekackaa

open Go.RowKit
set_option linter.unusedVariables false

theorem set_three {w : World} {g : Nat} {v0 v1 v2 : Value} {T : TypeId} (h : w.heap[g]? = some (.cells #[v0, v1, v2] T (0, 0))) (u : Value) : (w.setCell ⟨g, 2, none⟩ u).heap[g]? = some (.cells #[v0, v1, u] T (0, 0)) := by
  simp [World.setCell, Array.getElem?_modify, h]

def put3 (w : World) (g : Nat) (u0 u1 u2 : Value) : World := ((w.setCell ⟨g, 0, none⟩ u0).setCell ⟨g, 1, none⟩ u1).setCell ⟨g, 2, none⟩ u2

theorem put3_whole {w : World} {g : Nat} {T : TypeId} {v0 v1 v2 : Value} (h : w.heap[g]? = some (.cells #[v0, v1, v2] T (0, 0))) (u0 u1 u2 : Value) : (put3 w g u0 u1 u2).heap[g]? = some (.cells #[u0, u1, u2] T (0, 0)) := by
  simp [put3, World.setCell, Array.getElem?_modify, h]

theorem put3_below {B : Nat} {w w5 : World} {g : Nat} {u0 u1 u2 : Value} (hb : Below B w w5) (hg : B ≤ g) : Below B w (put3 w5 g u0 u1 u2) :=
  ((hb.setCell (p := ⟨g, 0, none⟩) hg _).setCell (p := ⟨g, 1, none⟩) hg _).setCell (p := ⟨g, 2, none⟩) hg _

theorem put3_other {w5 : World} {g k : Nat} {u0 u1 u2 : Value} (h : k ≠ g) : (put3 w5 g u0 u1 u2).heap[k]? = w5.heap[k]? := by
  unfold put3
  rw [Below.heap_setCell _ _ _ _ h, Below.heap_setCell _ _ _ _ h, Below.heap_setCell _ _ _ _ h]

/-- the kept one of the closed facts -/
theorem keptOf_any (ver : Int) (w : World) : Calls Try.prog 85 #[.int .i64 ver] w fun e w' => Below w.heap.size w w' ∧ ∃ uv, e = .returned (keptV ver 0 uv) ∧ IntSl w' w'.heap.size uv 1 (fun i => [(7 : Int)].getD i 0) := by
  go_enter Try.func85, Try.ntmps85
  have hb := ((Below.refl w.heap.size w).alloc (Nat.le_refl _) (.cells #[.int .i64 0, .int .i64 0, .slice none 0 0] 62)).alloc (by simp) (.cells #[.int .i64 7] 3)
  have k1 := heap_two_old w (.cells #[.int .i64 0, .int .i64 0, .slice none 0 0] 62) (.cells #[.int .i64 7] 3)
  have k2 := heap_two_new w (.cells #[.int .i64 0, .int .i64 0, .slice none 0 0] 62) (.cells #[.int .i64 7] 3)
  obtain ⟨W, hW⟩ : ∃ W, (w.alloc (.cells #[.int .i64 0, .int .i64 0, .slice none 0 0] 62)).alloc (.cells #[.int .i64 7] 3) = W := ⟨_, rfl⟩
  rw [hW] at hb k1 k2
  obtain ⟨r1, r2, r3⟩ := three_at k1
  have f1 := frozen_at (i := 0) k1
  have f2 := frozen_at (i := 1) k1
  have f3 := frozen_at (i := 2) k1
  have HB := hid hb
  have K1 := hid k1
  have K2 := hid k2
  clear hb k1 k2
  go_wp2
  refine bodyPost_ret (results_cell_row rfl _ _ w.heap.size 62 #[.int .i64 ver, .int .i64 0, .slice (some ⟨w.heap.size + 1, 0, none⟩) 1 1] (0, 0) _ rfl (put3_whole K1.out _ _ _) Try.underlying62 rfl (by kernel_rfl)) rfl ?_
  have hB : Below w.heap.size w (put3 W w.heap.size (.int .i64 ver) (.int .i64 0) (.slice (some ⟨w.heap.size + 1, 0, none⟩) 1 1)) := put3_below HB.out (Nat.le_refl _)
  refine ⟨hB, _, rfl, isl_lit1 (T := 3) ?_⟩
  show (put3 W w.heap.size (.int .i64 ver) (.int .i64 0) (.slice (some ⟨w.heap.size + 1, 0, none⟩) 1 1)).heap[w.heap.size + 1]? = _
  rw [put3_other (by omega)]
  exact K2.out

theorem drewK_below (w : World) (k : Nat) : Below w.heap.size w (w.drewN k) := ⟨rfl, rfl, rfl, Nat.le_refl _, fun _ _ => rfl⟩

theorem drew_below (w : World) : Below w.heap.size w w.drew := ⟨rfl, rfl, rfl, Nat.le_refl _, fun _ _ => rfl⟩

theorem stayB {w w' : World} {g : Nat} {o : Obj} (h : w.heap[g]? = some o) (hb : Below w.heap.size w w') : w'.heap[g]? = some o := by
  rw [hb.block _ (Array.getElem?_eq_some_iff.1 h).1]; exact h

end Go.Proofs.Ytdhefajaekackaa

/- Lists of kept ones that a call makes itself; what a peer keeps without a version. -/
namespace Go.Proofs.Ytdhefajaekackaa

open Go.RowKit
set_option linter.unusedVariables false

/-- the cells of the kept ones at these places -/
def flatI (UV : Nat → Value) (t : Kt) (l : List Nat) : List Value := l.flatMap fun i => [.int .i64 (t.V i), .int .i64 (t.N i), UV i]

theorem flatI_len (UV : Nat → Value) (t : Kt) (l : List Nat) : (flatI UV t l).length = l.length * 3 := by
  induction l with
  | nil => rfl
  | cons x l ih => simp only [flatI, List.flatMap_cons, List.length_append, List.length_cons, List.length_nil] at *; omega

theorem flatI_snoc (UV : Nat → Value) (t : Kt) (l : List Nat) (i : Nat) : flatI UV t (l ++ [i]) = flatI UV t l ++ [.int .i64 (t.V i), .int .i64 (t.N i), UV i] := by
  simp [flatI]

theorem flatI_get (UV : Nat → Value) (t : Kt) : ∀ (l : List Nat) (j : Nat), j < l.length → (flatI UV t l)[j * 3]? = some (.int .i64 (t.V (l.getD j 0))) ∧ (flatI UV t l)[j * 3 + 1]? = some (.int .i64 (t.N (l.getD j 0))) ∧ (flatI UV t l)[j * 3 + 2]? = some (UV (l.getD j 0)) := by
  intro l
  induction l with
  | nil => intro j hj; simp at hj
  | cons x l ih =>
    intro j hj
    have e : flatI UV t (x :: l) = [.int .i64 (t.V x), .int .i64 (t.N x), UV x] ++ flatI UV t l := by simp [flatI]
    rw [e]
    cases j with
    | zero => exact ⟨rfl, rfl, rfl⟩
    | succ j =>
      obtain ⟨h1, h2, h3⟩ := ih j (by simpa using hj)
      have a1 : (j + 1) * 3 = 3 + j * 3 := by omega
      have key : ∀ c, ([Value.int .i64 (t.V x), .int .i64 (t.N x), UV x] ++ flatI UV t l)[3 + j * 3 + c]? = (flatI UV t l)[j * 3 + c]? := fun c => by
        rw [List.getElem?_append_right (by simp; omega)]
        simp only [List.length_cons, List.length_nil]
        congr 1
        omega
      rw [a1]
      refine ⟨?_, ?_, ?_⟩
      · have := key 0; rw [Nat.add_zero, Nat.add_zero] at this; rw [this, h1]; rfl
      · rw [key 1, h2]; rfl
      · rw [key 2, h3]; rfl

/-- those at these places -/
def selT (t : Kt) (l : List Nat) : Kt := ⟨fun j => t.V (l.getD j 0), fun j => t.N (l.getD j 0), fun j => t.L (l.getD j 0), fun j => t.X (l.getD j 0)⟩

/-- an own list of kept ones, those at these places -/
def OwnT (w0 wr : World) (v : Value) (UV : Nat → Value) (t : Kt) (l : List Nat) : Prop := wr.ownsRow w0.heap.size 62 3 v l.length (flatI UV t l) ∧ Below w0.heap.size w0 wr

theorem OwnT.nil (w : World) (UV : Nat → Value) (t : Kt) : OwnT w w (.slice none 0 0) UV t [] := ⟨World.ownsRow_nil _ _ _ _, Below.refl _ _⟩

theorem OwnT.up {w0 wr w' : World} {v : Value} {UV : Nat → Value} {t : Kt} {l : List Nat} (h : OwnT w0 wr v UV t l) (hb : Below wr.heap.size wr w') : OwnT w0 w' v UV t l := ⟨owns_below h.1 hb, h.2.trans (hb.mono h.2.size)⟩

theorem OwnT.push {w0 wr w1 : World} {v v' : Value} {UV : Nat → Value} {t : Kt} {l : List Nat} {i : Nat} (h : OwnT w0 wr v UV t l)
    (ho : w1.ownsRow w0.heap.size 62 3 v' (l.length + 1) (flatI UV t l ++ [.int .i64 (t.V i), .int .i64 (t.N i), UV i])) (hg : wr.grownBy w1 v.ownBlock) : OwnT w0 w1 v' UV t (l ++ [i]) := by
  refine ⟨?_, h.2.grown hg h.2.size (fun g hgg => (h.1.lt g hgg).1)⟩
  rw [List.length_append, flatI_snoc]
  exact ho

theorem rowT_kel {wr : World} {base : Nat} {v : Value} {UV : Nat → Value} {t : Kt} {l : List Nat} (h : wr.ownsRow base 62 3 v l.length (flatI UV t l)) (hr : l.length * 40 ≤ 140737488351232) (hi : ∀ i, i ∈ l → IntSl wr wr.heap.size (UV i) (t.L i) (t.X i)) : KeSl wr wr.heap.size v l.length (fun j => UV (l.getD j 0)) (selT t l) := by
  obtain ⟨hl, h2⟩ := h
  rcases h2 with ⟨rfl, h0⟩ | ⟨g, cap, cur, rfl, hg, hh, hc1, hc2, hsz, hcur⟩
  · rw [h0]; exact ⟨none, 0, rfl, ⟨Nat.le_refl _, by omega⟩, Or.inl rfl⟩
  · refine ⟨_, cap, rfl, ⟨hc1, hr⟩, Or.inr ⟨g, 0, rfl, (Array.getElem?_eq_some_iff.1 hh).1, fun j hj => ?_⟩⟩
    have key : ∀ i u, i < l.length * 3 → (flatI UV t l)[i]? = some u → wr.cell? ⟨g, i, none⟩ = some u := fun i u hi h3 => by
      rw [← hcur, List.getElem?_take, if_pos hi] at h3
      exact cell_at hh (by simpa using h3)
    obtain ⟨q1, q2, q3⟩ := flatI_get UV t l j hj
    rw [Nat.zero_add]
    refine ⟨key _ _ (by omega) q1, key _ _ (by omega) q2, key _ _ (by omega) q3, hi _ ?_⟩
    rw [List.getD_eq_getElem?_getD, List.getElem?_eq_getElem hj]
    exact List.getElem_mem hj

theorem Try.infoKept : (Try.prog.info? 62).map (fun i => (i.zero, i.size, i.bytes)) = some (some (.agg #[.int .i64 0, .int .i64 0, .slice none 0 0]), 3, 40) := by kernel_rfl

theorem cells_three (w : World) (v0 v1 v2 : Value) (T : TypeId) : ∀ j u, ([v0, v1, v2] : List Value)[j]? = some u → (w.alloc (.cells #[v0, v1, v2] T)).cell? (Addr.add ⟨w.heap.size, 0, none⟩ j) = some u := by
  intro j u hj
  rw [Addr.add_lit]
  match j, hj with
  | 0, hj => simp at hj; subst hj; exact cell_at (heap_alloc_new _ _) rfl
  | 1, hj => simp at hj; subst hj; exact cell_at (heap_alloc_new _ _) rfl
  | 2, hj => simp at hj; subst hj; exact cell_at (heap_alloc_new _ _) rfl

/-- the places of all but this version -/
def butL (t : Kt) (ver : Int) (m : Nat) : List Nat := (List.range m).filter fun j => t.V j != ver

theorem butL_succ (t : Kt) (ver : Int) (m : Nat) : butL t ver (m + 1) = butL t ver m ++ (if (t.V m != ver) = true then [m] else []) := by
  unfold butL
  rw [List.range_succ, List.filter_append]
  cases h : (t.V m != ver) <;> simp [h]

theorem butL_len (t : Kt) (ver : Int) (m : Nat) : (butL t ver m).length ≤ m := by
  unfold butL
  refine Nat.le_trans (List.length_filter_le _ _) ?_
  simp

theorem butL_lt {t : Kt} {ver : Int} {m i : Nat} (h : i ∈ butL t ver m) : i < m := by
  unfold butL at h
  exact List.mem_range.1 (List.mem_filter.1 h).1

/-- what a peer is answered as: new lists, or those that came in -/
def PePost (w : World) (th : Bool) (room : Int) (m : Nat) (t : Kt) (e : Ending) (w' : World) : Prop :=
  Below w.heap.size w w' ∧ ∃ (r : Value) (UV : Nat → Value), e = .returned (peerV th room r) ∧ KeSl w' w'.heap.size r m UV t

set_option maxHeartbeats 2000000 in
theorem without_any (th : Bool) (room : Int) (v : Value) (m : Nat) (UV : Nat → Value) (t : Kt) (ver : Int) (w : World) (hm : m ≤ 1000) (h : KeSl w w.heap.size v m UV t) :
    Calls Try.prog 44 #[peerV th room v, .int .i64 ver] w (PePost w th room (butL t ver m).length (selT t (butL t ver m))) := by
  obtain ⟨ad, cap, rfl, ⟨hcap, hbig⟩, hx⟩ := h
  have hb0 := ((Below.refl w.heap.size w).alloc (Nat.le_refl _) (.cells #[.bool th, .int .i64 room, .slice ad m cap] 58)).alloc (by simp) (.cells #[.bool false, .int .i64 0, .slice none 0 0] 58)
  have k1 := heap_two_old w (.cells #[.bool th, .int .i64 room, .slice ad m cap] 58) (.cells #[.bool false, .int .i64 0, .slice none 0 0] 58)
  have k2 := heap_two_new w (.cells #[.bool th, .int .i64 room, .slice ad m cap] 58) (.cells #[.bool false, .int .i64 0, .slice none 0 0] 58)
  obtain ⟨W, hW⟩ : ∃ W, (w.alloc (.cells #[.bool th, .int .i64 room, .slice ad m cap] 58)).alloc (.cells #[.bool false, .int .i64 0, .slice none 0 0] 58) = W := ⟨_, rfl⟩
  rw [hW] at hb0 k1 k2
  have B0 := hid hb0
  have K1 := hid k1
  have K2 := hid k2
  have HX := hid hx
  obtain ⟨p0, p1, p2⟩ := three_at k1
  obtain ⟨ii, hii, hz0, hz1, hz2⟩ := info_parts Try.infoKept
  have hl1 : w.heap.size + 1 < W.heap.size := (Array.getElem?_eq_some_iff.1 k2).1
  have HL1 := hid hl1
  clear hb0 k1 k2 hx hl1
  unfold peerV
  go_enter Try.func44, Try.ntmps44
  go_wp2
  clear p0 p1 p2
  go_loopw [5, 11] (fun vo iv wr => ∃ j : Nat, j ≤ m ∧ iv = .int .i64 j ∧ Hid (OwnT W wr vo UV t (butL t ver j))) (fun _ iv _ => m - (intOf iv).toNat)
  case atStart => exact ⟨0, Nat.zero_le _, rfl, OwnT.nil _ _ _⟩
  case round =>
    obtain ⟨k, hk, rfl, OW⟩ := hrel
    by_cases hlt : k < m
    · have hki : (k : Int) < (m : Int) := by omega
      have BR := hid (B0.out.trans (OW.out.2.mono B0.out.size))
      rcases HX.out with h0 | ⟨bl, off, rfl, hbl, hx⟩
      · omega
      obtain ⟨x0, x1, x2, x3⟩ := hx k hlt
      obtain ⟨ap, cp, hpe, _, _⟩ := x3
      have HPe := hid hpe
      rw [hpe] at x2
      have g0 : wr.cell? ⟨bl, off + k * 3, none⟩ = some (.int .i64 (t.V k)) := by rw [BR.out.cell hbl]; exact x0
      have g1 : wr.cell? ⟨bl, off + k * 3 + 1, none⟩ = some (.int .i64 (t.N k)) := by rw [BR.out.cell hbl]; exact x1
      have g2 : wr.cell? ⟨bl, off + k * 3 + 2, none⟩ = some (.slice ap (t.L k) cp) := by rw [BR.out.cell hbl]; exact x2
      obtain ⟨Z, hZ⟩ : ∃ Z, wr.alloc (.cells #[.int .i64 (t.V k), .int .i64 (t.N k), .slice ap (t.L k) cp] 62) = Z := ⟨_, rfl⟩
      have hbZ : Below wr.heap.size wr Z := by rw [← hZ]; exact below_alloc _ _
      have OZ := hid (OW.out.up hbZ)
      obtain ⟨z0, z1, z2⟩ : Z.cell? ⟨wr.heap.size, 0, none⟩ = _ ∧ Z.cell? ⟨wr.heap.size, 1, none⟩ = _ ∧ Z.cell? ⟨wr.heap.size, 2, none⟩ = _ := three_at (by rw [← hZ]; exact heap_alloc_new wr _)
      have hsc := butL_succ t ver k
      have hll := butL_len t ver k
      have hge : W.heap.size ≤ Z.heap.size := OZ.out.2.size
      clear x0 x1 x2 hx hpe hbZ
      cases hne : (t.V k != ver) with
      | false =>
        rw [hne, if_neg (by decide), List.append_nil] at hsc
        have HSc := hid hsc
        clear hsc
        go_wp2
        go_roundw
        case rel => exact ⟨k + 1, by omega, by go_num, by rw [HSc.out]; exact OZ.out⟩
        case measure => simp only [intOf]; omega
      | true =>
        rw [hne, if_pos rfl] at hsc
        have HSc := hid hsc
        have HCt := hid (cells_three Z (.int .i64 (t.V k)) (.int .i64 (t.N k)) (.slice ap (t.L k) cp) 62)
        clear hsc
        go_wp2_with (at_builtin; go_must (refine wpList_append_own _ rfl (.tmp 19) (.tmp 21) 56 rfl W.heap.size 62 ii (.agg #[.int .i64 0, .int .i64 0, .slice none 0 0]) 3 40 Try.underlying56 hii hz0 hz1 hz2 rfl (by decide) _ _ _ rfl (World.ownsRow.alloc OZ.out.1 _) ⟨_, 0, none⟩ 1 1 [.int .i64 (t.V k), .int .i64 (t.N k), .slice ap (t.L k) cp] rfl rfl HCt.out (by intro u hu; simp at hu; rcases hu with rfl | rfl | rfl <;> rfl) (by unfold maxLen; omega) (by omega) (by simp; omega) ?_; intro v1 w6 ho6 hg6 _; have HO6 := hid ho6; have HG6 := hid hg6; clear ho6 hg6))
        have O6 : OwnT W w6 v1 UV t (butL t ver k ++ [k]) := by
          have hbZ2 := below_alloc Z (.cells #[.int .i64 (t.V k), .int .i64 (t.N k), .slice ap (t.L k) cp] 62)
          refine (OZ.out.up hbZ2).push ?_ HG6.out
          rw [HPe.out]
          exact HO6.out
        go_roundw
        case rel => exact ⟨k + 1, by omega, by go_num, by rw [HSc.out]; exact O6⟩
        case measure => simp only [intOf]; omega
    · have hke : m = k := by omega
      subst hke
      have kk1 : wr.heap[w.heap.size]? = some (.cells #[.bool th, .int .i64 room, .slice ad m cap] 58 (0, 0)) := by rw [OW.out.2.block _ (Array.getElem?_eq_some_iff.1 K1.out).1]; exact K1.out
      have kk2 : wr.heap[w.heap.size + 1]? = some (.cells #[.bool false, .int .i64 0, .slice none 0 0] 58 (0, 0)) := by rw [OW.out.2.block _ (Array.getElem?_eq_some_iff.1 K2.out).1]; exact K2.out
      obtain ⟨p0, p1, p2⟩ := three_at kk1
      obtain ⟨r0, r1, r2⟩ := three_at kk2
      have f2 := frozen_at (i := 2) kk1
      have q0 := frozen_at (i := 0) kk2
      have q1 := frozen_at (i := 1) kk2
      have q2 := frozen_at (i := 2) kk2
      obtain ⟨ao, co, hvo⟩ := owns_sliceV OW.out.1
      subst hvo
      have hll := butL_len t ver m
      go_wp2
      have h1 := HL1.out
      have e1 : (wr.setCell ⟨w.heap.size, 2, none⟩ (.slice ao (butL t ver m).length co)).heap[w.heap.size + 1]? = some (.cells #[.bool false, .int .i64 0, .slice none 0 0] 58 (0, 0)) := by
        rw [Below.heap_setCell _ _ _ _ (by show w.heap.size + 1 ≠ w.heap.size; omega)]; exact kk2
      have hH := put3_whole e1 (.bool th) (.int .i64 room) (.slice ao (butL t ver m).length co)
      have hB : Below w.heap.size w (put3 (wr.setCell ⟨w.heap.size, 2, none⟩ (.slice ao (butL t ver m).length co)) (w.heap.size + 1) (.bool th) (.int .i64 room) (.slice ao (butL t ver m).length co)) :=
        ((((B0.out.trans (OW.out.2.mono B0.out.size)).setCell (p := ⟨w.heap.size, 2, none⟩) (Nat.le_refl _) _).setCell (p := ⟨w.heap.size + 1, 0, none⟩) (by show w.heap.size ≤ w.heap.size + 1; omega) _).setCell (p := ⟨w.heap.size + 1, 1, none⟩) (by show w.heap.size ≤ w.heap.size + 1; omega) _).setCell (p := ⟨w.heap.size + 1, 2, none⟩) (by show w.heap.size ≤ w.heap.size + 1; omega) _
      have hne : ∀ g, g ≤ w.heap.size + 1 → (Value.slice ao (butL t ver m).length co).ownBlock ≠ some g := fun g hg e => by have := (OW.out.1.lt g e).1; omega
      have hO := owns_set_other (o := 2) (owns_set_other (o := 1) (owns_set_other (o := 0) (owns_set_other (o := 2) OW.out.1 (hne _ (Nat.le_succ _)) (.slice ao (butL t ver m).length co)) (hne _ (Nat.le_refl _)) (.bool th)) (hne _ (Nat.le_refl _)) (.int .i64 room)) (hne _ (Nat.le_refl _)) (.slice ao (butL t ver m).length co)
      refine bodyPost_ret (results_cell_row rfl _ _ (w.heap.size + 1) 58 #[.bool th, .int .i64 room, .slice ao (butL t ver m).length co] (0, 0) _ rfl hH Try.underlying58 rfl (by kernel_rfl)) rfl ?_
      refine ⟨hB, _, _, rfl, rowT_kel hO (by omega) fun i hi => ?_⟩
      rcases HX.out with h0 | ⟨bl, off, _, hbl, hx⟩
      · have := butL_lt hi; omega
      · exact (hx i (butL_lt hi)).2.2.2.up hB

end Go.Proofs.Ytdhefajaekackaa

/- Kept ones cloned; sorted by their versions. -/
namespace Go.Proofs.Ytdhefajaekackaa

open Go.RowKit
set_option linter.unusedVariables false

theorem flatI_one {UV : Nat → Value} {t : Kt} {l : List Nat} (h : ∀ i, i ∈ l → (UV i).oneCell' = true) : ∀ u ∈ flatI UV t l, u.oneCell' = true := by
  intro u hu
  unfold flatI at hu
  obtain ⟨i, hi, hu⟩ := List.mem_flatMap.1 hu
  simp only [List.mem_cons, List.not_mem_nil, or_false] at hu
  rcases hu with rfl | rfl | rfl
  · rfl
  · rfl
  · exact h i hi

/-- slices.Clone of a list of kept ones -/
theorem cloneT {w : World} {v : Value} {m : Nat} {UV : Nat → Value} {t : Kt} (h : KeSl w w.heap.size v m UV t) (hn : m ≤ 1000) :
    Calls Try.prog 80 #[v] w fun e w' => ∃ v', e = .returned v' ∧ OwnT w w' v' UV t (List.range m) := by
  obtain ⟨ad, cap, rfl, ⟨hc, hr⟩, hx⟩ := h
  have q34 : ∀ (w : World) (a : Option Addr) (n c : Nat), (binOp .eql 56 (.slice a n c) (.slice none 0 0)).run Try.prog w = .ok (.bool a.isNone) w := fun w a n c => Lib.run_eql_slice_nil w _ _ a n c 0 0 Try.underlying56
  cases ad with
  | none =>
    have h0 : m = 0 := by
      rcases hx with h0 | ⟨bl, off, e, _⟩
      · exact h0
      · cases e
    subst h0
    clear hx
    go_enter Try.func80, Try.ntmps80
    go_wp2
    go_ret
    exact ⟨_, rfl, OwnT.nil _ _ _⟩
  | some a =>
    have hrg : ∀ j, j < m → (List.range m).getD j 0 = j := fun j hj => by simp [List.getD_eq_getElem?_getD, hj]
    have hnews : ∀ j u, (flatI UV t (List.range m))[j]? = some u → w.cell? (Addr.add a j) = some u := by
      intro j u hu
      have hj : j < m * 3 := by
        have := (List.getElem?_eq_some_iff.1 hu).1
        rw [flatI_len] at this
        simpa using this
      rcases hx with h0 | ⟨bl, off, e, hbl, hx⟩
      · omega
      injection e with e
      subst e
      obtain ⟨g1, g2, g3, _⟩ := hx (j / 3) (by omega)
      obtain ⟨q1, q2, q3⟩ := flatI_get UV t (List.range m) (j / 3) (by simp; omega)
      rw [hrg _ (by omega)] at q1 q2 q3
      rw [Addr.add_lit]
      rcases (show j = j / 3 * 3 ∨ j = j / 3 * 3 + 1 ∨ j = j / 3 * 3 + 2 by omega) with e | e | e
      · rw [e] at hu ⊢
        rw [q1] at hu
        rw [g1, ← hu]
      · rw [e] at hu ⊢
        rw [q2] at hu
        rw [← Nat.add_assoc, g2, ← hu]
      · rw [e] at hu ⊢
        rw [q3] at hu
        rw [← Nat.add_assoc, g3, ← hu]
    have h1 : ∀ u ∈ flatI UV t (List.range m), u.oneCell' = true := flatI_one fun i hi => by
      rcases hx with h0 | ⟨bl, off, e, hbl, hx⟩
      · have := List.mem_range.1 hi; omega
      · obtain ⟨ap, cp, e2, _⟩ := (hx i (List.mem_range.1 hi)).2.2.2
        rw [e2]; rfl
    have HNw := hid hnews
    have H1 := hid h1
    obtain ⟨ii, hi, hz0, hz1, hz2⟩ := info_parts Try.infoKept
    have HLn : Hid ((flatI UV t (List.range m)).length = m * 3) := by show _ = _; rw [flatI_len]; simp
    obtain ⟨F, hF⟩ : ∃ F, flatI UV t (List.range m) = F := ⟨_, rfl⟩
    rw [hF] at HNw H1 HLn
    have HF := hid hF
    clear hx hnews h1 hrg hF
    go_enter Try.func80, Try.ntmps80
    go_wp2_with (at_builtin; go_must (refine wpList_append_own _ rfl _ _ 56 rfl w.heap.size 62 ii (.agg #[.int .i64 0, .int .i64 0, .slice none 0 0]) 3 40 Try.underlying56 hi hz0 hz1 hz2 rfl (by decide) _ _ _ rfl (World.ownsRow_made w #[] 0 (Nat.le_refl _) (Nat.zero_le _) (by simp)) a m cap F rfl HLn.out (fun j u hu => Lib.cell?_alloc_some _ (HNw.out j u hu)) H1.out (by unfold maxLen; omega) (by omega) (by simp) ?_; intro v1 w2 ho hg _; have HO := hid ho; have HG := hid hg; clear ho hg))
    go_ret
    refine ⟨_, rfl, ?_, ?_⟩
    · have h := HO.out
      rw [Nat.zero_add, List.nil_append, ← HF.out] at h
      simpa using h
    · exact ((Below.refl _ _).alloc (Nat.le_refl _) _).grown HG.out (by simp) (fun k hk => by cases hk; exact Nat.le_refl _)

/-- which of two is ahead -/
def cmpK (a c : Int) : Int := if a < c then -1 else 1

theorem cmpKept_any (v1 v2 N1 N2 : Int) (pv qv : Value) (w : World) (h1 : ∃ a n c, pv = .slice a n c) (h2 : ∃ a n c, qv = .slice a n c) :
    Calls Try.prog 82 #[keptV v1 N1 pv, keptV v2 N2 qv] w fun e w' => e = .returned (.int .i64 (cmpK v1 v2)) ∧ w' = (w.alloc (.cells #[.int .i64 v1, .int .i64 N1, pv] 62)).alloc (.cells #[.int .i64 v2, .int .i64 N2, qv] 62) := by
  obtain ⟨a1, n1, c1, rfl⟩ := h1
  obtain ⟨a2, n2, c2, rfl⟩ := h2
  unfold keptV cmpK
  by_cases h : v1 < v2
  · rw [if_pos h]
    go_enter Try.func82, Try.ntmps82
    go_wp2
    go_ret
    exact ⟨rfl, rfl⟩
  · rw [if_neg h]
    go_enter Try.func82, Try.ntmps82
    go_wp2
    go_ret
    exact ⟨rfl, rfl⟩

end Go.Proofs.Ytdhefajaekackaa
