/- Several texts of one proof, in their order. -/
import Derived.Test.YtdhefajaekackaaKnSum5
import Derived.Test.YtdhefajaekackaaKnSum7
import Derived.Test.YtdhefajaekackaaKnSum8
import Derived.Laws.CopyOwn
import Derived.Laws.ResultCell

/- What package book makes of its own: a version, a book, copied whole. -/
namespace Go.Proofs.Ytdhefajaekackaa

open Go.RowKit
set_option linter.unusedVariables false

theorem splice_all {n : Nat} (D : Nat → Int) (j : Nat) (hj : j < n) :
    (splice (List.replicate n (Value.int .i64 0)) 0 ((List.range n).map fun j => Value.int .i64 (D j)))[j]? = some (.int .i64 (D j)) := by
  unfold splice
  simp only [List.take_zero, List.nil_append]
  rw [List.getElem?_append_left (by simpa using hj)]
  simp [hj]

/-- a list copied over as many noughts -/
theorem copy_all2 {w0 w : World} {g m cp : Nat} {a : Option Addr} {D : Nat → Int} (hg : w.heap[g]? = some (.cells (List.replicate m (Value.int .i64 0)).toArray 3 (0, 0))) (h : IntSl w w.heap.size (.slice a m cp) m D) (hb0 : Below g w0 w) :
    ∃ w', (Builtin.copy_ #[25, 25] 3 #[.slice (some ⟨g, 0, none⟩) m m, .slice a m cp]).run Try.prog w = .ok (.int .i64 (m : Int)) w' ∧ (∀ j, j < m → w'.cell? ⟨g, j, none⟩ = some (.int .i64 (D j))) ∧ Below g w0 w' ∧ ∃ cs : Array Value, w'.heap[g]? = some (.cells cs 3 (0, 0)) := by
  obtain ⟨ad, cp', e, _, hx⟩ := h
  injection e with e1
  subst e1
  by_cases hm : m = 0
  · subst hm
    exact ⟨w, run_copy_none (P := Try.prog) w 25 25 3 3 _ _ 0 0 0 cp Try.underlying25 Try.sizeInt rfl, fun j hj => by omega, hb0, _, hg⟩
  rcases hx with h0 | ⟨b, o, rfl, hb, hx⟩
  · omega
  have hsrc : ∀ j v, ((List.range m).map fun j => Value.int .i64 (D j))[j]? = some v → w.cell? (Addr.add ⟨b, o, none⟩ j) = some v := fun j v hj => by
    have hjs : j < m := by
      rcases Nat.lt_or_ge j m with h | h
      · exact h
      · rw [List.getElem?_eq_none (by simpa using h)] at hj; cases hj
    simp only [List.getElem?_map, List.getElem?_range hjs, Option.map_some, Option.some.injEq] at hj
    rw [Addr.add_lit, hx j hjs, hj]
  have hrun := run_copy_row (P := Try.prog) w 25 25 3 3 g 0 m m ⟨b, o, none⟩ m cp (List.replicate m (Value.int .i64 0)).toArray 3 ((List.range m).map fun j => Value.int .i64 (D j)) Try.underlying25 Try.sizeInt hg (by simp) hsrc (by simp) (fun v hv => by obtain ⟨j, _, rfl⟩ := List.mem_map.1 hv; rfl)
  have hl : (((List.range m).map fun j => Value.int .i64 (D j)).length : Int) = (m : Int) := by simp
  refine ⟨_, by rw [hrun, hl]; rfl, fun j hj => ?_, below_setRow hb0 (Nat.le_refl _) _, _, setRow_heap w g _ _ _ _ hg⟩
  refine cell_at (setRow_heap w g _ _ _ _ hg) ?_
  have h1 := splice_all D j hj
  unfold splice at h1
  simpa using h1

theorem four_at {w : World} {g : Nat} {T : TypeId} {u0 u1 u2 u3 : Value} (h : w.heap[g]? = some (.cells #[u0, u1, u2, u3] T (0, 0))) :
    w.cell? ⟨g, 0, none⟩ = some u0 ∧ w.cell? ⟨g, 1, none⟩ = some u1 ∧ w.cell? ⟨g, 2, none⟩ = some u2 ∧ w.cell? ⟨g, 3, none⟩ = some u3 := ⟨cell_at h rfl, cell_at h rfl, cell_at h rfl, cell_at h rfl⟩

theorem four_free {w : World} {g : Nat} {T : TypeId} {u0 u1 u2 u3 : Value} (h : w.heap[g]? = some (.cells #[u0, u1, u2, u3] T (0, 0))) :
    w.frozen? ⟨g, 0, none⟩ = false ∧ w.frozen? ⟨g, 1, none⟩ = false ∧ w.frozen? ⟨g, 2, none⟩ = false ∧ w.frozen? ⟨g, 3, none⟩ = false := ⟨frozen_at h, frozen_at h, frozen_at h, frozen_at h⟩

/-- a version put into its cells -/
def put4 (w : World) (g o : Nat) (u0 u1 u2 u3 : Value) : World := (((w.setCell ⟨g, o, none⟩ u0).setCell ⟨g, o + 1, none⟩ u1).setCell ⟨g, o + 2, none⟩ u2).setCell ⟨g, o + 3, none⟩ u3

theorem put4_whole {w : World} {g : Nat} {T : TypeId} {v0 v1 v2 v3 : Value} (h : w.heap[g]? = some (.cells #[v0, v1, v2, v3] T (0, 0))) (u0 u1 u2 u3 : Value) : (put4 w g 0 u0 u1 u2 u3).heap[g]? = some (.cells #[u0, u1, u2, u3] T (0, 0)) := by
  simp [put4, World.setCell, Array.getElem?_modify, h]

theorem below_put4 {B : Nat} {w0 w : World} (h : Below B w0 w) {g : Nat} (hg : B ≤ g) (o : Nat) (u0 u1 u2 u3 : Value) : Below B w0 (put4 w g o u0 u1 u2 u3) :=
  (((h.setCell (p := ⟨g, o, none⟩) hg _).setCell (p := ⟨g, o + 1, none⟩) hg _).setCell (p := ⟨g, o + 2, none⟩) hg _).setCell (p := ⟨g, o + 3, none⟩) hg _

set_option maxHeartbeats 1000000 in
set_option maxRecDepth 10000 in
/-- a list of numbers, copied -/
theorem frNumbers (v : Value) (m : Nat) (X : Nat → Int) (w : World) (h : IntSl w w.heap.size v m X) :
    Calls Try.prog 99 #[v] w fun e w' => Below w.heap.size w w' ∧ e = .returned (.slice (some ⟨w.heap.size, 0, none⟩) m m) ∧ IntSl w' w'.heap.size (.slice (some ⟨w.heap.size, 0, none⟩) m m) m X ∧ NewV w.heap.size w' (.slice (some ⟨w.heap.size, 0, none⟩) m m) := by
  have HI := hid h
  obtain ⟨ap, cp, rfl, ⟨hcap, hbig⟩, hpc⟩ := h
  obtain ⟨ii, hii, hz0, hz1, hz2⟩ := info_parts Try.infoInt
  clear hpc
  go_enter Try.func99, Try.ntmps99
  go_wp2_with (at_make; go_must (refine wpList_make_full _ rfl (.tmp 5) (.tmp 5) 25 rfl _ 3 ii (.int .i64 0) 1 Try.underlying25 hii hz0 hz1 _ _ _ _ m rfl rfl rfl rfl (by rw [hz2]; omega) (by unfold maxLen; omega) (Nat.le_refl _) ?_; intro w1 ho1 hg1; have HB1 := hid (below_of_grown hg1); obtain ⟨w2, hrun, hm2, hb2, cs2, hh2⟩ := copy_all2 (made_block ho1) (HI.out.up HB1.out) HB1.out; have HM2 := hid hm2; have HB2 := hid hb2; have HH2 := hid hh2; clear ho1 hg1 hm2 hb2 hh2))
  go_ret
  refine ⟨HB2.out, rfl, ⟨_, _, rfl, ⟨Nat.le_refl _, by omega⟩, ?_⟩, newV_block HH2.out (Nat.le_refl _)⟩
  by_cases hm : m = 0
  · exact Or.inl hm
  · exact Or.inr ⟨_, 0, rfl, cell_lt (HM2.out 0 (by omega)), fun j hj => by rw [Nat.zero_add]; exact HM2.out j hj⟩

theorem IntSl.put4 {w : World} {g o : Nat} {v : Value} {m : Nat} {X : Nat → Int} (h : IntSl w w.heap.size v m X) (ha : Above (g + 1) v) (u0 u1 u2 u3 : Value) : IntSl (put4 w g o u0 u1 u2 u3) (put4 w g o u0 u1 u2 u3).heap.size v m X := by
  have hz : (Go.Proofs.Ytdhefajaekackaa.put4 w g o u0 u1 u2 u3).heap.size = w.heap.size := by simp [Go.Proofs.Ytdhefajaekackaa.put4, World.setCell]
  rw [hz]
  unfold Go.Proofs.Ytdhefajaekackaa.put4
  exact (((h.set ha _ _).set ha _ _).set ha _ _).set ha _ _

theorem drew_belowB (w : World) : Below w.heap.size w w.drew := ⟨rfl, rfl, rfl, Nat.le_refl _, fun _ _ => rfl⟩

set_option maxHeartbeats 1000000 in
theorem bkOwn (pv : Value) (m : Nat) (X : Nat → Int) (nd of sz : Int) (w : World) (h : IntSl w w.heap.size pv m X) :
    Calls Try.prog 53 #[verV pv nd of sz] w fun e w' => Below w.heap.size w w' ∧ ∃ pv', e = .returned (verV pv' nd of sz) ∧ IntSl w' w'.heap.size pv' m X ∧ Above w.heap.size pv' := by
  have hbA := ((Below.refl w.heap.size w).alloc (Nat.le_refl _) (.cells #[pv, .int .i64 nd, .int .i64 of, .int .i64 sz] 29)).alloc (by simp) (.cells #[.slice none 0 0, .int .i64 0, .int .i64 0, .int .i64 0] 29)
  have HI := hid h
  obtain ⟨ap, cp, rfl, _, _⟩ := h
  obtain ⟨W, hW⟩ : ∃ W, (w.alloc (.cells #[.slice ap m cp, .int .i64 nd, .int .i64 of, .int .i64 sz] 29)).alloc (.cells #[.slice none 0 0, .int .i64 0, .int .i64 0, .int .i64 0] 29) = W := ⟨_, rfl⟩
  rw [hW] at hbA
  have k0 : W.heap[w.heap.size]? = some (.cells #[.slice ap m cp, .int .i64 nd, .int .i64 of, .int .i64 sz] 29 (0, 0)) := by rw [← hW]; exact heap_two_old w _ _
  have k1 : W.heap[w.heap.size + 1]? = some (.cells #[.slice none 0 0, .int .i64 0, .int .i64 0, .int .i64 0] 29 (0, 0)) := by rw [← hW]; exact heap_two_new w _ _
  obtain ⟨s0, s1, s2, s3⟩ := four_at k0
  have hne : Nonempty (Of (Below W.heap.size W)) := ⟨⟨W, Below.refl _ _⟩⟩
  have F0 : ∀ u : Of (Below W.heap.size W), u.val.cell? ⟨w.heap.size, 0, none⟩ = some (.slice ap m cp) := fun u => by rw [u.is.cell (cell_lt s0)]; exact s0
  have F1 : ∀ u : Of (Below W.heap.size W), u.val.cell? ⟨w.heap.size, 1, none⟩ = some (.int .i64 nd) := fun u => by rw [u.is.cell (cell_lt s1)]; exact s1
  have F2 : ∀ u : Of (Below W.heap.size W), u.val.cell? ⟨w.heap.size, 2, none⟩ = some (.int .i64 of) := fun u => by rw [u.is.cell (cell_lt s2)]; exact s2
  have F3 : ∀ u : Of (Below W.heap.size W), u.val.cell? ⟨w.heap.size, 3, none⟩ = some (.int .i64 sz) := fun u => by rw [u.is.cell (cell_lt s3)]; exact s3
  have HD0 : Hid (Below W.heap.size W W.drew) := drew_belowB W
  have CN := hid (frNumbers _ m X W.drew (HI.out.up (hbA.trans (HD0.out.mono hbA.size))))
  have HBW := hid hbA
  have HK1 := hid k1
  clear hbA k0 k1 s0 s1 s2 s3
  unfold verV
  go_enter Try.func53, Try.ntmps53
  go_wp2_with fail
  refine region_mixed_last (Below W.heap.size W) [([0, 1, 3, 4], 2)] [5] 6 (by kernel_rfl) (by kernel_rfl) HD0.out ?_
  clear hW
  obtain ⟨D0, hD0⟩ : ∃ d, W.drew = d := ⟨_, rfl⟩
  rw [hD0] at HD0 CN ⊢
  clear hD0
  refine mixO_cons (by simp only [pickO, List.getElem?_cons_zero, List.getElem?_cons_succ]; exact rfl) (by simp only [pickO, List.getElem?_cons_zero, List.getElem?_cons_succ]; exact rfl) ?_
  repeat (go_big_quiet_step (fail))
  refine wpQuiet_nil ?_
  intro K hK
  go_wp2_with fail
  refine Calls.mono CN.out ?_
  rintro e w2 ⟨hb2, rfl, hl2, ha2⟩
  have HB2 := hid (HD0.out.trans (hb2.mono HD0.out.size))
  have HL2 := hid hl2
  have HA2 : Hid (Above W.heap.size (.slice (some ⟨D0.heap.size, 0, none⟩) m m)) := ha2.above.mono' HD0.out.size
  obtain ⟨pq, hpq⟩ : ∃ q, D0.heap.size = q := ⟨_, rfl⟩
  rw [hpq] at HL2 HA2 ⊢
  clear hb2 hl2 ha2 hpq
  go_wp2
  refine ⟨rfl, hK _ _ HB2.out ?_⟩
  clear hK K
  refine mixO_last (by simp only [pickO, List.getElem?_cons_zero, List.getElem?_cons_succ]; exact rfl) (by simp only [pickO, List.getElem?_cons_zero, List.getElem?_cons_succ]; exact rfl) ?_
  repeat (go_big_quiet_step (fail))
  refine wpQuiet_nil ?_
  have hsz : w.heap.size + 1 < W.heap.size := (Array.getElem?_eq_some_iff.1 HK1.out).1
  obtain ⟨d0, d1, d2, d3⟩ := four_at ((HB2.out.block _ hsz).trans HK1.out)
  obtain ⟨f0, f1, f2, f3⟩ := four_free ((HB2.out.block _ hsz).trans HK1.out)
  clear F0 F1 F2 F3 hne
  go_wp2
  have hB3 : Below w.heap.size w (put4 w2 (w.heap.size + 1) 0 (.slice (some ⟨pq, 0, none⟩) m m) (.int .i64 nd) (.int .i64 of) (.int .i64 sz)) := below_put4 (HBW.out.trans (HB2.out.mono HBW.out.size)) (by omega) _ _ _ _ _
  have hH := put4_whole ((HB2.out.block _ hsz).trans HK1.out) (.slice (some ⟨pq, 0, none⟩) m m) (.int .i64 nd) (.int .i64 of) (.int .i64 sz)
  refine bodyPost_ret (results_cell_row rfl _ _ (w.heap.size + 1) 29 #[.slice (some ⟨pq, 0, none⟩) m m, .int .i64 nd, .int .i64 of, .int .i64 sz] (0, 0) _ rfl hH Try.underlying29 rfl (by kernel_rfl)) rfl ?_
  exact ⟨hB3, _, rfl, HL2.out.put4 (HA2.out.mono' (by omega)) _ _ _ _, HA2.out.mono' (by omega)⟩

end Go.Proofs.Ytdhefajaekackaa
