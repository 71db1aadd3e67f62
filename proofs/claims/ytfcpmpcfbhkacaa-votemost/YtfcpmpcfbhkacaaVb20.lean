/- Several texts of one proof, in their order. -/
import Derived.Test.YtfcpmpcfbhkacaaVb13
import Derived.Test.YtfcpmpcfbhkacaaVb19
import Derived.Sort.OwnSortedInts

/- Own lists of ints, as lists. -/
namespace Go.Proofs.Ytfcpmpcfbhkacaa

open Go.RowKit
set_option linter.unusedVariables false

theorem owns_base {W : World} {base base' : Nat} {e : TypeId} {size : Nat} {v : Value} {k : Nat} {xs : List Value} (h : W.ownsRow base e size v k xs) (hb : base' ≤ base) : W.ownsRow base' e size v k xs := by
  obtain ⟨h1, h2⟩ := h
  refine ⟨h1, ?_⟩
  rcases h2 with h2 | ⟨g, cap, cur, hv, hg, hr⟩
  · exact Or.inl h2
  · exact Or.inr ⟨g, cap, cur, hv, Nat.le_trans hb hg, hr⟩

/-- an own list of ints, as a list -/
def OwnL (w0 wr : World) (v : Value) (l : List Int) : Prop := wr.ownsRow w0.heap.size 3 1 v l.length (l.map (Value.int .i64)) ∧ Below w0.heap.size w0 wr

theorem map_getD (l : List Int) : ((List.range l.length).map fun j => Value.int .i64 (l.getD j 0)) = l.map (Value.int .i64) := by
  apply List.ext_getElem (by simp)
  intro j h1 h2
  have hj : j < l.length := by simpa using h1
  simp [List.getD_eq_getElem?_getD, hj]

theorem OwnL.ownI {w0 wr : World} {v : Value} {l : List Int} (h : OwnL w0 wr v l) : OwnI w0 wr v l.length (fun j => l.getD j 0) := by
  refine ⟨?_, h.2⟩
  rw [map_getD]
  exact h.1

theorem OwnL.nil (w : World) : OwnL w w (.slice none 0 0) [] := ⟨World.ownsRow_nil _ _ _ _, Below.refl _ _⟩

theorem OwnL.up {w0 wr w' : World} {v : Value} {l : List Int} (h : OwnL w0 wr v l) (hb : Below wr.heap.size wr w') : OwnL w0 w' v l := ⟨owns_below h.1 hb, h.2.trans (hb.mono h.2.size)⟩

theorem OwnL.push {w0 wr w1 : World} {v v' : Value} {l : List Int} {x : Int} {o : Obj} (h : OwnL w0 wr v l)
    (ho : w1.ownsRow w0.heap.size 3 1 v' (l.length + 1) (l.map (Value.int .i64) ++ [.int .i64 x])) (hg : (wr.alloc o).grownBy w1 v.ownBlock) : OwnL w0 w1 v' (l ++ [x]) := by
  refine ⟨?_, ?_⟩
  · rw [List.length_append, List.map_append]
    exact ho
  · have hbA : Below w0.heap.size w0 (wr.alloc o) := h.2.alloc h.2.size o
    exact hbA.grown hg hbA.size (fun g hgg => (h.1.lt g hgg).1)

theorem OwnL.isl {w0 wr : World} {v : Value} {l : List Int} (h : OwnL w0 wr v l) (hr : l.length * 8 ≤ 140737488351232) : IntSl wr wr.heap.size v l.length (fun j => l.getD j 0) := by
  by_cases h0 : l.length = 0
  · obtain ⟨ad, cap, e⟩ := h.ownI.shape
    obtain ⟨_, h2⟩ := h.1
    rcases h2 with ⟨e1, _⟩ | ⟨g, cp, cur, e1, _, _, hc, _⟩
    · rw [e1, h0]; exact ⟨none, 0, rfl, ⟨Nat.le_refl _, by omega⟩, Or.inl rfl⟩
    · exact ⟨_, cp, e1, ⟨hc, hr⟩, Or.inl h0⟩
  · exact h.ownI.isl (by omega) hr

end Go.Proofs.Ytfcpmpcfbhkacaa

/- What package vote's bent answers: the numbers of the shares that aren't of a content, rising. -/
namespace Go.Proofs.Ytfcpmpcfbhkacaa

open Go.RowKit CurveMath
set_option linter.unusedVariables false

/-- slices.Sort of an own list -/
theorem sort_own {w0 wr : World} {v : Value} {l : List Int} (h : OwnL w0 wr v l) (hk : l.length ≤ 1000) :
    Calls Try.prog 33 #[v] wr fun e w' => e = .returned (.tuple #[]) ∧ OwnL w0 w' v (srt l) := by
  obtain ⟨⟨hl, h2⟩, hb⟩ := h
  rcases h2 with ⟨rfl, h0⟩ | ⟨g, cap, cur, rfl, hg, hh, hc1, hc2, hsz, hcur⟩
  · have hl0 : l = [] := List.length_eq_zero_iff.1 h0
    subst hl0
    refine (Try.slices_Sort_int_none none 0 wr).mono ?_
    rintro e w' ⟨rfl, hw⟩
    subst hw
    have e0 : srt [] = [] := by simp [srt]
    rw [e0]
    exact ⟨rfl, World.ownsRow_nil _ _ _ _, hb⟩
  · rw [Nat.mul_one] at hcur
    refine (Try.slices_Sort_int g 0 cap l wr (holds_of_blockI hh hcur) (Array.getElem?_eq_some_iff.1 hh).1 (by omega)).mono ?_
    rintro e w' ⟨rfl, n, os, rfl⟩
    refine ⟨rfl, ?_, hb.grown (grownBy_sortedI _) hb.size (fun j hj => by cases hj; exact hg)⟩
    have ho := ownsRow_sortedI (n := n) (os := os) (ss := l) (ts := srt l) (srt_len l) hg hh hc1 hc2 hsz
    rw [srt_len]
    exact ho

theorem badL_succ (d s R j : Nat) (N : Nat → Int) (X : Nat → Nat → Int) (D : Nat → Int) : badL d s R (j + 1) N X D = badL d s R j N X D ++ (if alB d s R N X D j = true then [] else [N j]) := by
  unfold badL
  rw [List.range_succ, List.filter_append, List.map_append]
  cases h : alB d s R N X D j <;> simp [h]

theorem badL_len (d s R j : Nat) (N : Nat → Int) (X : Nat → Nat → Int) (D : Nat → Int) : (badL d s R j N X D).length ≤ j := by
  unfold badL
  rw [List.length_map]
  refine Nat.le_trans (List.length_filter_le _ _) ?_
  simp

theorem splitE_fit {d m s : Nat} {D : Nat → Int} (hp : planOk (d : Int) (m : Int) (s : Int) = true) (hD : ∀ j, j < s → 0 ≤ D j ∧ D j ≤ 30) : splitE (d : Int) (m : Int) (s : Int) s D = 0 := by
  unfold splitE
  have h4 : numsB s D = true := decide_eq_true fun j hj => (isNum_iff _).2 (hD j hj)
  rw [if_pos hp, if_pos rfl, if_pos h4]

set_option maxHeartbeats 2000000 in
set_option maxRecDepth 10000 in
theorem bent_any (O : Owes) (d m s R n : Nat) (v : Value) (N : Nat → Int) (V : Nat → Value) (L : Nat → Nat) (X : Nat → Nat → Int) (vd : Value) (D : Nat → Int) (w : World) (hS : Shares d m s R n N L X) (h : ShSl w w.heap.size v n N V L X) (hd : IntSl w w.heap.size vd s D) (hD : ∀ j, j < s → 0 ≤ D j ∧ D j ≤ 30) :
    Calls Try.prog 51 #[planV d m s, v, vd] w fun e w' => Below w.heap.size w w' ∧ ∃ b, e = .returned b ∧ OwnL w w' b (srt (badL d s R n N X D)) := by
  have hbx := below_alloc w (.cells #[.int .i64 (d : Int), .int .i64 (m : Int), .int .i64 (s : Int)] 23)
  have HSp := hid (O.split (d : Int) (m : Int) (s : Int) vd s D _ (hd.up hbx))
  have HSh := hid hS
  have HBx := hid hbx
  have HLe := hid hS.le
  obtain ⟨a1, a2, a3⟩ := planOk_spec hS.plan
  have hE := splitE_fit hS.plan hD
  rw [hE] at HSp
  have hRr := hS.rows
  rw [hRr] at HSp
  rw [Int.toNat_natCast] at HSp
  obtain ⟨ad, cap, rfl, ⟨hcap, hbig⟩, hx⟩ := h
  obtain ⟨advd, cvd, rfl, _, _⟩ := hd
  obtain ⟨ii, hi, hzz0, hzz1, hzz2⟩ := info_parts Try.infoInt
  have hn8 := hS.le
  rcases hx with h0 | ⟨b, off, rfl, hb, hx⟩
  · omega
  have HXc := hid hx
  clear hbx hS hE hRr hx hD
  unfold planV
  go_enter Try.func51, Try.ntmps51
  go_wp2_with fail
  refine HSp.out.mono ?_
  rintro e w1 ⟨hb1, r, mm, Vs, rfl, hmm, hsl, -, -⟩
  simp only [if_true] at hmm
  have hmm' : m = mm := by omega
  subst hmm'
  have HB1 := hid (HBx.out.trans (hb1.mono HBx.out.size))
  obtain ⟨adr, capr, rfl, ⟨hcapr, _⟩, hxr⟩ := hsl
  rcases hxr with h0 | ⟨br, offr, rfl, hbr, hxr⟩
  · omega
  have HXr := hid hxr
  clear hb1 hxr hmm
  go_wp2
  go_loopw [9, 20] (fun vn iv wr => ∃ j : Nat, j ≤ n ∧ iv = .int .i64 j ∧ Hid (OwnL w1 wr vn (badL d s R j N X D))) (fun _ iv _ => n - (intOf iv).toNat)
  case atStart => exact ⟨0, Nat.zero_le _, rfl, OwnL.nil _⟩
  case round =>
    obtain ⟨j, hj, rfl, OW⟩ := hrel
    by_cases hlt : j < n
    · have hji : (j : Int) < (n : Int) := by omega
      obtain ⟨x1, x2, x3⟩ := HXc.out j hlt
      have HBr := hid (HB1.out.trans (OW.out.2.mono HB1.out.size))
      have HI3 : Hid (∀ w', Below w.heap.size w w' → IntSl w' w'.heap.size (V j) (L j) (X j)) := fun w' hb' => x3.up hb'
      obtain ⟨av, cv, hve, _, _⟩ := x3
      rw [hve] at HI3
      obtain ⟨ν, hν⟩ : ∃ ν : Nat, N j = ν := ⟨(N j).toNat, by have := HSh.out.who j hlt; omega⟩
      have hνb : ν < m := by have := HSh.out.who j hlt; omega
      have hνi : (ν : Int) < (m : Int) := by omega
      have g1 : wr.cell? ⟨b, off + j * 2, none⟩ = some (.int .i64 (ν : Int)) := by rw [HBr.out.cell hb, ← hν]; exact x1
      have g2 : wr.cell? ⟨b, off + j * 2 + 1, none⟩ = some (.slice av (L j) cv) := by rw [HBr.out.cell hb, x2, hve]
      have HN := hid hν
      obtain ⟨y1, y2, y3⟩ := HXr.out ν hνb
      have HI4 : Hid (∀ w', Below w1.heap.size w1 w' → IntSl w' w'.heap.size (Vs ν) R (fun i => shv d s D ν i)) := fun w' hb' => y3.up hb'
      obtain ⟨av2, cv2, hve2, _, _⟩ := y3
      rw [hve2] at HI4 y2
      clear x1 x2 hve hν hve2
      have hbA := below_alloc wr (.cells #[.int .i64 (ν : Int), .slice av (L j) cv] 27)
      obtain ⟨W, hW⟩ : ∃ W, wr.alloc (.cells #[.int .i64 (ν : Int), .slice av (L j) cv] 27) = W := ⟨_, rfl⟩
      rw [hW] at hbA
      have s0 : W.cell? ⟨wr.heap.size, 0, none⟩ = some (.int .i64 (ν : Int)) := by rw [← hW]; exact cell_at (heap_alloc_new _ _) rfl
      have s1 : W.cell? ⟨wr.heap.size, 1, none⟩ = some (.slice av (L j) cv) := by rw [← hW]; exact cell_at (heap_alloc_new _ _) rfl
      have HB1W := hid (OW.out.2.trans (hbA.mono OW.out.2.size))
      have HBwW := hid (HB1.out.trans (HB1W.out.mono HB1.out.size))
      have OWA := hid (OW.out.up hbA)
      have hne : Nonempty (Of (Below W.heap.size W)) := ⟨⟨W, Below.refl _ _⟩⟩
      have F3 : ∀ u : Of (Below W.heap.size W), u.val.cell? ⟨wr.heap.size, 0, none⟩ = some (.int .i64 (ν : Int)) := fun u => by rw [u.is.cell (cell_lt s0)]; exact s0
      have F4 : ∀ u : Of (Below W.heap.size W), u.val.cell? ⟨wr.heap.size, 1, none⟩ = some (.slice av (L j) cv) := fun u => by rw [u.is.cell (cell_lt s1)]; exact s1
      have F5 : ∀ u : Of (Below W.heap.size W), u.val.cell? ⟨br, offr + ν * 2, none⟩ = some (.int .i64 (ν : Int)) := fun u => by rw [(HB1W.out.trans (u.is.mono HB1W.out.size)).cell hbr]; exact y1
      have F6 : ∀ u : Of (Below W.heap.size W), u.val.cell? ⟨br, offr + ν * 2 + 1, none⟩ = some (.slice av2 R cv2) := fun u => by rw [(HB1W.out.trans (u.is.mono HB1W.out.size)).cell hbr]; exact y2
      clear hbA y1 y2
      go_wp2_with fail
      have HDr : Hid (Below W.heap.size W W.drew) := ⟨rfl, rfl, rfl, Nat.le_refl _, fun _ _ => rfl⟩
      refine region_mixed (Below W.heap.size W) [([0, 1, 2, 3, 4, 5], 6)] [7] (by kernel_rfl) (by kernel_rfl) HDr.out ?_
      refine mixO_cons ?_
      repeat (go_big_quiet_step (fail))
      refine wpQuiet_nil ?_
      intro K hK
      go_wp2_with fail
      refine Calls.mono (O.same (ν : Int) (ν : Int) _ _ (L j) R (X j) _ W.drew (HI3.out W.drew (HBwW.out.trans (HDr.out.mono HBwW.out.size))) (HI4.out W.drew (HB1W.out.trans (HDr.out.mono HB1W.out.size)))) ?_
      rintro e w4 ⟨rfl, hb4⟩
      have HB4 := hid (HDr.out.trans (hb4.mono HDr.out.size))
      have hsm := sameB_al HSh.out D j ν hlt HN.out
      rw [HN.out] at hsm
      rw [hsm]
      have OW4 := hid (OWA.out.up HB4.out)
      have hll := badL_len d s R j N X D
      have hsc := badL_succ d s R j N X D
      rw [HN.out] at hsc
      have HSc := hid hsc
      clear hb4 hsm hsc
      cases hdj : alB d s R N X D j with
      | true =>
        go_wp2
        refine ⟨rfl, hK _ _ HB4.out ?_⟩
        clear hK K
        refine mixO_nil ?_
        repeat (go_big_quiet_step (fail))
        refine wpQuiet_nil ?_
        go_wp2
        go_roundw
        case rel =>
          refine ⟨j + 1, by omega, by go_num, ?_⟩
          have h9 := HSc.out
          rw [if_pos hdj, List.append_nil] at h9
          rw [h9]
          exact OW4.out
        case measure => simp only [intOf]; omega
      | false =>
        go_wp2
        refine ⟨rfl, hK _ _ HB4.out ?_⟩
        clear hK K
        refine mixO_nil ?_
        repeat (go_big_quiet_step (fail))
        refine wpQuiet_nil ?_
        have s4 : w4.cell? ⟨wr.heap.size, 0, none⟩ = some (.int .i64 (ν : Int)) := by rw [HB4.out.cell (cell_lt s0)]; exact s0
        have hge : w1.heap.size ≤ w4.heap.size := OW4.out.2.size
        go_wp2_with (at_builtin; go_must (refine wpList_append_own _ rfl (.tmp 32) (.tmp 35) 24 rfl w1.heap.size 3 ii (.int .i64 0) 1 8 Try.underlying24 hi hzz0 hzz1 hzz2 rfl (by decide) _ _ _ rfl (World.ownsRow.alloc OW4.out.1 _) ⟨_, 0, none⟩ 1 1 [.int .i64 (ν : Int)] rfl rfl (newCell _ _ _) (oneCell _) (by unfold maxLen; omega) (by omega) (by simp; omega) ?_; intro v1 w6 ho6 hg6 _; have O6 := hid (OW4.out.push ho6 hg6); clear ho6 hg6))
        go_roundw
        case rel =>
          refine ⟨j + 1, by omega, by go_num, ?_⟩
          have h9 := HSc.out
          rw [if_neg (by rw [hdj]; decide)] at h9
          rw [h9]
          exact O6.out
        case measure => simp only [intOf]; omega
    · have hje : j = n := by omega
      subst hje
      have hll := badL_len d s R j N X D
      go_wp2_with fail
      refine Calls.mono (sort_own OW.out (by omega)) ?_
      rintro e w5 ⟨rfl, h5⟩
      have HO5 := hid h5
      clear h5
      go_wp2
      go_ret
      refine ⟨HB1.out.trans (HO5.out.2.mono HB1.out.size), _, rfl, ?_, HB1.out.trans (HO5.out.2.mono HB1.out.size)⟩
      exact owns_base HO5.out.1 HB1.out.size

end Go.Proofs.Ytfcpmpcfbhkacaa
