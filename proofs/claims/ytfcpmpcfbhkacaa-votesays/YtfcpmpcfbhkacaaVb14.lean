/- Several texts of one proof, in their order. -/
import Derived.Test.YtfcpmpcfbhkacaaVb12
import Derived.Test.YtfcpmpcfbhkacaaVb13

/- What chapter 3's reference makes: the places, a share of a content, all its shares. -/
namespace Go.Proofs.Ytfcpmpcfbhkacaa

open Go.RowKit CurveMath
set_option linter.unusedVariables false

theorem OwnI.pushA {w0 wr w1 : World} {v v' : Value} {k : Nat} {C : Nat → Int} {x : Int} (h : OwnI w0 wr v k C) (o : Obj)
    (ho : w1.ownsRow w0.heap.size 3 1 v' (k + 1) (((List.range k).map fun j => Value.int .i64 (C j)) ++ [.int .i64 x])) (hg : (wr.alloc o).grownBy w1 v.ownBlock) (hx : C k = x) : OwnI w0 w1 v' (k + 1) C :=
  h.push o 0 ho hg hx

theorem places_any (d : Nat) (hd : d ≤ 100) (w : World) :
    Calls Try.prog 61 #[.int .i64 (d : Int)] w fun e w' => ∃ v, e = .returned v ∧ OwnI w w' v d (fun j => (j : Int)) := by
  obtain ⟨ii, hi, hzz0, hzz1, hzz2⟩ := info_parts Try.infoInt
  go_enter Try.func61, Try.ntmps61
  go_wp2
  go_loopw [3, 6] (fun v i wr => ∃ k : Nat, k ≤ d ∧ i = .int .i64 k ∧ Hid (OwnI w wr v k (fun j => (j : Int)))) (fun _ i _ => d - (intOf i).toNat)
  case atStart => exact ⟨0, Nat.zero_le _, rfl, OwnI.nil _ _⟩
  case round =>
    obtain ⟨k, hk, rfl, OW⟩ := hrel
    by_cases hlt : k < d
    · have hi2 : (k : Int) < (d : Int) := by omega
      go_wp2_with (at_builtin; go_must (refine wpList_append_own _ rfl (.tmp 9) (.tmp 11) 24 rfl w.heap.size 3 ii (.int .i64 0) 1 8 Try.underlying24 hi hzz0 hzz1 hzz2 rfl (by decide) _ _ _ rfl (OW.out.owns _ 0) ⟨_, 0, none⟩ 1 1 [.int .i64 (k : Int)] rfl rfl (newCell _ _ _) (oneCell _) (by unfold maxLen; omega) (by omega) (by have := OW.out.2.size; simp; omega) ?_; intro v1 w6 ho6 hg6 _; have O6 := hid (OW.out.pushA _ ho6 hg6 rfl); clear ho6 hg6))
      go_roundw
      case rel => exact ⟨k + 1, by omega, by go_num, O6⟩
      case measure => simp only [intOf]; omega
    · have he : k = d := by omega
      subst he
      go_wp2
      go_ret
      exact ⟨_, rfl, OW.out⟩

/-- what the making of a share holds: the plan, the room for the answer, the share so far -/
structure SoInv (w wr : World) (k d : Nat) (vs : Value) (r : Nat) (C : Nat → Int) : Prop where
  below : Below w.heap.size w wr
  size : w.heap.size + 3 ≤ wr.heap.size
  p0 : wr.cell? ⟨w.heap.size, 0, none⟩ = some (.int .i64 (d : Int))
  q : wr.heap[w.heap.size + 1]? = some (.cells #[.int .i64 0, .slice none 0 0] 27)
  s0 : wr.cell? ⟨w.heap.size + 1 + 1, 0, none⟩ = some (.int .i64 (k : Int))
  s1 : wr.cell? ⟨w.heap.size + 1 + 1, 1, none⟩ = some vs
  g1 : wr.frozen? ⟨w.heap.size + 1 + 1, 1, none⟩ = false
  own : wr.ownsRow (w.heap.size + 3) 3 1 vs r ((List.range r).map fun j => Value.int .i64 (C j))

theorem SoInv.up {w wr w' : World} {k d r : Nat} {vs : Value} {C : Nat → Int} (h : SoInv w wr k d vs r C) (hb : Below wr.heap.size wr w') : SoInv w w' k d vs r C :=
  ⟨h.below.trans (hb.mono h.below.size), Nat.le_trans h.size hb.size, by rw [hb.cell (cell_lt h.p0)]; exact h.p0, by rw [hb.block _ (by have := h.size; omega)]; exact h.q, by rw [hb.cell (cell_lt h.s0)]; exact h.s0, by rw [hb.cell (cell_lt h.s1)]; exact h.s1, by rw [hb.frozen (cell_lt h.s1)]; exact h.g1, owns_below h.own hb⟩

theorem owns_shape {w : World} {base : Nat} {e : TypeId} {sz n : Nat} {v : Value} {xs : List Value} (h : w.ownsRow base e sz v n xs) : ∃ ad cap, v = .slice ad n cap := by
  obtain ⟨_, h2⟩ := h
  rcases h2 with ⟨h1, h0⟩ | ⟨g, cap, cur, h1, _⟩
  · exact ⟨none, 0, by rw [h0]; exact h1⟩
  · exact ⟨_, _, h1⟩

/-- one number more, and stored -/
theorem SoInv.push {w wr w1 : World} {k d r : Nat} {vs vs' : Value} {C : Nat → Int} {x : Int} {o : Obj} (h : SoInv w wr k d vs r C)
    (ho : w1.ownsRow (w.heap.size + 3) 3 1 vs' (r + 1) (((List.range r).map fun j => Value.int .i64 (C j)) ++ [.int .i64 x])) (hg : (wr.alloc o).grownBy w1 vs.ownBlock) (hx : C r = x) :
    SoInv w (w1.setCell ⟨w.heap.size + 1 + 1, 1, none⟩ vs') k d vs' (r + 1) C ∧ w1.cell? ⟨w.heap.size + 1 + 1, 1, none⟩ = some vs ∧ w1.frozen? ⟨w.heap.size + 1 + 1, 1, none⟩ = false ∧ w1.cell? ⟨w.heap.size, 0, none⟩ = some (.int .i64 (d : Int)) := by
  have h2 := h.up (below_alloc wr o)
  have hlo : ∀ g, vs.ownBlock = some g → w.heap.size + 3 ≤ g := fun g hgg => (h.own.lt g hgg).1
  have hne : ∀ b, b < w.heap.size + 3 → some b ≠ vs.ownBlock := fun b hb e => by have := hlo b e.symm; omega
  have hs2 := h2.size
  have hcell : ∀ (a : Addr) (v : Value), a.block < w.heap.size + 3 → (wr.alloc o).cell? a = some v → w1.cell? a = some v := fun a v ha hv => hg.cell hv (hne _ ha)
  have hfro : ∀ (a : Addr), a.block < w.heap.size + 3 → (wr.alloc o).frozen? a = false → w1.frozen? a = false := fun a ha hv => by
    rw [World.frozen?_of_block (hg.block a.block (by omega) (hne _ ha))]
    exact hv
  have hb1 : Below w.heap.size w w1 := h2.below.grown hg h2.below.size (fun g hgg => by have := hlo g hgg; omega)
  have c1 := hcell _ _ (by show w.heap.size + 1 + 1 < _; omega) h2.s1
  have hso : ∀ (a : Addr) (v : Value), a ≠ ⟨w.heap.size + 1 + 1, 1, none⟩ → w1.cell? a = some v → (w1.setCell ⟨w.heap.size + 1 + 1, 1, none⟩ vs').cell? a = some v := fun a v ha hv => by
    rw [World.cell?_setCell_other _ _ _ _ (fun e => ha e.symm)]; exact hv
  refine ⟨⟨hb1.setCell (p := ⟨w.heap.size + 1 + 1, 1, none⟩) (by show w.heap.size ≤ w.heap.size + 1 + 1; omega) _, ?_, ?_, ?_, ?_, ?_, ?_, ?_⟩, c1, hfro _ (by show w.heap.size + 1 + 1 < _; omega) h2.g1, hcell _ _ (by show w.heap.size < _; omega) h2.p0⟩
  · have := hg.size
    simp only [World.setCell, Array.size_modify]
    omega
  · exact hso _ _ (by intro e; injection e with e1; omega) (hcell _ _ (by show w.heap.size < _; omega) h2.p0)
  · have h3 := hg.block (w.heap.size + 1) (by omega) (hne _ (by omega))
    rw [h2.q] at h3
    simp [World.setCell, Array.getElem?_modify, h3]
  · exact hso _ _ (by intro e; injection e with e1 e2; omega) (hcell _ _ (by show w.heap.size + 1 + 1 < _; omega) h2.s0)
  · exact World.cell?_setCell_same _ _ _ c1
  · rw [World.frozen?_setCell]; exact hfro _ (by show w.heap.size + 1 + 1 < _; omega) h2.g1
  · have e : ((List.range (r + 1)).map fun j => Value.int .i64 (C j)) = ((List.range r).map fun j => Value.int .i64 (C j)) ++ [.int .i64 x] := by
      rw [List.range_succ, List.map_append]
      simp only [List.map_cons, List.map_nil, hx]
    rw [e]
    have hkeep : w1.grownBy (w1.setCell ⟨w.heap.size + 1 + 1, 1, none⟩ vs') (some (w.heap.size + 1 + 1)) := grownBy_set ⟨rfl, rfl, rfl, Nat.le_refl _, fun _ _ _ => rfl⟩
    cases hv : vs'.ownBlock with
    | none => exact ho.kept hkeep (Or.inl hv)
    | some g => exact ho.kept hkeep (Or.inr (by rw [hv]; intro e; injection e with e; have := (ho.lt g hv).1; omega))

/-- an own list of ints, at block B or above -/
structure OwnB (B : Nat) (wr : World) (v : Value) (n : Nat) (C : Nat → Int) : Prop where
  own : wr.ownsRow B 3 1 v n ((List.range n).map fun j => Value.int .i64 (C j))

theorem OwnB.isl {B : Nat} {wr : World} {v : Value} {n : Nat} {C : Nat → Int} (h : OwnB B wr v n C) (hn : 1 ≤ n) (hr : n * 8 ≤ 140737488351232) : IntSl wr wr.heap.size v n C := by
  obtain ⟨hl, h2⟩ := h.own
  rcases h2 with ⟨_, h0⟩ | ⟨g, cap, cur, rfl, hg, hh, hc1, hc2, hsz, hcur⟩
  · omega
  · refine ⟨_, cap, rfl, ⟨hc1, hr⟩, Or.inr ⟨g, 0, rfl, ?_, fun j hj => ?_⟩⟩
    · rcases Nat.lt_or_ge g wr.heap.size with h1 | h1
      · exact h1
      · rw [Array.getElem?_eq_none h1] at hh; cases hh
    · rw [Nat.zero_add]
      have h3 : ((List.range n).map fun j => Value.int .i64 (C j))[j]? = some (.int .i64 (C j)) := by simp [hj]
      rw [← hcur, List.getElem?_take, if_pos (by omega)] at h3
      exact cell_at hh (by simpa using h3)

/-- a share of a content -/
def ShareIs (w w' : World) (k : Int) (R : Nat) (X : Nat → Int) (e : Ending) : Prop := ∃ V, e = .returned (shareV k V) ∧ IntSl w' w'.heap.size V R X ∧ Below w.heap.size w w' ∧ Above w.heap.size V

set_option maxHeartbeats 4000000 in
set_option maxRecDepth 10000 in
theorem shareOf_any (d m n : Nat) (sz : Int) (a : Option Addr) (cp : Nat) (D : Nat → Int) (k : Nat) (w : World) (hp : planOk (d : Int) (m : Int) sz = true) (hD : ∀ j, j < n → 0 ≤ D j ∧ D j ≤ 30) (hn : n ≤ 100) (hk : k ≤ 30) {R : Nat} (hR : rowsN (d : Int) sz = R) (h : IntSl w w.heap.size (.slice a n cp) n D) :
    Calls Try.prog 44 #[planV (d : Int) (m : Int) sz, .slice a n cp, .int .i64 (k : Int)] w fun e w' => ShareIs w w' k R (fun r => shv d n D k r) e := by
  obtain ⟨hnd, hof, hsz⟩ := planOk_spec hp
  have hrb := rowsN_bd hnd hsz
  rw [hR] at hrb
  have hRo := fun w => rowsOf_any (d : Int) (m : Int) sz w
  have e2 : longP (d : Int) (m : Int) sz = (R : Int) := by unfold longP; rw [if_pos hp, hR]
  rw [e2] at hRo
  have HRo := hid hRo
  have hdd : 1 ≤ d ∧ d ≤ 4 := by omega
  have hRR : 1 ≤ R ∧ R ≤ 24 := by omega
  have HI := hid h
  have HD := hid hD
  obtain ⟨ii, hi, hzz0, hzz1, hzz2⟩ := info_parts Try.infoInt
  clear hRo e2 hrb hnd hof hsz hp hR h hD
  unfold planV
  go_enter Try.func44, Try.ntmps44
  go_wp2_with fail
  have J0 : SoInv w (((w.alloc (.cells #[.int .i64 (d : Int), .int .i64 (m : Int), .int .i64 sz] 23)).alloc (.cells #[.int .i64 0, .slice none 0 0] 27)).alloc (.cells #[.int .i64 (k : Int), .slice none 0 0] 27)) k d (.slice none 0 0) 0 (fun r => shv d n D k r) := by
    have hP := (below_alloc (w.alloc (.cells #[.int .i64 (d : Int), .int .i64 (m : Int), .int .i64 sz] 23)) (.cells #[.int .i64 0, .slice none 0 0] 27))
    have hQ := (below_alloc ((w.alloc (.cells #[.int .i64 (d : Int), .int .i64 (m : Int), .int .i64 sz] 23)).alloc (.cells #[.int .i64 0, .slice none 0 0] 27)) (.cells #[.int .i64 (k : Int), .slice none 0 0] 27))
    have z1 : (w.alloc (.cells #[.int .i64 (d : Int), .int .i64 (m : Int), .int .i64 sz] 23)).heap.size = w.heap.size + 1 := by simp
    have z2 : ((w.alloc (.cells #[.int .i64 (d : Int), .int .i64 (m : Int), .int .i64 sz] 23)).alloc (.cells #[.int .i64 0, .slice none 0 0] 27)).heap.size = w.heap.size + 1 + 1 := by simp
    have hh1 := heap_alloc_new w (.cells #[.int .i64 (d : Int), .int .i64 (m : Int), .int .i64 sz] 23)
    have hh2 := heap_alloc_new (w.alloc (.cells #[.int .i64 (d : Int), .int .i64 (m : Int), .int .i64 sz] 23)) (.cells #[.int .i64 0, .slice none 0 0] 27)
    have hh3 := heap_alloc_new ((w.alloc (.cells #[.int .i64 (d : Int), .int .i64 (m : Int), .int .i64 sz] 23)).alloc (.cells #[.int .i64 0, .slice none 0 0] 27)) (.cells #[.int .i64 (k : Int), .slice none 0 0] 27)
    rw [z1] at hh2
    rw [z2] at hh3
    have l1 := cell_at (i := 0) hh1 rfl
    have b1 := cell_lt l1
    have b3 := Nat.lt_of_lt_of_le b1 hP.size
    refine ⟨?_, by simp, ?_, ?_, cell_at hh3 rfl, cell_at hh3 rfl, frozen_at hh3, World.ownsRow_nil _ _ _ _⟩
    · exact (((Below.refl w.heap.size w).alloc (Nat.le_refl _) _).alloc (by simp) _).alloc (by simp; omega) _
    · rw [hQ.cell b3, hP.cell b1]; exact l1
    · rw [hQ.block _ (by simp)]; exact hh2
  refine Calls.mono (HRo.out _) ?_
  rintro e w1 ⟨rfl, hb1⟩
  have J1 := hid (J0.up hb1)
  clear J0 hb1
  go_wp2
  go_loopw [16] (fun iv wr => ∃ (r : Nat) (vs : Value), r ≤ R ∧ iv = .int .i64 r ∧ Hid (SoInv w wr k d vs r (fun r => shv d n D k r))) (fun iv _ => R - (intOf iv).toNat)
  case atStart => exact ⟨0, _, Nat.zero_le _, rfl, J1⟩
  case round =>
    obtain ⟨r, vs, hr, rfl, J⟩ := hrel
    obtain ⟨ar, cr, hvs⟩ := owns_shape J.out.own
    subst hvs
    by_cases hlt : r < R
    · have hri : (r : Int) < (R : Int) := by omega
      have p0 := J.out.p0
      go_wp2_with (at_make; refine wpList_make_full _ rfl (.tmp 20) (.tmp 20) 24 rfl _ 3 ii (.int .i64 0) 1 Try.underlying24 hi hzz0 hzz1 _ _ _ _ d rfl rfl rfl rfl (by rw [hzz2]; omega) (by unfold maxLen; omega) (Nat.le_refl _) ?_; intro w2 ho2 hg2; have R2 := hid (row_made ho2 hg2); clear ho2 hg2)
      have hrd : 0 ≤ (r : Int) * (d : Int) ∧ (r : Int) * (d : Int) ≤ 100 := ⟨Int.mul_nonneg (by omega) (by omega), by
        have h1 : (r : Int) * (d : Int) ≤ (r : Int) * 4 := Int.mul_le_mul_of_nonneg_left (by omega) (by omega)
        omega⟩
      go_loopw [24] (fun iv wq => ∃ i : Nat, i ≤ d ∧ iv = .int .i64 i ∧ Hid (Row wr wq wr.heap.size d (fun j => if j < i then padD n D (r * d + j) else 0))) (fun iv _ => d - (intOf iv).toNat)
      case atStart => exact ⟨0, Nat.zero_le _, rfl, R2.out.congr fun j hj => by rw [if_neg (by omega)]⟩
      case round =>
        obtain ⟨i, hid', rfl, RW⟩ := hrel
        have JW := hid (J.out.up RW.out.below)
        by_cases hil : i < d
        · have hii : (i : Int) < (d : Int) := by omega
          have c0 := RW.out.cell i hil
          have c1 := RW.out.free i hil
          have p0 := JW.out.p0
          by_cases hin : r * d + i < n
          · have hin2 : (r : Int) * (d : Int) + (i : Int) < (n : Int) := by
              have h1 : ((r * d + i : Nat) : Int) = (r : Int) * (d : Int) + (i : Int) := by simp
              omega
            have hod : ∃ bo oo, a = some ⟨bo, oo, none⟩ ∧ wr.cell? ⟨bo, oo + (r * d + i), none⟩ = some (.int .i64 (D (r * d + i))) := by
              obtain ⟨ad, cp', e, _, h2⟩ := HI.out
              injection e with e4
              subst e4
              rcases h2 with h0 | ⟨bo, oo, rfl, hb, hx⟩
              · omega
              · exact ⟨bo, oo, rfl, by rw [JW.out.below.cell hb]; exact hx _ hin⟩
            obtain ⟨bo, oo, rfl, god⟩ := hod
            go_wp2
            go_roundw
            case rel =>
              refine ⟨i + 1, by omega, by go_num, (RW.out.set i hil (D (r * d + i))).congr fun j hj => ?_⟩
              by_cases e : j = i
              · subst e
                rw [if_pos rfl, if_pos (by omega)]
                unfold padD
                rw [if_pos hin]
              · rw [if_neg e]
                by_cases e2 : j < i
                · rw [if_pos e2, if_pos (by omega)]
                · rw [if_neg e2, if_neg (by omega)]
            case measure => simp only [intOf]; omega
          · have hin2 : (n : Int) ≤ (r : Int) * (d : Int) + (i : Int) := by
              have h1 : ((r * d + i : Nat) : Int) = (r : Int) * (d : Int) + (i : Int) := by simp
              omega
            go_wp2
            go_roundw
            case rel =>
              refine ⟨i + 1, by omega, by go_num, RW.out.congr fun j hj => ?_⟩
              by_cases e : j = i
              · subst e
                rw [if_neg (Nat.lt_irrefl _), if_pos (by omega)]
                unfold padD
                rw [if_neg hin]
              · by_cases e2 : j < i
                · rw [if_pos e2, if_pos (by omega)]
                · rw [if_neg e2, if_neg (by omega)]
            case measure => simp only [intOf]; omega
        · have hie : i = d := by omega
          subst hie
          have RW2 := hid (RW.out.congr (D := fun j => padD n D (r * i + j)) fun j hj => by rw [if_pos hj])
          have hy := hid (RW2.out.isl (Nat.le_refl _) (by omega))
          clear RW2
          have hne : Nonempty (Of (fun w' : World => w'.cell? ⟨w.heap.size + 1 + 1, 1, none⟩ = some (.slice ar r cr) ∧ w'.cell? ⟨w.heap.size, 0, none⟩ = some (.int .i64 (i : Int)))) := ⟨⟨wr, JW.out.s1, JW.out.p0⟩⟩
          have F0 : ∀ u : Of (fun w' : World => w'.cell? ⟨w.heap.size + 1 + 1, 1, none⟩ = some (.slice ar r cr) ∧ w'.cell? ⟨w.heap.size, 0, none⟩ = some (.int .i64 (i : Int))), u.val.cell? ⟨w.heap.size + 1 + 1, 1, none⟩ = some (.slice ar r cr) := fun u => u.is.1
          have F1 : ∀ u : Of (fun w' : World => w'.cell? ⟨w.heap.size + 1 + 1, 1, none⟩ = some (.slice ar r cr) ∧ w'.cell? ⟨w.heap.size, 0, none⟩ = some (.int .i64 (i : Int))), u.val.cell? ⟨w.heap.size, 0, none⟩ = some (.int .i64 (i : Int)) := fun u => u.is.2
          go_wp2_with fail
          refine region_mixed_last (fun w' : World => w'.cell? ⟨w.heap.size + 1 + 1, 1, none⟩ = some (.slice ar r cr) ∧ w'.cell? ⟨w.heap.size, 0, none⟩ = some (.int .i64 (i : Int))) [([0, 1, 2, 3, 5, 6], 4), ([], 7), ([], 8), ([], 9)] [10] 11 (by kernel_rfl) (by kernel_rfl) ⟨JW.out.s1, JW.out.p0⟩ ?_
          refine mixO_cons ?_
          repeat (go_big_quiet_step (fail))
          refine wpQuiet_nil ?_
          intro K hK
          go_wp2_with fail
          refine Calls.mono (places_any i (by omega) _) ?_
          rintro e w5 ⟨vp, rfl, hvp⟩
          have hb5 : Below wr.heap.size wr w5 := Below.trans (⟨rfl, rfl, rfl, Nat.le_refl _, fun _ _ => rfl⟩ : Below wr.heap.size wr wr.drew) hvp.2
          have J5 := hid (JW.out.up hb5)
          have HY5 := hid (hy.out.up hb5)
          have HVp := hid (hvp.isl hdd.1 (by omega))
          clear hvp hb5
          go_wp2
          refine ⟨rfl, hK _ _ ⟨J5.out.s1, J5.out.p0⟩ ?_⟩
          clear hK K
          refine mixO_cons (lq := []) ?_ rfl
          refine wpQuiet_nil ?_
          intro K hK
          go_wp2_with fail
          refine Calls.mono (valueAt_good vp _ i (fun j => (j : Int)) (fun j => padD n D (r * i + j)) (k : Int) w5 HVp.out HY5.out (good_row ⟨hdd.1, by omega⟩ HD.out r) ⟨by omega, by omega⟩) ?_
          rintro e w6 ⟨rfl, hb6⟩
          have J6 := hid (J5.out.up hb6)
          clear hb6
          have hsv : crv i (fun j => (j : Int)) (fun j => padD n D (r * i + j)) (k : Int) = shv i n D k r := rfl
          rw [hsv]
          obtain ⟨x, hx⟩ : ∃ x, shv i n D k r = x := ⟨_, rfl⟩
          rw [hx]
          have HX := hid hx
          clear hsv hx
          go_wp2
          refine ⟨rfl, hK _ _ ⟨J6.out.s1, J6.out.p0⟩ ?_⟩
          clear hK K
          refine mixO_cons (lq := []) ?_ rfl
          refine wpQuiet_nil ?_
          intro K hK
          go_wp2_with fail
          have J7 := J6.out.up (below_alloc w6 (.cells #[.int .i64 x] 3))
          refine ⟨rfl, hK _ _ ⟨J7.s1, J7.p0⟩ ?_⟩
          clear hK K J7
          refine mixO_cons (lq := []) ?_ rfl
          refine wpQuiet_nil ?_
          intro K hK
          go_wp2_with (at_builtin; go_must (refine wpList_append_own _ rfl (.tmp 46) (.tmp 53) 24 rfl (w.heap.size + 3) 3 ii (.int .i64 0) 1 8 Try.underlying24 hi hzz0 hzz1 hzz2 rfl (by decide) _ _ _ rfl (World.ownsRow.alloc J6.out.own _) ⟨_, 0, none⟩ 1 1 [.int .i64 x] rfl rfl (newCell _ _ _) (oneCell _) (by unfold maxLen; omega) (by omega) (by have := J6.out.size; simp; omega) ?_; intro v1 w7 ho7 hg7 _))
          obtain ⟨J8, s8, g8, p8⟩ := J6.out.push (C := fun r => shv i n D k r) ho7 hg7 HX.out
          obtain ⟨ad8, cp8, hv8⟩ := owns_shape ho7
          subst hv8
          refine ⟨rfl, hK _ _ ⟨s8, p8⟩ ?_⟩
          have J9 := hid J8
          clear hK K J8 ho7 hg7
          refine mixO_last ?_
          repeat (go_big_quiet_step (fail))
          refine wpQuiet_nil ?_
          go_wp2
          go_roundw
          case rel => exact ⟨r + 1, _, by omega, by go_num, J9⟩
          case measure => simp only [intOf]; omega
    · have he : r = R := by omega
      subst he
      have q0 := cell_at (i := 0) J.out.q rfl
      have q1 := cell_at (i := 1) J.out.q rfl
      have f0 := frozen_at (i := 0) J.out.q
      have f1 := frozen_at (i := 1) J.out.q
      have s0 := J.out.s0
      have s1 := J.out.s1
      go_wp2
      have hkeep : wr.grownBy ((wr.setCell ⟨w.heap.size + 1, 0, none⟩ (.int .i64 (k : Int))).setCell ⟨w.heap.size + 1, 1, none⟩ (.slice ar r cr)) (some (w.heap.size + 1)) := grownBy_set (grownBy_set ⟨rfl, rfl, rfl, Nat.le_refl _, fun _ _ _ => rfl⟩)
      have hown := J.out.own.kept hkeep (by
        cases hv : (Value.slice ar r cr).ownBlock with
        | none => exact Or.inl rfl
        | some g => exact Or.inr (by intro e; injection e with e; have := (J.out.own.lt g hv).1; omega))
      have hheap : ((wr.setCell ⟨w.heap.size + 1, 0, none⟩ (.int .i64 (k : Int))).setCell ⟨w.heap.size + 1, 1, none⟩ (.slice ar r cr)).heap[w.heap.size + 1]? = some (.cells #[.int .i64 (k : Int), .slice ar r cr] 27) := by
        simp [World.setCell, Array.getElem?_modify, J.out.q]
      have hbl : Below w.heap.size w ((wr.setCell ⟨w.heap.size + 1, 0, none⟩ (.int .i64 (k : Int))).setCell ⟨w.heap.size + 1, 1, none⟩ (.slice ar r cr)) :=
        Below.setCell (Below.setCell J.out.below (by show w.heap.size ≤ w.heap.size + 1; omega) _) (by show w.heap.size ≤ w.heap.size + 1; omega) _
      refine bodyPost_ret (results_cell_row rfl _ _ (w.heap.size + 1) 27 #[.int .i64 (k : Int), .slice ar r cr] (0, 0) _ rfl hheap Try.underlying27 rfl (by kernel_rfl)) rfl ?_
      refine ⟨_, rfl, ?_, hbl, fun ad n' c' e' => ?_⟩
      rotate_left
      · injection e' with e1
        have h9 := (J.out.own.lt ad.block (by rw [e1]; rfl)).1
        omega
      exact (⟨hown⟩ : OwnB (w.heap.size + 3) _ _ _ _).isl hRR.1 (by omega)

end Go.Proofs.Ytfcpmpcfbhkacaa
