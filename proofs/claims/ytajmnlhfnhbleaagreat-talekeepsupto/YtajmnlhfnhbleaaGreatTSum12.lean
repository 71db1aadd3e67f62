/- Several texts of one proof, in their order. -/
import Derived.Test.YtajmnlhfnhbleaaGreatTSum4
import Derived.Test.YtajmnlhfnhbleaaGreatTSum3
import Derived.Test.YtajmnlhfnhbleaaGreatTSum7
import Derived.Test.YtajmnlhfnhbleaaGreatTSum11
import Derived.Test.YtajmnlhfnhbleaaGreatTSum1
import Derived.Test.YtajmnlhfnhbleaaGreatTSum10

namespace Go.Proofs.YtajmnlhfnhbleaaGreat

open Go.RowKit
set_option linter.unusedVariables false

theorem cell_set_lit {w : World} {g o g' o' : Nat} (h : g' ≠ g ∨ o' ≠ o) (u : Value) : (w.setCell ⟨g, o, none⟩ u).cell? ⟨g', o', none⟩ = w.cell? ⟨g', o', none⟩ := by
  by_cases hg : g' = g
  · subst hg
    have ho : o' ≠ o := by rcases h with h | h; exact absurd rfl h; exact h
    unfold World.cell? World.setCell
    simp only [Array.getElem?_modify]
    cases hb : w.heap[g']? with
    | none => simp
    | some x =>
      cases x <;> simp [Array.getElem?_setIfInBounds_ne (Ne.symm ho)]
  · exact World.cell?_of_block (Below.heap_setCell _ _ _ _ (by show g' ≠ g; exact hg))

theorem cell_set_same {w : World} {g o : Nat} {v : Value} (h : w.cell? ⟨g, o, none⟩ = some v) (u : Value) : (w.setCell ⟨g, o, none⟩ u).cell? ⟨g, o, none⟩ = some u := by
  unfold World.cell? at h
  unfold World.cell? World.setCell
  simp only [Array.getElem?_modify]
  cases hb : w.heap[g]? with
  | none => rw [hb] at h; simp at h
  | some x =>
    rw [hb] at h
    cases x with
    | cells c e f =>
      simp at h
      have ho : o < c.size := (Array.getElem?_eq_some_iff.1 h).1
      simp [ho]
    | _ => simp at h

theorem world_eq {w w' : World} (h1 : w'.heap = w.heap) (h2 : w'.tape = w.tape) (h3 : w'.drawn = w.drawn) (h4 : w'.os = w.os) (h5 : w'.output = w.output) : w' = w := by
  cases w'
  cases w
  simp_all

theorem setCell_same {w : World} {g o : Nat} {u : Value} (h : w.cell? ⟨g, o, none⟩ = some u) : w.setCell ⟨g, o, none⟩ u = w := by
  refine world_eq ?_ rfl rfl rfl rfl
  unfold World.cell? at h
  unfold World.setCell
  apply Array.ext_getElem?
  intro i
  simp only [Array.getElem?_modify]
  by_cases hi : g = i
  · subst hi
    rw [if_pos rfl]
    cases hb : w.heap[g]? with
    | none => rfl
    | some x =>
      rw [hb] at h
      cases x with
      | cells c e f =>
        simp at h
        obtain ⟨ho, hoe⟩ := Array.getElem?_eq_some_iff.1 h
        simp only [Option.map_some, Option.isSome_none, Bool.false_eq_true, if_false, Option.some.injEq, Obj.cells.injEq, and_true]
        apply Array.ext_getElem?
        intro j
        rw [Array.getElem?_setIfInBounds]
        by_cases hj : o = j
        · subst hj; rw [if_pos rfl, if_pos ho, h]
        · rw [if_neg hj]
      | _ => rfl
  · rw [if_neg hi]

theorem frozen_set {w : World} {a b : Addr} {u : Value} : (w.setCell a u).frozen? b = w.frozen? b := by
  unfold World.frozen? World.setCell
  simp only [Array.getElem?_modify]
  by_cases h : a.block = b.block
  · rw [if_pos h]
    cases hb : w.heap[b.block]? with
    | none => rfl
    | some x => cases x <;> rfl
  · rw [if_neg h]

theorem isl_slice {w : World} {B g o : Nat} {v : Value} {m : Nat} {X : Nat → Int} {a : Option Addr} {n c : Nat} (h : IntSl w B v m X) (hc : w.cell? ⟨g, o, none⟩ = some (.slice a n c)) (u : Value) : IntSl (w.setCell ⟨g, o, none⟩ u) B v m X := by
  obtain ⟨ad, cap, rfl, h0, h2⟩ := h
  refine ⟨ad, cap, rfl, h0, ?_⟩
  rcases h2 with h2 | ⟨b, off, rfl, h4, h5⟩
  · exact Or.inl h2
  · refine Or.inr ⟨b, off, rfl, h4, fun j hj => ?_⟩
    have h6 := h5 j hj
    rw [cell_set_lit]
    · exact h6
    · by_cases e1 : b = g
      · right
        intro e2
        rw [e1, e2, hc] at h6
        injection h6 with h6
        cases h6
      · exact Or.inl e1

theorem kel_slice {w : World} {B g o : Nat} {v : Value} {m : Nat} {UV : Nat → Value} {t : Kt} {a : Option Addr} {n c : Nat} {th : Bool} (h : KeSl w B v m UV t) (hc : w.cell? ⟨g, o + 2, none⟩ = some (.slice a n c)) (hb : w.cell? ⟨g, o, none⟩ = some (.bool th)) (u : Value) : KeSl (w.setCell ⟨g, o + 2, none⟩ u) B v m UV t := by
  obtain ⟨ad, cap, rfl, h0, h2⟩ := h
  refine ⟨ad, cap, rfl, h0, ?_⟩
  rcases h2 with h2 | ⟨b, off, rfl, h4, h5⟩
  · exact Or.inl h2
  · refine Or.inr ⟨b, off, rfl, h4, fun j hj => ?_⟩
    obtain ⟨x0, x1, x2, x3⟩ := h5 j hj
    refine ⟨?_, ?_, ?_, isl_slice x3 hc u⟩
    · rw [cell_set_lit]
      · exact x0
      · by_cases e1 : b = g
        · right; intro e2; rw [e1, e2, hc] at x0; injection x0 with x0; cases x0
        · exact Or.inl e1
    · rw [cell_set_lit]
      · exact x1
      · by_cases e1 : b = g
        · right; intro e2; rw [e1, e2, hc] at x1; injection x1 with x1; cases x1
        · exact Or.inl e1
    · rw [cell_set_lit]
      · exact x2
      · by_cases e1 : b = g
        · right
          intro e2
          have e3 : off + j * 3 = o := by omega
          rw [e1, e3, hb] at x0
          injection x0 with x0
          cases x0
        · exact Or.inl e1

def flatP (KV : Nat → Value) (P : Ps) (np : Nat) : List Value := (List.range np).flatMap fun k => [.bool (P.th k), .int .i64 (P.rm k), KV k]

theorem flatP_len (KV : Nat → Value) (P : Ps) (np : Nat) : (flatP KV P np).length = np * 3 := by
  induction np with
  | zero => rfl
  | succ np ih =>
    unfold flatP at ih ⊢
    rw [List.range_succ, List.flatMap_append, List.length_append, ih]
    simp
    omega

theorem flatP_succ (KV : Nat → Value) (P : Ps) (np : Nat) : flatP KV P (np + 1) = flatP KV P np ++ [.bool (P.th np), .int .i64 (P.rm np), KV np] := by
  unfold flatP
  rw [List.range_succ, List.flatMap_append]
  simp

theorem flatP_get (KV : Nat → Value) (P : Ps) : ∀ (np k : Nat), k < np → (flatP KV P np)[k * 3]? = some (.bool (P.th k)) ∧ (flatP KV P np)[k * 3 + 1]? = some (.int .i64 (P.rm k)) ∧ (flatP KV P np)[k * 3 + 2]? = some (KV k) := by
  intro np
  induction np with
  | zero => intro k hk; omega
  | succ np ih =>
    intro k hk
    rw [flatP_succ]
    by_cases e : k = np
    · subst e
      have hl := flatP_len KV P k
      refine ⟨?_, ?_, ?_⟩
      · rw [List.getElem?_append_right (by omega), hl, Nat.sub_self]; rfl
      · rw [List.getElem?_append_right (by omega), hl, show k * 3 + 1 - k * 3 = 1 by omega]; rfl
      · rw [List.getElem?_append_right (by omega), hl, show k * 3 + 2 - k * 3 = 2 by omega]; rfl
    · have hl := flatP_len KV P np
      obtain ⟨h1, h2, h3⟩ := ih k (by omega)
      refine ⟨?_, ?_, ?_⟩
      · rw [List.getElem?_append_left (by omega)]; exact h1
      · rw [List.getElem?_append_left (by omega)]; exact h2
      · rw [List.getElem?_append_left (by omega)]; exact h3

theorem flatP_one {KV : Nat → Value} {P : Ps} {np : Nat} (h : ∀ k, k < np → (KV k).oneCell' = true) : ∀ u ∈ flatP KV P np, u.oneCell' = true := by
  intro u hu
  unfold flatP at hu
  obtain ⟨i, hi, hu⟩ := List.mem_flatMap.1 hu
  simp only [List.mem_cons, List.not_mem_nil, or_false] at hu
  rcases hu with rfl | rfl | rfl
  · rfl
  · rfl
  · exact h i (List.mem_range.1 hi)

structure RowP (wr : World) (g np : Nat) (KV : Nat → Value) (P : Ps) : Prop where
  cell : ∀ k, k < np → wr.cell? ⟨g, k * 3, none⟩ = some (.bool (P.th k)) ∧ wr.cell? ⟨g, k * 3 + 1, none⟩ = some (.int .i64 (P.rm k)) ∧ wr.cell? ⟨g, k * 3 + 2, none⟩ = some (KV k)
  free : ∀ i, i < np * 3 → wr.frozen? ⟨g, i, none⟩ = false
  lt : g < wr.heap.size

theorem RowP.up {wr w' : World} {g np : Nat} {KV : Nat → Value} {P : Ps} (h : RowP wr g np KV P) (hb : Below wr.heap.size wr w') : RowP w' g np KV P :=
  ⟨fun k hk => by
    obtain ⟨h1, h2, h3⟩ := h.cell k hk
    exact ⟨by rw [hb.cell h.lt]; exact h1, by rw [hb.cell h.lt]; exact h2, by rw [hb.cell h.lt]; exact h3⟩,
   fun i hi => by rw [← h.free i hi]; exact World.frozen?_of_block (hb.block g h.lt), Nat.lt_of_lt_of_le h.lt hb.size⟩

theorem RowP.kel {wr : World} {g np cap : Nat} {KV : Nat → Value} {P : Ps} {UV : Nat → Nat → Value} (h : RowP wr g np KV P) (hc : np ≤ cap) (hr : np * 40 ≤ 140737488351232) (hk : ∀ k, k < np → KeSl wr wr.heap.size (KV k) (P.m k) (UV k) (P.t k)) : PsSl wr wr.heap.size (.slice (some ⟨g, 0, none⟩) np cap) np KV UV P := by
  refine ⟨_, cap, rfl, ⟨hc, hr⟩, Or.inr ⟨g, 0, rfl, h.lt, fun k hk' => ?_⟩⟩
  obtain ⟨h1, h2, h3⟩ := h.cell k hk'
  rw [Nat.zero_add]
  exact ⟨h1, h2, h3, hk k hk'⟩

theorem RowP.put {wr : World} {g np q : Nat} {KV : Nat → Value} {P P' : Ps} (h : RowP wr g np KV P) (hq : q < np) (u : Value) (e1 : ∀ k, k < np → P'.th k = P.th k) (e2 : ∀ k, k < np → P'.rm k = P.rm k) : RowP (wr.setCell ⟨g, q * 3 + 2, none⟩ u) g np (fun k => if k = q then u else KV k) P' :=
  ⟨fun k hk => by
    obtain ⟨h1, h2, h3⟩ := h.cell k hk
    rw [e1 k hk, e2 k hk]
    refine ⟨by rw [cell_set_lit (Or.inr (by omega))]; exact h1, by rw [cell_set_lit (Or.inr (by omega))]; exact h2, ?_⟩
    show _ = some (if k = q then u else KV k)
    by_cases e : k = q
    · subst e; rw [if_pos rfl]; exact cell_set_same h3 u
    · rw [if_neg e, cell_set_lit (Or.inr (by omega))]; exact h3,
   fun i hi => by rw [frozen_set]; exact h.free i hi, by simpa [World.setCell] using h.lt⟩

theorem rowP_of {wr : World} {base : Nat} {v : Value} {np : Nat} {KV : Nat → Value} {P : Ps} (h : wr.ownsRow base 41 3 v np (flatP KV P np)) (hn : 1 ≤ np) : ∃ g cap, v = .slice (some ⟨g, 0, none⟩) np cap ∧ base ≤ g ∧ np ≤ cap ∧ RowP wr g np KV P := by
  obtain ⟨hl, h2⟩ := h
  rcases h2 with ⟨rfl, h0⟩ | ⟨g, cap, cur, rfl, hg, hh, hc1, hc2, hsz, hcur⟩
  · omega
  · have key : ∀ i u, i < np * 3 → (flatP KV P np)[i]? = some u → wr.cell? ⟨g, i, none⟩ = some u := fun i u hi h3 => by
      rw [← hcur, List.getElem?_take, if_pos hi] at h3
      exact cell_at hh (by simpa using h3)
    refine ⟨g, cap, rfl, hg, hc1, fun k hk => ?_, fun i hi => frozen_at hh, (Array.getElem?_eq_some_iff.1 hh).1⟩
    obtain ⟨q1, q2, q3⟩ := flatP_get KV P np k hk
    exact ⟨key _ _ (by omega) q1, key _ _ (by omega) q2, key _ _ (by omega) q3⟩

theorem rowP_any {wr : World} {base g0 : Nat} {v : Value} {np : Nat} {KV : Nat → Value} {P : Ps} (h : wr.ownsRow base 41 3 v np (flatP KV P np)) (hg0 : g0 < wr.heap.size) : ∃ av g cap, v = .slice av np cap ∧ (1 ≤ np → av = some ⟨g, 0, none⟩ ∧ base ≤ g) ∧ np ≤ cap ∧ RowP wr g np KV P := by
  by_cases hn : 1 ≤ np
  · obtain ⟨g, cap, e, h1, h2, h3⟩ := rowP_of h hn
    exact ⟨_, g, cap, e, fun _ => ⟨rfl, h1⟩, h2, h3⟩
  · have h0 : np = 0 := by omega
    subst h0
    rcases h.2 with ⟨rfl, _⟩ | ⟨g, cap, cur, rfl, _, _, hc1, _⟩
    · exact ⟨none, g0, 0, rfl, fun h => absurd h hn, Nat.le_refl _, fun k hk => (by omega), fun i hi => (by omega), hg0⟩
    · exact ⟨_, g0, cap, rfl, fun h => absurd h hn, hc1, fun k hk => (by omega), fun i hi => (by omega), hg0⟩

theorem RowP.sl {wr : World} {av : Option Addr} {g np cap : Nat} {KV : Nat → Value} {P : Ps} {UV : Nat → Nat → Value} (h : RowP wr g np KV P) (ha : 1 ≤ np → av = some ⟨g, 0, none⟩) (hc : np ≤ cap) (hr : np * 40 ≤ 140737488351232) (hk : ∀ k, k < np → KeSl wr wr.heap.size (KV k) (P.m k) (UV k) (P.t k)) : PsSl wr wr.heap.size (.slice av np cap) np KV UV P := by
  by_cases hn : 1 ≤ np
  · rw [ha hn]; exact h.kel hc hr hk
  · exact ⟨av, cap, rfl, ⟨hc, hr⟩, Or.inl (by omega)⟩

theorem Tryz.infoPeer : (Tryz.prog.info? 41).map (fun i => (i.zero, i.size, i.bytes)) = some (some (.agg #[.bool false, .int .i64 0, .slice none 0 0]), 3, 40) := by kernel_rfl

theorem cloneP {w : World} {v : Value} {m : Nat} {KV : Nat → Value} {UV : Nat → Nat → Value} {P : Ps} (h : PsSl w w.heap.size v m KV UV P) (hn : m ≤ 1000) :
    Calls Tryz.prog 57 #[v] w fun e w' => ∃ v', e = .returned v' ∧ w'.ownsRow w.heap.size 41 3 v' m (flatP KV P m) ∧ Below w.heap.size w w' := by
  obtain ⟨ad, cap, rfl, ⟨hc, hr⟩, hx⟩ := h
  have q34 : ∀ (w : World) (a : Option Addr) (n c : Nat), (binOp .eql 25 (.slice a n c) (.slice none 0 0)).run Tryz.prog w = .ok (.bool a.isNone) w := fun w a n c => Lib.run_eql_slice_nil w _ _ a n c 0 0 Tryz.underlying25
  cases ad with
  | none =>
    have h0 : m = 0 := by
      rcases hx with h0 | ⟨bl, off, e, _⟩
      · exact h0
      · cases e
    subst h0
    clear hx
    go_enter Tryz.func57, Tryz.ntmps57
    go_wp2
    go_ret
    exact ⟨_, rfl, World.ownsRow_nil _ _ _ _, Below.refl _ _⟩
  | some a =>
    have hnews : ∀ j u, (flatP KV P m)[j]? = some u → w.cell? (Addr.add a j) = some u := by
      intro j u hu
      have hj : j < m * 3 := by
        have := (List.getElem?_eq_some_iff.1 hu).1
        rw [flatP_len] at this
        exact this
      rcases hx with h0 | ⟨bl, off, e, hbl, hx⟩
      · omega
      injection e with e
      subst e
      obtain ⟨g1, g2, g3, _⟩ := hx (j / 3) (by omega)
      obtain ⟨q1, q2, q3⟩ := flatP_get KV P m (j / 3) (by omega)
      rw [Addr.add_lit]
      rcases (show j = j / 3 * 3 ∨ j = j / 3 * 3 + 1 ∨ j = j / 3 * 3 + 2 by omega) with e | e | e
      · rw [e] at hu ⊢
        rw [q1] at hu
        rw [g1, ← hu]
      · rw [e] at hu ⊢
        rw [q2] at hu
        rw [← Nat.add_assoc, g2, ← hu]
      · rw [e] at hu ⊢
        rw [q3] at hu
        rw [← Nat.add_assoc, g3, ← hu]
    have h1 : ∀ u ∈ flatP KV P m, u.oneCell' = true := flatP_one fun i hi => by
      rcases hx with h0 | ⟨bl, off, e, hbl, hx⟩
      · omega
      · obtain ⟨ap, cp, e2, _⟩ := (hx i hi).2.2.2
        rw [e2]; rfl
    have HNw := hid hnews
    have H1 := hid h1
    obtain ⟨ii, hi, hz0, hz1, hz2⟩ := info_parts Tryz.infoPeer
    have HLn : Hid ((flatP KV P m).length = m * 3) := flatP_len KV P m
    obtain ⟨F, hF⟩ : ∃ F, flatP KV P m = F := ⟨_, rfl⟩
    rw [hF] at HNw H1 HLn
    have HF := hid hF
    clear hx hnews h1 hF
    go_enter Tryz.func57, Tryz.ntmps57
    go_wp2_with (at_builtin; go_must (refine wpList_append_own _ rfl _ _ 25 rfl w.heap.size 41 ii (.agg #[.bool false, .int .i64 0, .slice none 0 0]) 3 40 Tryz.underlying25 hi hz0 hz1 hz2 rfl (by decide) _ _ _ rfl (World.ownsRow_made w #[] 0 (Nat.le_refl _) (Nat.zero_le _) (by simp)) a m cap F rfl HLn.out (fun j u hu => Lib.cell?_alloc_some _ (HNw.out j u hu)) H1.out (by unfold maxLen; omega) (by omega) (by simp) ?_; intro v1 w2 ho hg _; have HO := hid ho; have HG := hid hg; clear ho hg))
    go_ret
    refine ⟨_, rfl, ?_, ?_⟩
    · have h := HO.out
      rw [Nat.zero_add, List.nil_append, ← HF.out] at h
      exact h
    · exact ((Below.refl _ _).alloc (Nat.le_refl _) _).grown HG.out (by simp) (fun k hk => by cases hk; exact Nat.le_refl _)

end Go.Proofs.YtajmnlhfnhbleaaGreat

namespace Go.Proofs.YtajmnlhfnhbleaaGreat

open Go.RowKit CurveMath
set_option linter.unusedVariables false

theorem kel_low {w : World} {B g o : Nat} {v : Value} {m : Nat} {UV : Nat → Value} {t : Kt} {a : Option Addr} {n c : Nat} (h : KeSl w B v m UV t) (ho : o < 2) (hc : w.cell? ⟨g, o, none⟩ = some (.slice a n c)) (u : Value) : KeSl (w.setCell ⟨g, o, none⟩ u) B v m UV t := by
  obtain ⟨ad, cap, rfl, h0, h2⟩ := h
  refine ⟨ad, cap, rfl, h0, ?_⟩
  rcases h2 with h2 | ⟨b, off, rfl, h4, h5⟩
  · exact Or.inl h2
  · refine Or.inr ⟨b, off, rfl, h4, fun j hj => ?_⟩
    obtain ⟨x0, x1, x2, x3⟩ := h5 j hj
    refine ⟨?_, ?_, ?_, isl_slice x3 hc u⟩
    · rw [cell_set_lit]
      · exact x0
      · by_cases e1 : b = g
        · right; intro e2; rw [e1, e2, hc] at x0; injection x0 with x0; cases x0
        · exact Or.inl e1
    · rw [cell_set_lit]
      · exact x1
      · by_cases e1 : b = g
        · right; intro e2; rw [e1, e2, hc] at x1; injection x1 with x1; cases x1
        · exact Or.inl e1
    · rw [cell_set_lit (Or.inr (by omega))]
      exact x2

def put2 (w : World) (g : Nat) (u0 u1 : Value) : World := (w.setCell ⟨g, 0, none⟩ u0).setCell ⟨g, 1, none⟩ u1

theorem put2_whole {w : World} {g : Nat} {T : TypeId} {v0 v1 : Value} (h : w.heap[g]? = some (.cells #[v0, v1] T (0, 0))) (u0 u1 : Value) : (put2 w g u0 u1).heap[g]? = some (.cells #[u0, u1] T (0, 0)) := by
  simp [put2, World.setCell, Array.getElem?_modify, h]

theorem put2_below {B : Nat} {w w5 : World} {g : Nat} {u0 u1 : Value} (hb : Below B w w5) (hg : B ≤ g) : Below B w (put2 w5 g u0 u1) :=
  (hb.setCell (p := ⟨g, 0, none⟩) hg _).setCell (p := ⟨g, 1, none⟩) hg _

theorem put2_size {w : World} {g : Nat} {u0 u1 : Value} : (put2 w g u0 u1).heap.size = w.heap.size := by simp [put2, World.setCell]

theorem kel_put2 {w : World} {g : Nat} {T : TypeId} {v : Value} {m : Nat} {UV : Nat → Value} {t : Kt} {a0 a1 : Option Addr} {n0 c0 n1 c1 : Nat} (hg : w.heap[g]? = some (.cells #[.slice a0 n0 c0, .slice a1 n1 c1] T (0, 0))) (h : KeSl w w.heap.size v m UV t) (u0 u1 : Value) : KeSl (put2 w g u0 u1) (put2 w g u0 u1).heap.size v m UV t := by
  rw [put2_size]
  obtain ⟨q0, q1⟩ := two_at hg
  unfold put2
  exact kel_low (kel_low h (by omega) q0 u0) (by omega) (by rw [cell_set_lit (Or.inr (by omega))]; exact q1) u1

theorem drew_grown (w : World) (row : Option Nat) : w.grownBy w.drew row := ⟨rfl, rfl, rfl, Nat.le_refl _, fun _ _ _ => rfl⟩

theorem isl_bool {w : World} {B g o : Nat} {v : Value} {m : Nat} {X : Nat → Int} {x : Bool} (h : IntSl w B v m X) (hc : w.cell? ⟨g, o, none⟩ = some (.bool x)) (u : Value) : IntSl (w.setCell ⟨g, o, none⟩ u) B v m X := by
  obtain ⟨ad, cap, rfl, h0, h2⟩ := h
  refine ⟨ad, cap, rfl, h0, ?_⟩
  rcases h2 with h2 | ⟨b, off, rfl, h4, h5⟩
  · exact Or.inl h2
  · refine Or.inr ⟨b, off, rfl, h4, fun j hj => ?_⟩
    have h6 := h5 j hj
    rw [cell_set_lit]
    · exact h6
    · by_cases e1 : b = g
      · right
        intro e2
        rw [e1, e2, hc] at h6
        injection h6 with h6
        cases h6
      · exact Or.inl e1

theorem kel_bool {w : World} {B g o : Nat} {v : Value} {m : Nat} {UV : Nat → Value} {t : Kt} {x : Bool} (h : KeSl w B v m UV t) (hc : w.cell? ⟨g, o, none⟩ = some (.bool x)) (u : Value) : KeSl (w.setCell ⟨g, o, none⟩ u) B v m UV t := by
  obtain ⟨ad, cap, rfl, h0, h2⟩ := h
  refine ⟨ad, cap, rfl, h0, ?_⟩
  rcases h2 with h2 | ⟨b, off, rfl, h4, h5⟩
  · exact Or.inl h2
  · refine Or.inr ⟨b, off, rfl, h4, fun j hj => ?_⟩
    obtain ⟨x0, x1, x2, x3⟩ := h5 j hj
    have key : ∀ i z, w.cell? ⟨b, i, none⟩ = some z → z ≠ .bool x → (w.setCell ⟨g, o, none⟩ u).cell? ⟨b, i, none⟩ = some z := fun i z hz hne => by
      rw [cell_set_lit]
      · exact hz
      · by_cases e1 : b = g
        · right; intro e2; rw [e1, e2, hc] at hz; injection hz with hz; exact hne hz.symm
        · exact Or.inl e1
    refine ⟨key _ _ x0 (fun e => by cases e), key _ _ x1 (fun e => by cases e), key _ _ x2 (fun e => ?_), isl_bool x3 hc u⟩
    obtain ⟨a, c, e2, _⟩ := x3
    rw [e2] at e
    cases e

theorem ve_two {w : World} {B g o : Nat} {T : TypeId} {v : Value} {n : Nat} {PV : Nat → Value} {b : Bk} {a0 a1 : Option Addr} {n0 c0 n1 c1 : Nat} (hg : w.heap[g]? = some (.cells #[.slice a0 n0 c0, .slice a1 n1 c1] T (0, 0))) (h : VeSl w B v n PV b) (ho : o < 2) (u : Value) : VeSl (w.setCell ⟨g, o, none⟩ u) B v n PV b := by
  obtain ⟨q0, q1⟩ := two_at hg
  have q2 : w.cell? ⟨g, 2, none⟩ = none := by unfold World.cell?; simp [hg]
  have hc : ∃ a n c, w.cell? ⟨g, o, none⟩ = some (.slice a n c) := by
    rcases (show o = 0 ∨ o = 1 by omega) with rfl | rfl
    · exact ⟨_, _, _, q0⟩
    · exact ⟨_, _, _, q1⟩
  obtain ⟨a, m, c, hc⟩ := hc
  obtain ⟨ad, cap, rfl, h0, h2⟩ := h
  refine ⟨ad, cap, rfl, h0, ?_⟩
  rcases h2 with h2 | ⟨bl, off, rfl, h4, h5⟩
  · exact Or.inl h2
  · refine Or.inr ⟨bl, off, rfl, h4, fun j hj => ?_⟩
    obtain ⟨x0, x1, x2, x3, x4⟩ := h5 j hj
    have key : ∀ i z, w.cell? ⟨bl, i, none⟩ = some (.int .i64 z) → (w.setCell ⟨g, o, none⟩ u).cell? ⟨bl, i, none⟩ = some (.int .i64 z) := fun i z hz => by
      rw [cell_set_lit]
      · exact hz
      · by_cases e1 : bl = g
        · right; intro e2; rw [e1, e2, hc] at hz; injection hz with hz; cases hz
        · exact Or.inl e1
    refine ⟨?_, key _ _ x1, key _ _ x2, key _ _ x3, isl_slice x4 hc u⟩
    rw [cell_set_lit]
    · exact x0
    · by_cases e1 : bl = g
      · right
        intro e2
        rw [e1] at x1
        rcases (show o = 0 ∨ o = 1 by omega) with e3 | e3
        · rw [e2, e3, Nat.zero_add, q1] at x1; injection x1 with x1; cases x1
        · rw [e2, e3, q2] at x1; cases x1
      · exact Or.inl e1

theorem ve_put2 {w : World} {g : Nat} {T : TypeId} {v : Value} {n : Nat} {PV : Nat → Value} {b : Bk} {a0 a1 a2 : Option Addr} {n0 c0 n1 c1 n2 c2 : Nat} (hg : w.heap[g]? = some (.cells #[.slice a0 n0 c0, .slice a1 n1 c1] T (0, 0))) (h : VeSl w w.heap.size v n PV b) (u1 : Value) : VeSl (put2 w g (.slice a2 n2 c2) u1) (put2 w g (.slice a2 n2 c2) u1).heap.size v n PV b := by
  rw [put2_size]
  unfold put2
  exact ve_two (a0 := a2) (n0 := n2) (c0 := c2) (a1 := a1) (n1 := n1) (c1 := c1) (T := T) (by simp [World.setCell, Array.getElem?_modify, hg]) (ve_two hg h (by omega) _) (by omega) _

theorem ps_put2 {w : World} {g : Nat} {T : TypeId} {v : Value} {np : Nat} {KV : Nat → Value} {UV : Nat → Nat → Value} {P : Ps} {a0 a1 : Option Addr} {n0 c0 n1 c1 : Nat} (hg : w.heap[g]? = some (.cells #[.slice a0 n0 c0, .slice a1 n1 c1] T (0, 0))) (h : PsSl w w.heap.size v np KV UV P) (u0 u1 : Value) : PsSl (put2 w g u0 u1) (put2 w g u0 u1).heap.size v np KV UV P := by
  obtain ⟨q0, q1⟩ := two_at hg
  obtain ⟨ad, cap, rfl, h0, h2⟩ := h
  refine ⟨ad, cap, rfl, h0, ?_⟩
  rcases h2 with h2 | ⟨bl, off, rfl, h4, h5⟩
  · exact Or.inl h2
  · refine Or.inr ⟨bl, off, rfl, by rw [put2_size]; exact h4, fun j hj => ?_⟩
    obtain ⟨x0, x1, x2, x3⟩ := h5 j hj
    have key : ∀ i z, w.cell? ⟨bl, i, none⟩ = some z → (∀ a n c, z ≠ .slice a n c) ∨ 2 ≤ i → (put2 w g u0 u1).cell? ⟨bl, i, none⟩ = some z := fun i z hz hne => by
      unfold put2
      have hd : ∀ o, o < 2 → bl ≠ g ∨ i ≠ o := fun o ho => by
        by_cases e1 : bl = g
        · right
          intro e2
          rcases hne with hne | hne
          · rcases (show o = 0 ∨ o = 1 by omega) with e3 | e3
            · rw [e1, e2, e3, q0] at hz; injection hz with hz; exact hne _ _ _ hz.symm
            · rw [e1, e2, e3, q1] at hz; injection hz with hz; exact hne _ _ _ hz.symm
          · omega
        · exact Or.inl e1
      rw [cell_set_lit (hd 1 (by omega)), cell_set_lit (hd 0 (by omega))]
      exact hz
    exact ⟨key _ _ x0 (Or.inl fun a n c e => by cases e), key _ _ x1 (Or.inl fun a n c e => by cases e), key _ _ x2 (Or.inr (by omega)), kel_put2 hg x3 _ _⟩

end Go.Proofs.YtajmnlhfnhbleaaGreat

namespace Go.Proofs.YtajmnlhfnhbleaaGreat

open Go.RowKit CurveMath
set_option linter.unusedVariables false

theorem KeSl.agree {w : World} {B : Nat} {v : Value} {m : Nat} {UV : Nat → Value} {t t' : Kt} (h : KeSl w B v m UV t) (e : ∀ i, i < m → t.V i = t'.V i ∧ t.N i = t'.N i ∧ t.L i = t'.L i ∧ ∀ r, r < t.L i → t.X i r = t'.X i r) : KeSl w B v m UV t' := by
  obtain ⟨ad, cap, rfl, h0, h2⟩ := h
  refine ⟨ad, cap, rfl, h0, ?_⟩
  rcases h2 with h2 | ⟨b, off, rfl, h4, h5⟩
  · exact Or.inl h2
  · refine Or.inr ⟨b, off, rfl, h4, fun j hj => ?_⟩
    obtain ⟨x0, x1, x2, x3⟩ := h5 j hj
    obtain ⟨e0, e1, e2, e3⟩ := e j hj
    rw [← e0, ← e1, ← e2]
    exact ⟨x0, x1, x2, x3.congr e3⟩

theorem PsSl.agree {w : World} {B : Nat} {v : Value} {np : Nat} {KV : Nat → Value} {UV : Nat → Nat → Value} {P P' : Ps} (h : PsSl w B v np KV UV P)
    (e : ∀ k, k < np → P.th k = P'.th k ∧ P.rm k = P'.rm k ∧ P.m k = P'.m k ∧ ∀ i, i < P.m k → (P.t k).V i = (P'.t k).V i ∧ (P.t k).N i = (P'.t k).N i ∧ (P.t k).L i = (P'.t k).L i ∧ ∀ r, r < (P.t k).L i → (P.t k).X i r = (P'.t k).X i r) : PsSl w B v np KV UV P' := by
  obtain ⟨ad, cap, rfl, h0, h2⟩ := h
  refine ⟨ad, cap, rfl, h0, ?_⟩
  rcases h2 with h2 | ⟨b, off, rfl, h4, h5⟩
  · exact Or.inl h2
  · refine Or.inr ⟨b, off, rfl, h4, fun j hj => ?_⟩
    obtain ⟨x0, x1, x2, x3⟩ := h5 j hj
    obtain ⟨e0, e1, e2, e3⟩ := e j hj
    rw [← e0, ← e1, ← e2]
    exact ⟨x0, x1, x2, x3.agree e3⟩

theorem w_agree : ∀ k, k < 5 → (saveP 0 5 (freshP wX) 2 4 3 wD).th k = (wP true 7).th k ∧ (saveP 0 5 (freshP wX) 2 4 3 wD).rm k = (wP true 7).rm k ∧ (saveP 0 5 (freshP wX) 2 4 3 wD).m k = (wP true 7).m k ∧ ∀ i, i < (saveP 0 5 (freshP wX) 2 4 3 wD).m k →
    ((saveP 0 5 (freshP wX) 2 4 3 wD).t k).V i = ((wP true 7).t k).V i ∧ ((saveP 0 5 (freshP wX) 2 4 3 wD).t k).N i = ((wP true 7).t k).N i ∧ ((saveP 0 5 (freshP wX) 2 4 3 wD).t k).L i = ((wP true 7).t k).L i ∧ ∀ r, r < ((saveP 0 5 (freshP wX) 2 4 3 wD).t k).L i → ((saveP 0 5 (freshP wX) 2 4 3 wD).t k).X i r = ((wP true 7).t k).X i r := by decide +kernel

theorem ve_bool {w : World} {B g o : Nat} {v : Value} {n : Nat} {PV : Nat → Value} {b : Bk} {x : Bool} (h : VeSl w B v n PV b) (hc : w.cell? ⟨g, o, none⟩ = some (.bool x)) (u : Value) : VeSl (w.setCell ⟨g, o, none⟩ u) B v n PV b := by
  obtain ⟨ad, cap, rfl, h0, h2⟩ := h
  refine ⟨ad, cap, rfl, h0, ?_⟩
  rcases h2 with h2 | ⟨bl, off, rfl, h4, h5⟩
  · exact Or.inl h2
  · refine Or.inr ⟨bl, off, rfl, h4, fun j hj => ?_⟩
    obtain ⟨x0, x1, x2, x3, x4⟩ := h5 j hj
    have key : ∀ i z, w.cell? ⟨bl, i, none⟩ = some z → z ≠ .bool x → (w.setCell ⟨g, o, none⟩ u).cell? ⟨bl, i, none⟩ = some z := fun i z hz hne => by
      rw [cell_set_lit]
      · exact hz
      · by_cases e1 : bl = g
        · right; intro e2; rw [e1, e2, hc] at hz; injection hz with hz; exact hne hz.symm
        · exact Or.inl e1
    refine ⟨key _ _ x0 (fun e => ?_), key _ _ x1 (fun e => by cases e), key _ _ x2 (fun e => by cases e), key _ _ x3 (fun e => by cases e), isl_bool x4 hc u⟩
    obtain ⟨a, c, e2, _⟩ := x4
    rw [e2] at e
    cases e

theorem ps_there {w : World} {bl off cap : Nat} {np q : Nat} {KV : Nat → Value} {UV : Nat → Nat → Value} {P P' : Ps} (h : PsSl w w.heap.size (.slice (some ⟨bl, off, none⟩) np cap) np KV UV P) (hq : q < np) (t : Bool) (e : ∀ k, k < np → P'.th k = (if k = q then t else P.th k) ∧ P'.rm k = P.rm k ∧ P'.m k = P.m k ∧ P'.t k = P.t k) :
    PsSl (w.setCell ⟨bl, off + q * 3, none⟩ (.bool t)) (w.setCell ⟨bl, off + q * 3, none⟩ (.bool t)).heap.size (.slice (some ⟨bl, off, none⟩) np cap) np KV UV P' := by
  have hz : (w.setCell ⟨bl, off + q * 3, none⟩ (.bool t)).heap.size = w.heap.size := by simp [World.setCell]
  rw [hz]
  obtain ⟨bl', off', e1, _, hc, _, _, _⟩ := h.at hq
  injection e1 with e1
  injection e1 with e1 e2
  subst e1 e2
  obtain ⟨ad, cap', he, h0, h2⟩ := h
  injection he with he1 _ he3
  subst he1 he3
  refine ⟨_, cap, rfl, h0, ?_⟩
  rcases h2 with h2 | ⟨b, off', e1, h4, h5⟩
  · omega
  · injection e1 with e1
    injection e1 with e1 e2
    subst e1 e2
    refine Or.inr ⟨bl, off, rfl, h4, fun j hj => ?_⟩
    obtain ⟨x0, x1, x2, x3⟩ := h5 j hj
    obtain ⟨g1, g2, g3, g4⟩ := e j hj
    rw [g1, g2, g3, g4]
    refine ⟨?_, by rw [cell_set_lit (Or.inr (by omega))]; exact x1, by rw [cell_set_lit (Or.inr (by omega))]; exact x2, kel_bool x3 hc _⟩
    by_cases ej : j = q
    · subst ej; rw [if_pos rfl]; exact cell_set_same x0 _
    · rw [if_neg ej, cell_set_lit (Or.inr (by omega))]; exact x0

theorem NewP.set {B : Nat} {w : World} {vl : Value} {np : Nat} {KV : Nat → Value} {UV : Nat → Nat → Value} {P P' : Ps} (h : NewP B w vl np KV UV P) (e : ∀ k, k < np → P'.m k = P.m k ∧ ∀ i, i < P.m k → (P'.t k).L i = (P.t k).L i) (a : Addr) (u : Value) : NewP B (w.setCell a u) vl np KV UV P' :=
  ⟨h.1.set a u, fun k hk => ⟨(h.2 k hk).1.set a u, fun i hi => by
    rw [(e k hk).1] at hi
    rw [(e k hk).2 i hi]
    exact ((h.2 k hk).2 i hi).imp id fun h => h.set a u⟩⟩

theorem NewP.up {B : Nat} {w w' : World} {vl : Value} {np : Nat} {KV : Nat → Value} {UV : Nat → Nat → Value} {P : Ps} (h : NewP B w vl np KV UV P) (hb : Below w.heap.size w w') : NewP B w' vl np KV UV P :=
  ⟨h.1.up hb, fun k hk => ⟨(h.2 k hk).1.up hb, fun i hi => ((h.2 k hk).2 i hi).imp id fun h => h.up hb⟩⟩

theorem NewP.mono {B B' : Nat} {w : World} {vl : Value} {np : Nat} {KV : Nat → Value} {UV : Nat → Nat → Value} {P : Ps} (h : NewP B w vl np KV UV P) (hb : B' ≤ B) : NewP B' w vl np KV UV P :=
  ⟨h.1.mono hb, fun k hk => ⟨(h.2 k hk).1.mono hb, fun i hi => ((h.2 k hk).2 i hi).imp id fun h => h.mono hb⟩⟩

end Go.Proofs.YtajmnlhfnhbleaaGreat

namespace Go.Proofs.YtajmnlhfnhbleaaGreat

open Go.RowKit CurveMath
set_option linter.unusedVariables false

theorem mesh_openN {w : World} {er : Int} {n : Nat} {b : Bk} {np : Nat} {P : Ps} {e : Ending} {w' : World} (h : MeshPostN w er n b np P e w') :
    Below w.heap.size w w' ∧ ∃ (ab : Option Addr) (n' cb : Nat) (PV : Nat → Value) (al : Option Addr) (np' cl : Nat) (KV : Nat → Value) (UV : Nat → Nat → Value), e = .returned (.tuple #[.agg #[.slice ab n' cb, .slice al np' cl], .int .i64 er]) ∧
      n' = (if er = 0 then n else 0) ∧ np' = (if er = 0 then np else 0) ∧ VeSl w' w'.heap.size (.slice ab n' cb) n' PV b ∧ PsSl w' w'.heap.size (.slice al np' cl) np' KV UV P ∧ NewP w.heap.size w' (.slice al np' cl) np' KV UV P := by
  obtain ⟨h1, vb, vl, n', np', PV, KV, UV, rfl, h3, h4, h5, h6, h7, _⟩ := h
  have h5' := h5
  have h6' := h6
  obtain ⟨ab, cb, rfl, _, _⟩ := h5'
  obtain ⟨al, cl, rfl, _, _⟩ := h6'
  exact ⟨h1, ab, n', cb, PV, al, np', cl, KV, UV, rfl, h3, h4, h5, h6, h7⟩

theorem isl_five {w : World} {g : Nat} {T : TypeId} (h : w.heap[g]? = some (.cells #[.int .i64 2, .int .i64 2, .int .i64 2, .int .i64 2, .int .i64 2] T (0, 0))) : IntSl w w.heap.size (.slice (some ⟨g, 0, none⟩) 5 5) 5 wX :=
  ⟨_, _, rfl, ⟨Nat.le_refl _, by omega⟩, Or.inr ⟨g, 0, rfl, (Array.getElem?_eq_some_iff.1 h).1, fun j hj => by
    match j, hj with
    | 0, _ => exact cell_at h rfl
    | 1, _ => exact cell_at h rfl
    | 2, _ => exact cell_at h rfl
    | 3, _ => exact cell_at h rfl
    | 4, _ => exact cell_at h rfl⟩⟩

theorem isl_579 {w : World} {g : Nat} {T : TypeId} (h : w.heap[g]? = some (.cells #[.int .i64 5, .int .i64 7, .int .i64 9] T (0, 0))) : IntSl w w.heap.size (.slice (some ⟨g, 0, none⟩) 3 3) 3 wD :=
  ⟨_, _, rfl, ⟨Nat.le_refl _, by omega⟩, Or.inr ⟨g, 0, rfl, (Array.getElem?_eq_some_iff.1 h).1, fun j hj => by
    match j, hj with
    | 0, _ => exact cell_at h rfl
    | 1, _ => exact cell_at h rfl
    | 2, _ => exact cell_at h rfl⟩⟩

def BegunPost (w : World) (e : Ending) (w' : World) : Prop :=
  Below w.heap.size w w' ∧ ∃ (ab : Option Addr) (cb : Nat) (PV : Nat → Value) (al : Option Addr) (cl : Nat) (KV : Nat → Value) (UV : Nat → Nat → Value), e = .returned (.tuple #[.agg #[.slice ab 1 cb, .slice al 5 cl], .int .i64 0]) ∧
    VeSl w' w'.heap.size (.slice ab 1 cb) 1 PV wB ∧ PsSl w' w'.heap.size (.slice al 5 cl) 5 KV UV (wP true 7) ∧ NewP w.heap.size w' (.slice al 5 cl) 5 KV UV (wP true 7)

set_option maxHeartbeats 4000000 in
set_option maxRecDepth 10000 in
theorem begun_any (hO : MeshCore) (w : World) : Calls Tryz.prog 71 #[] w (BegunPost w) := by
  have HO := hid hO
  have hb0 := ((Below.refl w.heap.size w).alloc (Nat.le_refl _) (.cells #[.slice none 0 0, .slice none 0 0] 27)).alloc (by simp) (.cells #[.int .i64 2, .int .i64 2, .int .i64 2, .int .i64 2, .int .i64 2] 3)
  have k1 := heap_two_old w (.cells #[.slice none 0 0, .slice none 0 0] 27) (.cells #[.int .i64 2, .int .i64 2, .int .i64 2, .int .i64 2, .int .i64 2] 3)
  have k2 := heap_two_new w (.cells #[.slice none 0 0, .slice none 0 0] 27) (.cells #[.int .i64 2, .int .i64 2, .int .i64 2, .int .i64 2, .int .i64 2] 3)
  obtain ⟨W0, hW0⟩ : ∃ W, (w.alloc (.cells #[.slice none 0 0, .slice none 0 0] 27)).alloc (.cells #[.int .i64 2, .int .i64 2, .int .i64 2, .int .i64 2, .int .i64 2] 3) = W := ⟨_, rfl⟩
  rw [hW0] at hb0 k1 k2
  have CK := hid (HO.out.new _ 5 wX W0 (isl_five k2) (by omega))
  rw [w_new] at CK
  have B0 := hid hb0
  have K1 := hid k1
  clear hb0 k1 k2 hO
  go_enter Tryz.func71, Tryz.ntmps71
  go_wp2_with fail
  refine Calls.mono CK.out ?_
  rintro e W1 hM
  obtain ⟨hb1, ab, n1, cb, PV, al, np1, cl, KV, UV, rfl, hn1, hp1, hv1, hl1, _⟩ := mesh_openN hM
  rw [if_pos rfl] at hn1 hp1
  subst hn1 hp1
  have hbM := below_alloc W1 (.cells #[.slice ab 0 cb, .slice al 5 cl] 27)
  have hx := MsAt.box hv1 hl1
  obtain ⟨V1, hV1⟩ : ∃ v, World.alloc W1 (.cells #[.slice ab 0 cb, .slice al 5 cl] 27) = v := ⟨_, rfl⟩
  rw [hV1] at hbM hx
  have hbD := below_alloc V1 (.cells #[.int .i64 5, .int .i64 7, .int .i64 9] 3)
  have kd := heap_alloc_new V1 (.cells #[.int .i64 5, .int .i64 7, .int .i64 9] 3)
  obtain ⟨V2, hV2⟩ : ∃ v, World.alloc V1 (.cells #[.int .i64 5, .int .i64 7, .int .i64 9] 3) = v := ⟨_, rfl⟩
  rw [hV2] at hbD kd
  have hb12 := hb1.trans ((hbM.trans (hbD.mono hbM.size)).mono hb1.size)
  have B2 := hid (B0.out.trans (hb12.mono B0.out.size))
  have K1 := hid (stayB K1.out hb12)
  have X1 := hid (hx.up hbD)
  have CS := hid (HO.out.save _ 0 PV noB _ 5 KV UV (freshP wX) _ 3 wD (.slice none 0 0) 0 w0 2 4 V2 X1.out.2.1 X1.out.2.2 (isl_579 kd) ⟨none, 0, rfl, ⟨Nat.le_refl _, by omega⟩, Or.inl rfl⟩)
  rw [w_save] at CS
  unfold meshV at CS
  obtain ⟨c0, c1⟩ := hx.cells
  clear hM hb1 hbM hbD hb12 hx kd hv1 hl1 CK
  go_wp2_with fail
  refine Calls.mono CS.out ?_
  rintro e W3 hM
  obtain ⟨hb3, ab3, n3, cb3, PV3, al3, np3, cl3, KV3, UV3, rfl, hn3, hp3, hv3, hl3, hN3⟩ := mesh_openN hM
  rw [if_pos rfl] at hn3 hp3
  subst hn3 hp3
  have B3 := hid (B2.out.trans (hb3.mono B2.out.size))
  have o3 := stayB K1.out hb3
  have HO3 := hid o3
  have HV3 := hid hv3
  have HL3 := hid hl3
  have HN3 := hid hN3
  obtain ⟨r1, r2⟩ := two_at o3
  have f1 := frozen_at (i := 0) o3
  have f2 := frozen_at (i := 1) o3
  clear hM hb3 o3 hv3 hl3 hN3 CS c0 c1
  go_wp2
  refine bodyPost_ret (results_cell2 rfl _ _ w.heap.size 27 #[.slice ab3 1 cb3, .slice al3 5 cl3] (0, 0) _ rfl (put2_whole HO3.out _ _) Tryz.underlying27 rfl (by kernel_rfl)) rfl ?_
  have hag : ∀ k, k < 5 → (wP true 7).m k = (saveP 0 5 (freshP wX) 2 4 3 wD).m k ∧ ∀ i, i < (saveP 0 5 (freshP wX) 2 4 3 wD).m k → ((wP true 7).t k).L i = ((saveP 0 5 (freshP wX) 2 4 3 wD).t k).L i := fun k hk => ⟨(w_agree k hk).2.2.1.symm, fun i hi => ((w_agree k hk).2.2.2 i hi).2.2.1.symm⟩
  exact ⟨put2_below B3.out (Nat.le_refl _), ab3, cb3, PV3, al3, cl3, KV3, UV3, rfl, ve_put2 HO3.out HV3.out _, (ps_put2 HO3.out HL3.out _ _).agree w_agree, ((HN3.out.mono B2.out.size).set (P' := saveP 0 5 (freshP wX) 2 4 3 wD) (fun k hk => ⟨rfl, fun i hi => rfl⟩) _ _).set hag _ _⟩

end Go.Proofs.YtajmnlhfnhbleaaGreat

namespace Go.Proofs.YtajmnlhfnhbleaaGreat

open Go.RowKit
set_option linter.unusedVariables false

end Go.Proofs.YtajmnlhfnhbleaaGreat

namespace Go.Proofs.YtajmnlhfnhbleaaGreat

open Go.RowKit CurveMath
set_option linter.unusedVariables false

theorem isl_three {w : World} {g : Nat} {T : TypeId} (h : w.heap[g]? = some (.cells #[.int .i64 2, .int .i64 2, .int .i64 2] T (0, 0))) : IntSl w w.heap.size (.slice (some ⟨g, 0, none⟩) 3 3) 3 dnX :=
  ⟨_, _, rfl, ⟨Nat.le_refl _, by omega⟩, Or.inr ⟨g, 0, rfl, (Array.getElem?_eq_some_iff.1 h).1, fun j hj => by
    match j, hj with
    | 0, _ => exact cell_at h rfl
    | 1, _ => exact cell_at h rfl
    | 2, _ => exact cell_at h rfl⟩⟩

def put7 (w : World) (g : Nat) (u0 u1 u2 u3 u4 u5 u6 : Value) : World := ((((((w.setCell ⟨g, 0, none⟩ u0).setCell ⟨g, 1, none⟩ u1).setCell ⟨g, 2, none⟩ u2).setCell ⟨g, 3, none⟩ u3).setCell ⟨g, 4, none⟩ u4).setCell ⟨g, 5, none⟩ u5).setCell ⟨g, 6, none⟩ u6

theorem put7_whole {w : World} {g : Nat} {T : TypeId} {v0 v1 v2 v3 v4 v5 v6 : Value} (h : w.heap[g]? = some (.cells #[v0, v1, v2, v3, v4, v5, v6] T (0, 0))) (u0 u1 u2 u3 u4 u5 u6 : Value) : (put7 w g u0 u1 u2 u3 u4 u5 u6).heap[g]? = some (.cells #[u0, u1, u2, u3, u4, u5, u6] T (0, 0)) := by
  simp [put7, World.setCell, Array.getElem?_modify, h]

theorem put7_below {B : Nat} {w w5 : World} {g : Nat} {u0 u1 u2 u3 u4 u5 u6 : Value} (hb : Below B w w5) (hg : B ≤ g) : Below B w (put7 w5 g u0 u1 u2 u3 u4 u5 u6) :=
  ((((((hb.setCell (p := ⟨g, 0, none⟩) hg _).setCell (p := ⟨g, 1, none⟩) hg _).setCell (p := ⟨g, 2, none⟩) hg _).setCell (p := ⟨g, 3, none⟩) hg _).setCell (p := ⟨g, 4, none⟩) hg _).setCell (p := ⟨g, 5, none⟩) hg _).setCell (p := ⟨g, 6, none⟩) hg _

theorem isl_put2D {w : World} {g : Nat} {T : TypeId} {v : Value} {m : Nat} {X : Nat → Int} {a0 a1 : Option Addr} {n0 c0 n1 c1 : Nat} (hg : w.heap[g]? = some (.cells #[.slice a0 n0 c0, .slice a1 n1 c1] T (0, 0))) (h : IntSl w w.heap.size v m X) (u0 u1 : Value) : IntSl (put2 w g u0 u1) (put2 w g u0 u1).heap.size v m X := by
  rw [put2_size]
  unfold put2
  obtain ⟨q0, q1⟩ := two_at hg
  exact isl_slice (isl_slice h q0 u0) (by rw [cell_set_lit (Or.inr (by omega))]; exact q1) u1

theorem isl_zero (w : World) (X : Nat → Int) : IntSl w w.heap.size (.slice none 0 0) 0 X := ⟨none, 0, rfl, ⟨Nat.le_refl _, by omega⟩, Or.inl rfl⟩

theorem isl_row1 {w : World} {g : Nat} {x : Int} {T : TypeId} {X : Nat → Int} (h : w.heap[g]? = some (.cells #[.int .i64 x] T (0, 0))) (e : X 0 = x) : IntSl w w.heap.size (.slice (some ⟨g, 0, none⟩) 1 1) 1 X :=
  ⟨_, _, rfl, ⟨Nat.le_refl _, by omega⟩, Or.inr ⟨g, 0, rfl, (Array.getElem?_eq_some_iff.1 h).1, fun j hj => by
    match j, hj with
    | 0, _ => rw [e]; exact cell_at h rfl⟩⟩

theorem isl_row2 {w : World} {g : Nat} {x y : Int} {T : TypeId} {X : Nat → Int} (h : w.heap[g]? = some (.cells #[.int .i64 x, .int .i64 y] T (0, 0))) (e : X 0 = x) (e2 : X 1 = y) : IntSl w w.heap.size (.slice (some ⟨g, 0, none⟩) 2 2) 2 X :=
  ⟨_, _, rfl, ⟨Nat.le_refl _, by omega⟩, Or.inr ⟨g, 0, rfl, (Array.getElem?_eq_some_iff.1 h).1, fun j hj => by
    match j, hj with
    | 0, _ => rw [e]; exact cell_at h rfl
    | 1, _ => rw [e2]; exact cell_at h rfl⟩⟩

end Go.Proofs.YtajmnlhfnhbleaaGreat

namespace Go.Proofs.YtajmnlhfnhbleaaGreat

open Go.RowKit CurveMath
set_option linter.unusedVariables false

theorem drewN_up (w : World) (k : Nat) : Below w.heap.size w (w.drewN k) := ⟨rfl, rfl, rfl, Nat.le_refl _, fun _ _ => rfl⟩

end Go.Proofs.YtajmnlhfnhbleaaGreat

namespace Go.Proofs.YtajmnlhfnhbleaaGreat

open Go.RowKit CurveMath
set_option linter.unusedVariables false

structure WvAt (B : Nat) (w : World) (g1 : Nat) (ab : Option Addr) (cb : Nat) (PV : Nat → Value) (bl off cl : Nat) (KV : Nat → Value) (UV : Nat → Nat → Value) (bk ok ck bu ou cu : Nat) (t0 : Bool) (x : Int) : Prop where
  box : MsAt w g1 ab 1 cb PV wB (some ⟨bl, off, none⟩) 5 cl KV UV (wP t0 x)
  new : NewP B w (.slice (some ⟨bl, off, none⟩) 5 cl) 5 KV UV (wP t0 x)
  k1 : KV 1 = .slice (some ⟨bk, ok, none⟩) 1 ck
  u1 : UV 1 0 = .slice (some ⟨bu, ou, none⟩) 2 cu
  ne1 : bl ≠ g1
  ne2 : bu ≠ g1

section

variable {B : Nat} {w w' : World} {g1 : Nat} {ab : Option Addr} {cb : Nat} {PV : Nat → Value} {bl off cl : Nat} {KV : Nat → Value} {UV : Nat → Nat → Value} {bk ok ck bu ou cu : Nat} {t0 : Bool} {x : Int}

theorem WvAt.up (h : WvAt B w g1 ab cb PV bl off cl KV UV bk ok ck bu ou cu t0 x) (hb : Below w.heap.size w w') : WvAt B w' g1 ab cb PV bl off cl KV UV bk ok ck bu ou cu t0 x :=
  ⟨h.box.up hb, h.new.up hb, h.k1, h.u1, h.ne1, h.ne2⟩

theorem WvAt.cells (h : WvAt B w g1 ab cb PV bl off cl KV UV bk ok ck bu ou cu t0 x) : (w.cell? ⟨g1, 0, none⟩ = some (.slice ab 1 cb) ∧ w.cell? ⟨g1, 1, none⟩ = some (.slice (some ⟨bl, off, none⟩) 5 cl)) ∧ (w.cell? ⟨bl, off, none⟩ = some (.bool t0) ∧ w.frozen? ⟨bl, off, none⟩ = false) ∧
    w.cell? ⟨bl, off + 3 + 2, none⟩ = some (.slice (some ⟨bk, ok, none⟩) 1 ck) ∧ w.cell? ⟨bk, ok + 1 + 1, none⟩ = some (.slice (some ⟨bu, ou, none⟩) 2 cu) ∧ (w.cell? ⟨bu, ou, none⟩ = some (.int .i64 x) ∧ w.frozen? ⟨bu, ou, none⟩ = false) := by
  obtain ⟨bl', off', e, _, c0, _, _, _⟩ := h.box.2.2.at (i := 0) (by omega)
  injection e with e
  injection e with e1 e2
  subst e1 e2
  obtain ⟨bl', off', e, _, _, _, c2, ke⟩ := h.box.2.2.at (i := 1) (by omega)
  injection e with e
  injection e with e1 e2
  subst e1 e2
  rw [h.k1] at c2 ke
  obtain ⟨ad, cap, e, _, h2⟩ := ke
  injection e with e1 _ _
  rcases h2 with h2 | ⟨b2, o2, e3, _, h5⟩
  · exact absurd h2 (by show ¬ (1 : Nat) = 0; decide)
  · rw [← e1] at e3
    injection e3 with e3
    injection e3 with e4 e5
    subst e4 e5
    obtain ⟨_, _, d2, d3⟩ := h5 0 (by show (0 : Nat) < 1; decide)
    rw [h.u1] at d2 d3
    have hd3 := d3
    obtain ⟨ad', cap', e', _, g2⟩ := hd3
    injection e' with e1' _ _
    have hx0 : w.cell? ⟨bu, ou, none⟩ = some (.int .i64 x) := by
      rcases g2 with g2 | ⟨b3, o3, e3', _, g5⟩
      · exact absurd g2 (by show ¬ (2 : Nat) = 0; decide)
      · rw [← e1'] at e3'
        injection e3' with e3'
        injection e3' with e4 e5
        subst e4 e5
        have g6 := g5 0 (by show (0 : Nat) < 2; decide)
        exact g6
    have hfr := ((h.new.2 1 (by omega)).2 0 (by show (0 : Nat) < 1; decide)).resolve_left (by show ¬ (2 : Nat) = 0; decide)
    rw [h.u1] at hfr
    refine ⟨h.box.cells, ⟨?_, (h.new.1 _ _ _ rfl).2.2 off⟩, ?_, ?_, hx0, (hfr _ _ _ rfl).2.2 ou⟩
    · have h9 : w.cell? ⟨bl, off + 0 * 3, none⟩ = some (.bool t0) := c0
      rw [Nat.zero_mul, Nat.add_zero] at h9
      exact h9
    · have h9 : w.cell? ⟨bl, off + 1 * 3 + 2, none⟩ = some (.slice (some ⟨bk, ok, none⟩) 1 ck) := c2
      rw [Nat.one_mul] at h9
      exact h9
    · have h9 : w.cell? ⟨bk, ok + 0 * 3 + 2, none⟩ = some (.slice (some ⟨bu, ou, none⟩) 2 cu) := d2
      rw [Nat.zero_mul, Nat.add_zero] at h9
      exact h9

theorem WvAt.goes (h : WvAt B w g1 ab cb PV bl off cl KV UV bk ok ck bu ou cu t0 x) : WvAt B (w.setCell ⟨bl, off, none⟩ (.bool false)) g1 ab cb PV bl off cl KV UV bk ok ck bu ou cu false x := by
  have hc := h.cells.2.1.1
  have hz : (w.setCell ⟨bl, off, none⟩ (.bool false)).heap.size = w.heap.size := by simp [World.setCell]
  have hp := ps_there (P' := wP false x) h.box.2.2 (q := 0) (by omega) false (fun k hk => ⟨by simp only [wP]; by_cases e : k = 0 <;> simp [e], rfl, rfl, rfl⟩)
  rw [Nat.zero_mul, Nat.add_zero] at hp
  refine ⟨⟨?_, ?_, hp⟩, h.new.set (fun k hk => ⟨rfl, fun i hi => rfl⟩) _ _, h.k1, h.u1, h.ne1, h.ne2⟩
  · rw [Below.heap_setCell _ _ _ _ (by show g1 ≠ bl; exact fun e => h.ne1 e.symm)]; exact h.box.1
  · rw [hz]; exact ve_bool h.box.2.1 hc _

end

end Go.Proofs.YtajmnlhfnhbleaaGreat
