/- Several texts of one proof, in their order. -/
import Derived.Test.YtdhefajaekackaaBkSum6
import Derived.Test.YtdhefajaekackaaBkSum8
import Derived.Lib.SliceRun
import Derived.Laws.ResultCell
import Derived.Laws.Rows

/- Lists of versions that a call makes itself: cloned, grown by one. -/
namespace Go.Proofs.Ytdhefajaekackaa

open Go.RowKit
set_option linter.unusedVariables false

/-- cell number i of a list of versions -/
def cellV (PV : Nat → Value) (b : Bk) (i : Nat) : Value :=
  if i % 4 = 0 then PV (i / 4) else if i % 4 = 1 then .int .i64 (b.nd (i / 4)) else if i % 4 = 2 then .int .i64 (b.of (i / 4)) else .int .i64 (b.sz (i / 4))
def flatV (n : Nat) (PV : Nat → Value) (b : Bk) : List Value := (List.range (n * 4)).map (cellV PV b)

theorem flatV_len (n : Nat) (PV : Nat → Value) (b : Bk) : (flatV n PV b).length = n * 4 := by simp [flatV]

theorem flatV_get (n : Nat) (PV : Nat → Value) (b : Bk) (i : Nat) : (flatV n PV b)[i]? = if i < n * 4 then some (cellV PV b i) else none := by
  unfold flatV
  by_cases h : i < n * 4
  · simp [h]
  · simp [h]

theorem flatV_one {n : Nat} {PV : Nat → Value} {b : Bk} (hV : ∀ j, j < n → (PV j).oneCell' = true) : ∀ u ∈ flatV n PV b, u.oneCell' = true := by
  intro u hu
  obtain ⟨i, hi, rfl⟩ := List.mem_map.1 hu
  have hi' := List.mem_range.1 hi
  unfold cellV
  split
  · exact hV _ (by omega)
  · split
    · rfl
    · split <;> rfl

theorem flatV_congr {n : Nat} {PV PV' : Nat → Value} {b b' : Bk} (h : ∀ j, j < n → PV' j = PV j ∧ b'.nd j = b.nd j ∧ b'.of j = b.of j ∧ b'.sz j = b.sz j) : flatV n PV' b' = flatV n PV b := by
  refine List.map_congr_left fun i hi => ?_
  have hi' := List.mem_range.1 hi
  obtain ⟨h1, h2, h3, h4⟩ := h (i / 4) (by omega)
  unfold cellV
  rw [h1, h2, h3, h4]

theorem flatV_succ (n : Nat) (PV : Nat → Value) (b : Bk) : flatV (n + 1) PV b = flatV n PV b ++ [PV n, .int .i64 (b.nd n), .int .i64 (b.of n), .int .i64 (b.sz n)] := by
  have e : (n + 1) * 4 = n * 4 + 1 + 1 + 1 + 1 := by omega
  unfold flatV
  rw [e, List.range_succ, List.range_succ, List.range_succ, List.range_succ]
  simp only [List.map_append, List.map_cons, List.map_nil, List.append_assoc, List.cons_append, List.nil_append]
  have c0 : cellV PV b (n * 4) = PV n := by unfold cellV; rw [if_pos (by omega), show n * 4 / 4 = n by omega]
  have c1 : cellV PV b (n * 4 + 1) = .int .i64 (b.nd n) := by unfold cellV; rw [if_neg (by omega), if_pos (by omega), show (n * 4 + 1) / 4 = n by omega]
  have c2 : cellV PV b (n * 4 + 1 + 1) = .int .i64 (b.of n) := by unfold cellV; rw [if_neg (by omega), if_neg (by omega), if_pos (by omega), show (n * 4 + 1 + 1) / 4 = n by omega]
  have c3 : cellV PV b (n * 4 + 1 + 1 + 1) = .int .i64 (b.sz n) := by unfold cellV; rw [if_neg (by omega), if_neg (by omega), if_neg (by omega), show (n * 4 + 1 + 1 + 1) / 4 = n by omega]
  rw [c0, c1, c2, c3]

/-- a list of versions of the call's own -/
def OwnV (w0 wr : World) (v : Value) (n : Nat) (PV : Nat → Value) (b : Bk) : Prop := wr.ownsRow w0.heap.size 29 4 v n (flatV n PV b) ∧ Below w0.heap.size w0 wr

theorem OwnV.nil (w : World) (PV : Nat → Value) (b : Bk) : OwnV w w (.slice none 0 0) 0 PV b := ⟨World.ownsRow_nil _ _ _ _, Below.refl _ _⟩

theorem OwnV.up {w0 wr w' : World} {v : Value} {n : Nat} {PV : Nat → Value} {b : Bk} (h : OwnV w0 wr v n PV b) (hb : Below wr.heap.size wr w') : OwnV w0 w' v n PV b := ⟨owns_below h.1 hb, h.2.trans (hb.mono h.2.size)⟩

theorem Try.infoVer : (Try.prog.info? 29).map (fun i => (i.zero, i.size, i.bytes)) = some (some (.agg #[.slice none 0 0, .int .i64 0, .int .i64 0, .int .i64 0]), 4, 48) := by kernel_rfl

/-- slices.Clone of a list of versions -/
theorem cloneV {w : World} {v : Value} {n : Nat} {PV : Nat → Value} {b : Bk} (h : VeSl w w.heap.size v n PV b) (hn : n ≤ 1000) :
    Calls Try.prog 58 #[v] w fun e w' => ∃ v', e = .returned v' ∧ OwnV w w' v' n PV b := by
  obtain ⟨ad, cap, rfl, ⟨hc, hr⟩, hx⟩ := h
  have q34 : ∀ (w : World) (a : Option Addr) (n c : Nat), (binOp .eql 22 (.slice a n c) (.slice none 0 0)).run Try.prog w = .ok (.bool a.isNone) w := fun w a n c => Lib.run_eql_slice_nil w _ _ a n c 0 0 Try.underlying22
  cases ad with
  | none =>
    have h0 : n = 0 := by
      rcases hx with h0 | ⟨bl, off, e, _⟩
      · exact h0
      · cases e
    subst h0
    clear hx
    go_enter Try.func58, Try.ntmps58
    go_wp2
    go_ret
    exact ⟨_, rfl, OwnV.nil _ _ _⟩
  | some a =>
    have hnews : ∀ j u, (flatV n PV b)[j]? = some u → w.cell? (Addr.add a j) = some u := by
      intro j u hu
      rw [flatV_get] at hu
      by_cases hj : j < n * 4
      · rw [if_pos hj] at hu
        injection hu with hu
        rcases hx with h0 | ⟨bl, off, e, hbl, hx⟩
        · omega
        injection e with e
        subst e
        obtain ⟨g1, g2, g3, g4, _⟩ := hx (j / 4) (by omega)
        rw [Addr.add_lit, ← hu]
        unfold cellV
        by_cases m0 : j % 4 = 0
        · rw [if_pos m0, ← g1, show off + j / 4 * 4 = off + j by omega]
        · rw [if_neg m0]
          by_cases m1 : j % 4 = 1
          · rw [if_pos m1, ← g2, show off + j / 4 * 4 + 1 = off + j by omega]
          · rw [if_neg m1]
            by_cases m2 : j % 4 = 2
            · rw [if_pos m2, ← g3, show off + j / 4 * 4 + 2 = off + j by omega]
            · rw [if_neg m2, ← g4, show off + j / 4 * 4 + 3 = off + j by omega]
      · rw [if_neg hj] at hu; cases hu
    have h1 : ∀ u ∈ flatV n PV b, u.oneCell' = true := flatV_one fun j hj => by
      rcases hx with h0 | ⟨bl, off, e, hbl, hx⟩
      · omega
      · obtain ⟨ap, cp, e2, _⟩ := (hx j hj).2.2.2.2
        rw [e2]; rfl
    have HNw := hid hnews
    have H1 := hid h1
    obtain ⟨ii, hi, hz0, hz1, hz2⟩ := info_parts Try.infoVer
    clear hx hnews h1
    go_enter Try.func58, Try.ntmps58
    go_wp2_with (at_builtin; go_must (refine wpList_append_own _ rfl _ _ 22 rfl w.heap.size 29 ii (.agg #[.slice none 0 0, .int .i64 0, .int .i64 0, .int .i64 0]) 4 48 Try.underlying22 hi hz0 hz1 hz2 rfl (by decide) _ _ _ rfl (World.ownsRow_made w #[] 0 (Nat.le_refl _) (Nat.zero_le _) (by simp)) a n cap (flatV n PV b) rfl (flatV_len _ _ _) (fun j u hu => Lib.cell?_alloc_some _ (HNw.out j u hu)) H1.out (by unfold maxLen; omega) (by omega) (by simp) ?_; intro v1 w2 ho hg _; have HO := hid ho; have HG := hid hg; clear ho hg))
    go_ret
    refine ⟨_, rfl, ?_, ?_⟩
    · have h := HO.out
      rw [Nat.zero_add, List.nil_append] at h
      exact h
    · exact ((Below.refl _ _).alloc (Nat.le_refl _) _).grown HG.out (by simp) (fun k hk => by cases hk; exact Nat.le_refl _)

/-- one more version behind n -/
def snocB (n : Nat) (b : Bk) (l : Nat) (X : Nat → Int) (nd of sz : Int) : Bk :=
  ⟨fun j => if j = n then l else b.PL j, fun j => if j = n then X else b.PX j, fun j => if j = n then nd else b.nd j, fun j => if j = n then of else b.of j, fun j => if j = n then sz else b.sz j⟩
def snocP (n : Nat) (PV : Nat → Value) (pv : Value) (j : Nat) : Value := if j = n then pv else PV j

/-- what keeps a version from being added -/
def addE (n : Nat) (b b' : Bk) : Int := if bookE n b = 0 then bookE (n + 1) b' else bookE n b

theorem cells_four (w : World) (v0 v1 v2 v3 : Value) (T : TypeId) : ∀ j u, ([v0, v1, v2, v3] : List Value)[j]? = some u → (w.alloc (.cells #[v0, v1, v2, v3] T)).cell? (Addr.add ⟨w.heap.size, 0, none⟩ j) = some u := by
  intro j u hj
  rw [Addr.add_lit]
  match j, hj with
  | 0, hj => simp at hj; subst hj; exact cell_at (heap_alloc_new _ _) rfl
  | 1, hj => simp at hj; subst hj; exact cell_at (heap_alloc_new _ _) rfl
  | 2, hj => simp at hj; subst hj; exact cell_at (heap_alloc_new _ _) rfl
  | 3, hj => simp at hj; subst hj; exact cell_at (heap_alloc_new _ _) rfl

theorem owns_ne {w : World} {base : Nat} {e t : TypeId} {size : Nat} {v : Value} {n : Nat} {xs : List Value} {bm : Nat} {cs : Array Value} (h : w.ownsRow base e size v n xs) (hm : w.heap[bm]? = some (.cells cs t (0, 0))) (ht : e ≠ t) : v.ownBlock ≠ some bm := by
  obtain ⟨_, h2⟩ := h
  rcases h2 with ⟨rfl, _⟩ | ⟨g, cap, cur, rfl, _, hh, _⟩
  · intro e; cases e
  · intro e1
    injection e1 with e1
    have e2 : g = bm := e1
    subst e2
    rw [hm] at hh
    injection hh with hh
    injection hh with _ h3 _
    exact ht h3.symm

theorem owns_sliceV {w : World} {base : Nat} {e : TypeId} {size : Nat} {v : Value} {n : Nat} {xs : List Value} (h : w.ownsRow base e size v n xs) : ∃ a c, v = .slice a n c := by
  obtain ⟨_, h2⟩ := h
  rcases h2 with ⟨h1, h0⟩ | ⟨g, cap, cur, h1, _⟩
  · exact ⟨none, 0, by rw [h0]; exact h1⟩
  · exact ⟨_, _, h1⟩

theorem owns_set_other {w : World} {base : Nat} {e : TypeId} {size : Nat} {v : Value} {n : Nat} {xs : List Value} {g o : Nat} (h : w.ownsRow base e size v n xs) (hne : v.ownBlock ≠ some g) (u : Value) : (w.setCell ⟨g, o, none⟩ u).ownsRow base e size v n xs := by
  obtain ⟨h1, h2⟩ := h
  refine ⟨h1, ?_⟩
  rcases h2 with h2 | ⟨g', cap, cur, rfl, hg, hh, hr⟩
  · exact Or.inl h2
  · refine Or.inr ⟨g', cap, cur, rfl, hg, ?_, hr⟩
    rw [Below.heap_setCell _ _ _ _ (fun e => hne (by rw [← show g' = g from e]; rfl))]
    exact hh

theorem OwnV.pushV {w0 wr w1 : World} {v v' : Value} {n : Nat} {PV : Nat → Value} {b : Bk} {pv : Value} {l : Nat} {X : Nat → Int} {nd of sz : Int} (h : OwnV w0 wr v n PV b)
    (ho : w1.ownsRow w0.heap.size 29 4 v' (n + 1) (flatV n PV b ++ [pv, .int .i64 nd, .int .i64 of, .int .i64 sz])) (hg : wr.grownBy w1 v.ownBlock) : OwnV w0 w1 v' (n + 1) (snocP n PV pv) (snocB n b l X nd of sz) := by
  refine ⟨?_, h.2.grown hg h.2.size (fun g hgg => (h.1.lt g hgg).1)⟩
  rw [flatV_succ]
  have e : flatV n (snocP n PV pv) (snocB n b l X nd of sz) = flatV n PV b := flatV_congr fun j hj => by
    have hne : j ≠ n := by omega
    simp [snocP, snocB, hne]
  rw [e]
  simp only [snocP, snocB, if_true]
  exact ho

theorem rowV_shl {wr : World} {base : Nat} {v : Value} {n : Nat} {PV : Nat → Value} {b : Bk} (h : wr.ownsRow base 29 4 v n (flatV n PV b)) (hr : n * 48 ≤ 140737488351232) (hi : ∀ j, j < n → IntSl wr wr.heap.size (PV j) (b.PL j) (b.PX j)) : VeSl wr wr.heap.size v n PV b := by
  obtain ⟨hl, h2⟩ := h
  rcases h2 with ⟨rfl, h0⟩ | ⟨g, cap, cur, rfl, hg, hh, hc1, hc2, hsz, hcur⟩
  · subst h0; exact ⟨none, 0, rfl, ⟨Nat.le_refl _, by omega⟩, Or.inl rfl⟩
  · refine ⟨_, cap, rfl, ⟨hc1, hr⟩, Or.inr ⟨g, 0, rfl, (Array.getElem?_eq_some_iff.1 hh).1, fun j hj => ?_⟩⟩
    have key : ∀ i, i < n * 4 → wr.cell? ⟨g, i, none⟩ = some (cellV PV b i) := fun i hi => by
      have h3 := flatV_get n PV b i
      rw [if_pos hi, ← hcur, List.getElem?_take, if_pos hi] at h3
      exact cell_at hh (by simpa using h3)
    rw [Nat.zero_add]
    refine ⟨?_, ?_, ?_, ?_, hi j hj⟩
    · rw [key (j * 4) (by omega)]; unfold cellV; rw [if_pos (by omega), show j * 4 / 4 = j by omega]
    · rw [key (j * 4 + 1) (by omega)]; unfold cellV; rw [if_neg (by omega), if_pos (by omega), show (j * 4 + 1) / 4 = j by omega]
    · rw [key (j * 4 + 2) (by omega)]; unfold cellV; rw [if_neg (by omega), if_neg (by omega), if_pos (by omega), show (j * 4 + 2) / 4 = j by omega]
    · rw [key (j * 4 + 3) (by omega)]; unfold cellV; rw [if_neg (by omega), if_neg (by omega), if_neg (by omega), show (j * 4 + 3) / 4 = j by omega]

theorem set_one {w : World} {g : Nat} {v : Value} {T : TypeId} (h : w.heap[g]? = some (.cells #[v] T (0, 0))) (u : Value) : (w.setCell ⟨g, 0, none⟩ u).heap[g]? = some (.cells #[u] T (0, 0)) := by
  simp [World.setCell, Array.getElem?_modify, h]

theorem results_cell2 {P : Program} {fn : Func} {p u : Tmp} {ty : TypeId} (h : fn.results = #[.cell p ty, .tmp u]) (tmps : Array Value) (w : World) (g : Nat) (t : TypeId) (cs : Array Value) (fr : Nat × Nat) (d : TypeDesc)
    (hp : tmps.getD p undef = .pointer (some ⟨g, 0, none⟩)) (hg : w.heap[g]? = some (.cells cs t fr))
    (hu : P.underlying ty = some d) (hd : (match d with | .struct _ | .array _ _ => true | _ => false) = true) (hi : (P.info? ty).map (·.size) = some cs.size) :
    (results fn tmps).run P w = .ok (.tuple #[.agg cs, tmps.getD u undef]) w := by
  rw [results_cell_tmp h, hp]
  simp [asAddr, run_loadVar_row w g t ty cs fr d hg hu hd hi]

end Go.Proofs.Ytdhefajaekackaa
