/- What the reference keeps in memory while it gathers all choices of places; these, sorted by the library. -/
import Derived.Test.YtnmionnbndfbkacVoteCmp
namespace Go.Proofs.Ytnmionnbndfbkac
open Go.RowKit CurveMath Go.Sort
set_option linter.unusedVariables false

theorem Try.infoInts : (Try.prog.info? 24).map (fun i => (i.zero, i.size, i.bytes)) = some (some (.slice none 0 0), 1, 24) := by kernel_rfl

/-- a list of places, as numbers -/
def plI (c : List Nat) : Nat → Int := fun i => ((c.getD i 0 : Nat) : Int)

structure PInv (w1 wr : World) (d : Nat) (vp : Value) (ps : List (List Nat)) (pv : Nat → Value) : Prop where
  below : Below w1.heap.size w1 wr
  own : wr.ownsRow w1.heap.size 24 1 vp ps.length ((List.range ps.length).map pv)
  l : ∀ j, j < ps.length → IntSl wr wr.heap.size (pv j) d (plI (ps.getD j [])) ∧ Off vp (pv j)

theorem PInv.nil (w1 : World) (d : Nat) (pv : Nat → Value) : PInv w1 w1 d (.slice none 0 0) [] pv := ⟨Below.refl _ _, World.ownsRow_nil _ _ _ _, fun j hj => by simp at hj⟩

theorem PInv.up {w1 wr w' : World} {d : Nat} {vp : Value} {ps : List (List Nat)} {pv : Nat → Value} (h : PInv w1 wr d vp ps pv) (hb : Below wr.heap.size wr w') : PInv w1 w' d vp ps pv :=
  ⟨h.below.trans (hb.mono h.below.size), owns_below h.own hb, fun j hj => ⟨(h.l j hj).1.up hb, (h.l j hj).2⟩⟩

theorem PInv.push {w1 w0 wr w2 : World} {d : Nat} {vp va v' : Value} {ps : List (List Nat)} {pv : Nat → Value} {c : List Nat} {o : Obj} (h : PInv w1 w0 d vp ps pv) (hd : 1 ≤ d ∧ d ≤ 8) (hc : c.length = d) (ha : OwnL w0 wr va (c.map fun (x : Nat) => (x : Int)))
    (hg : (wr.alloc o).grownBy w2 vp.ownBlock) (ho : w2.ownsRow w1.heap.size 24 1 v' (ps.length + 1) ((List.range ps.length).map pv ++ [va])) (hat : v'.ownBlock = vp.ownBlock ∨ v'.ownBlock = some (wr.alloc o).heap.size) :
    PInv w1 w2 d v' (ps ++ [c]) (fun j => if j = ps.length then va else pv j) := by
  have hr := h.up ha.2
  have hbA : Below w1.heap.size w1 (wr.alloc o) := hr.below.alloc hr.below.size o
  have hia : IntSl wr wr.heap.size va d (plI c) := by
    have h1 := ha.isl (by simp; omega)
    rw [List.length_map, hc] at h1
    exact h1.congr fun j hj => by unfold plI; simp [List.getD_eq_getElem?_getD, show j < c.length by omega]
  have hoa : Off vp va := fun ad nn cc e e2 => by
    have h1 := (ha.1.lt ad.block (by rw [e]; rfl)).1
    have h2 := (h.own.lt ad.block e2.symm).2
    omega
  refine ⟨hbA.grown hg hbA.size (fun k hk => (h.own.lt k hk).1), ?_, fun j hj => ?_⟩
  · rw [List.length_append, List.length_singleton, List.range_succ, List.map_append]
    have e : (List.range ps.length).map (fun j => if j = ps.length then va else pv j) = (List.range ps.length).map pv := List.map_congr_left fun j hj => by rw [if_neg (by have := List.mem_range.1 hj; omega)]
    rw [e]
    simp only [List.map_cons, List.map_nil, if_true]
    exact ho
  · rw [List.length_append, List.length_singleton] at hj
    by_cases e : j = ps.length
    · subst e
      have e2 : (ps ++ [c]).getD ps.length [] = c := by simp
      rw [if_pos rfl, e2]
      exact off_step hd.1 hia hoa hg hat
    · have e2 : (ps ++ [c]).getD j [] = ps.getD j [] := by simp [List.getD_eq_getElem?_getD, List.getElem?_append_left (show j < ps.length by omega)]
      rw [if_neg e, e2]
      exact off_step hd.1 (hr.l j (by omega)).1 (hr.l j (by omega)).2 hg hat

theorem fin_map (ps : List (List Nat)) : (List.finRange ps.length).map (fun i => ps.getD i.val []) = ps := by
  apply List.ext_getElem (by simp)
  intro j h1 h2
  simp [List.getD_eq_getElem?_getD]

/-- a list of ints stays while another row is sorted -/
theorem IntSl.sorted {α : Type} [Inhabited α] {enc : α → Value} {w : World} {gp m : Nat} {dk : Array α} {os : Array Obj} {v : Value} {n : Nat} {X : Nat → Int} (h : IntSl w w.heap.size v n X) (ho : v.ownBlock ≠ some gp) : IntSl (sortWorld enc w gp 0 m dk os) w.heap.size v n X := by
  obtain ⟨ad, cap, rfl, h0, h2⟩ := h
  refine ⟨ad, cap, rfl, h0, ?_⟩
  rcases h2 with h2 | ⟨b, off, rfl, h4, h5⟩
  · exact Or.inl h2
  · refine Or.inr ⟨b, off, rfl, h4, fun j hj => ?_⟩
    have hne : b ≠ gp := fun e => ho (by rw [e]; rfl)
    unfold sortWorld
    rw [cell?_grow _ _ _ (by simp [putRow, mapBlock, Sort.ahead]; exact h4), cell?_putRow_other _ _ _ _ _ _ (Or.inl hne), cell?_ahead]
    exact h5 j hj

/-- the picks, sorted -/
theorem sort_picks {w1 wr : World} {d : Nat} {vp : Value} {ps : List (List Nat)} {pv : Nat → Value} (h : PInv w1 wr d vp ps pv) (hd : 1 ≤ d) (hk : 1 ≤ ps.length) (hk2 : ps.length ≤ 1000) (hlen : ∀ c ∈ ps, c.length = d) (hnd : ps.Nodup) :
    Calls Try.prog 32 #[vp, .func (.func 33) #[] #[]] wr fun e w' => e = .returned (.tuple #[]) ∧ Below w1.heap.size w1 w' ∧ ∃ (l : List (List Nat)) (gp cap : Nat) (qv : Nat → Value), l.Perm ps ∧ l.Pairwise (fun a b => cmpL a b ≤ 0) ∧ vp = .slice (some ⟨gp, 0, none⟩) l.length cap ∧ l.length ≤ cap ∧
      ∀ j, j < l.length → w'.cell? ⟨gp, j, none⟩ = some (qv j) ∧ IntSl w' w'.heap.size (qv j) d (plI (l.getD j [])) := by
  obtain ⟨hl, h2⟩ := h.own
  rcases h2 with ⟨_, h0⟩ | ⟨gp, cap, cur, hvp, hg, hh, hc1, hc2, hsz, hcur⟩
  · omega
  rw [Nat.mul_one] at hcur
  obtain ⟨K, hK⟩ : ∃ K, ps.length = K := ⟨_, rfl⟩
  have hKp : 0 < K := by omega
  haveI : Inhabited (Fin ps.length) := ⟨⟨0, by omega⟩⟩
  have hgl : gp < wr.heap.size := (Array.getElem?_eq_some_iff.1 hh).1
  have hpl : ∀ x : Fin ps.length, (ps.getD x.val []).length = d := fun x => hlen _ (by simp [List.getD_eq_getElem?_getD])
  have hoff : ∀ x : Fin ps.length, (pv x.val).ownBlock ≠ some gp := fun x e => by
    obtain ⟨i1, i2⟩ := h.l x.val x.isLt
    obtain ⟨ad, cc, e1, _, _⟩ := i1
    rw [e1] at e
    cases ad with
    | none => cases e
    | some a =>
      injection e with e
      refine i2 a _ _ e1 ?_
      rw [hvp]
      show some a.block = some gp
      rw [e]
  have hget : ∀ j (hj : j < ps.length), (List.finRange ps.length).toArray[j]! = ⟨j, hj⟩ := fun j hj => by
    rw [getElem!_pos _ _ (by simpa using hj)]
    simp
  have hsize : (List.finRange ps.length).toArray.size = ps.length := by simp
  have hO : SWO (ltOf fun x y : Fin ps.length => cmpL (ps.getD x.val []) (ps.getD y.val [])) := by
    refine ⟨fun x => ?_, fun x y z h1 h2 => ?_, fun x y z h1 h2 => ?_⟩
    · refine decide_eq_false ?_
      show ¬ cmpL (ps.getD x.val []) (ps.getD x.val []) < 0
      rw [cmpL_self]; omega
    · exact decide_eq_true (cmpL_trans _ _ _ (by rw [hpl, hpl]) (by rw [hpl, hpl]) (of_decide_eq_true h1) (of_decide_eq_true h2))
    · refine decide_eq_false fun h3 => ?_
      replace h3 : cmpL (ps.getD x.val []) (ps.getD z.val []) < 0 := h3
      have g1 : ¬ cmpL (ps.getD x.val []) (ps.getD y.val []) < 0 := of_decide_eq_false h1
      have g2 : ¬ cmpL (ps.getD y.val []) (ps.getD z.val []) < 0 := of_decide_eq_false h2
      have s1 := cmpL_swap (ps.getD x.val []) (ps.getD y.val []) (by rw [hpl, hpl])
      by_cases e : cmpL (ps.getD x.val []) (ps.getD y.val []) = 0
      · rw [cmpL_zero _ _ (by rw [hpl, hpl]) e] at h3
        exact g2 h3
      · exact g2 (cmpL_trans _ _ _ (by rw [hpl, hpl]) (by rw [hpl, hpl]) (by omega) h3)
  have hT : ∀ x y : Fin ps.length, ltOf (fun x y : Fin ps.length => cmpL (ps.getD x.val []) (ps.getD y.val [])) x y = false → ltOf (fun x y : Fin ps.length => cmpL (ps.getD x.val []) (ps.getD y.val [])) y x = false → x = y := fun x y h1 h2 => by
    have g1 : ¬ cmpL (ps.getD x.val []) (ps.getD y.val []) < 0 := of_decide_eq_false h1
    have g2 : ¬ cmpL (ps.getD y.val []) (ps.getD x.val []) < 0 := of_decide_eq_false h2
    have s1 := cmpL_swap (ps.getD x.val []) (ps.getD y.val []) (by rw [hpl, hpl])
    have e := cmpL_zero (ps.getD x.val []) (ps.getD y.val []) (by rw [hpl, hpl]) (by omega)
    have e2 : ps[x.val]? = ps[y.val]? := by
      rw [List.getElem?_eq_getElem x.isLt, List.getElem?_eq_getElem y.isLt]
      simpa [List.getD_eq_getElem?_getD] using e
    exact Fin.ext ((List.getElem?_inj x.isLt hnd).1 e2)
  have hcmp : CmpReads Try.prog 33 #[] (fun x : Fin ps.length => pv x.val) (fun x y => cmpL (ps.getD x.val []) (ps.getD y.val [])) gp 0 (List.finRange ps.length).toArray.size wr := fun m os dk hs x y => by
    refine (compare_isl ((h.l x.val x.isLt).1.sorted (hoff x)) ((h.l y.val y.isLt).1.sorted (hoff y))).mono ?_
    rintro e w' ⟨he, hw⟩
    refine ⟨?_, 0, by rw [hw]; rfl⟩
    rw [he]
    have h7 := cmpF_list (hpl x) (hpl y) d 0 (by omega)
    rw [List.drop_zero, List.drop_zero] at h7
    show Ending.returned (Value.int .i64 (cmpF (plI (ps.getD x.val [])) (plI (ps.getD y.val [])) d 0)) = Ending.returned (Value.int .i64 (cmpL (ps.getD x.val []) (ps.getD y.val [])))
    rw [← h7]
    rfl
  have hH : Holds (fun x : Fin ps.length => pv x.val) wr gp 0 (List.finRange ps.length).toArray := fun j hj => by
    rw [hsize] at hj
    refine ⟨?_, frozen_at hh⟩
    rw [hget j hj, Nat.zero_add]
    have h3 : ((List.range ps.length).map pv)[j]? = some (pv j) := by simp [hj]
    rw [← hcur, List.getElem?_take, if_pos hj] at h3
    exact cell_at hh (by simpa using h3)
  have hcon := Any.slices_SortFunc_total Try.sortLists (fun x : Fin ps.length => pv x.val) (fun x => slice_one (h.l x.val x.isLt).1) (fun x y => cmpL (ps.getD x.val []) (ps.getD y.val [])) hO 33 #[] gp 0 cap (List.finRange ps.length).toArray wr (enters_of Try.func33 (by kernel_rfl) rfl) hcmp.lays hH hgl (by rw [hsize]; omega) hT
  rw [hsize] at hcon
  rw [hvp]
  refine hcon.mono ?_
  rintro e w' ⟨he, q, os, hw⟩
  obtain ⟨τ, hτ⟩ : ∃ τ, ((List.finRange ps.length).toArray.toList.mergeSort fun x y => !(ltOf fun x y : Fin ps.length => cmpL (ps.getD x.val []) (ps.getD y.val [])) y x) = τ := ⟨_, rfl⟩
  rw [hτ] at hw
  have hτp : τ.Perm (List.finRange ps.length) := by rw [← hτ]; simpa using List.mergeSort_perm (List.finRange ps.length) _
  have hτs : τ.Pairwise fun x y => (!(ltOf fun x y : Fin ps.length => cmpL (ps.getD x.val []) (ps.getD y.val [])) y x) = true := by
    rw [← hτ]
    refine List.pairwise_mergeSort (fun a b c h1 h2 => ?_) (fun a b => ?_) _
    · rw [Bool.not_eq_true'] at *
      exact hO.ntrans c b a h2 h1
    · rw [Bool.or_eq_true, Bool.not_eq_true', Bool.not_eq_true']
      cases e1 : (ltOf fun x y : Fin ps.length => cmpL (ps.getD x.val []) (ps.getD y.val [])) b a with
      | false => exact Or.inl rfl
      | true =>
        refine Or.inr ?_
        cases e2 : (ltOf fun x y : Fin ps.length => cmpL (ps.getD x.val []) (ps.getD y.val [])) a b with
        | false => rfl
        | true => have := hO.trans _ _ _ e1 e2; rw [hO.irrefl] at this; cases this
  have hτl : τ.length = ps.length := by rw [hτp.length_eq]; simp
  refine ⟨he, ?_, τ.map (fun i => ps.getD i.val []), gp, cap, fun j => pv (τ.toArray[j]!).val, ?_, ?_, by rw [List.length_map, hτl], by rw [List.length_map, hτl]; exact hc1, fun j hj => ?_⟩
  · rw [hw]
    refine h.below.trans ⟨rfl, rfl, rfl, by simp [sortWorld, putRow, mapBlock, Sort.ahead], fun k hk => ?_⟩
    have hne : gp ≠ k := by omega
    have hkl : k < wr.heap.size := Nat.lt_of_lt_of_le hk h.below.size
    unfold sortWorld
    rw [heap_grow_old _ _ (by simpa [putRow, mapBlock, Sort.ahead] using hkl)]
    simp [putRow, mapBlock, Sort.ahead, Array.getElem?_modify, hne]
  · have := hτp.map (fun i => ps.getD i.val [])
    rw [fin_map] at this
    exact this
  · rw [List.pairwise_map]
    refine hτs.imp fun {a b} h1 => ?_
    have g : ¬ cmpL (ps.getD b.val []) (ps.getD a.val []) < 0 := of_decide_eq_false (by simpa using h1 : (ltOf fun x y : Fin ps.length => cmpL (ps.getD x.val []) (ps.getD y.val [])) b a = false)
    have s1 := cmpL_swap (ps.getD a.val []) (ps.getD b.val []) (by rw [hpl, hpl])
    omega
  · rw [List.length_map] at hj
    have hsz2 : w'.heap.size = wr.heap.size + os.size := by rw [hw]; simp [sortWorld, putRow, mapBlock, Sort.ahead, grow]
    have hHA : Holds (fun x : Fin ps.length => pv x.val) (Sort.ahead wr q) gp 0 (List.finRange ps.length).toArray := hH
    refine ⟨?_, ?_⟩
    · rw [hw]
      unfold sortWorld
      rw [cell?_grow _ _ _ (by simpa [putRow, mapBlock, Sort.ahead] using hgl)]
      have := cell?_putRow (fun x : Fin ps.length => pv x.val) (Sort.ahead wr q) gp 0 _ τ.toArray hHA (by simp [hτl]) j (by simpa using hj)
      rw [Nat.zero_add] at this
      exact this
    · have e : (τ.map (fun i => ps.getD i.val [])).getD j [] = ps.getD (τ.toArray[j]!).val [] := by
        rw [getElem!_pos _ _ (by simpa using hj)]
        simp [List.getD_eq_getElem?_getD, hj]
      rw [e]
      have h9 := (h.l (τ.toArray[j]!).val (τ.toArray[j]!).isLt).1.sorted (enc := fun x : Fin ps.length => pv x.val) (m := q) (dk := τ.toArray) (os := os) (hoff (τ.toArray[j]!))
      rw [← hw] at h9
      exact h9.mono (by omega)

end Go.Proofs.Ytnmionnbndfbkac
