/- Several texts of one proof, in their order. -/
import Derived.Test.YtdhefajaekackaaPlSum13
import Derived.Test.YtdhefajaekackaaPlSum14
import Derived.Shelf.SlSortCmp.Insertion1

/- Those that can take a share, sorted by how much room is left, the most first, of like ones by number: the library's stable sort of a short list. -/
namespace Go.Proofs.Ytdhefajaekackaa

open Go.RowKit Go.Shelf Go.Lib Go.Sort
set_option linter.unusedVariables false

/-- can it take a share? -/
def canK (P : Ps) (ver : Int) (k : Nat) : Bool := P.th k && (decide (0 < leftK P k) && noneK P ver k)

theorem canK_iff (P : Ps) (ver : Int) (k : Nat) : canK P ver k = true ↔ mayK P ver k ∧ 0 < leftK P k := by
  unfold canK noneK mayK
  rw [Bool.and_eq_true, Bool.and_eq_true, decide_eq_true_iff, decide_eq_true_iff]
  constructor
  · rintro ⟨h1, h2, h3⟩; exact ⟨⟨h1, h3⟩, h2⟩
  · rintro ⟨⟨h1, h3⟩, h2⟩; exact ⟨h1, h2, h3⟩

/-- ahead of another one: more room, or as much, and a smaller number -/
def LexK (P : Ps) (x y : Int) : Prop := leftK P y.toNat < leftK P x.toNat ∨ (leftK P y.toNat = leftK P x.toNat ∧ x < y)

theorem lefts_lex (P : Ps) (ver : Int) (np r : Nat) : List.Pairwise (LexK P) (lefts P ver np r) := by
  induction r with
  | zero => exact List.Pairwise.nil
  | succ r ih =>
    simp only [lefts]
    rw [List.pairwise_append]
    have hl : ∀ x, x ∈ pickL (fitK P ver ((r + 1 : Nat) : Int)) np → leftK P x.toNat = ((r + 1 : Nat) : Int) := fun x hx => by
      obtain ⟨k, _, h2, rfl⟩ := mem_pickL.1 hx
      rw [Int.toNat_natCast]
      exact ((fitK_iff _ _ _ _).1 h2).2
    refine ⟨?_, ih, fun x hx y hy => ?_⟩
    · refine (pickL_rise (fitK P ver ((r + 1 : Nat) : Int)) np).imp_of_mem fun {x y} hx hy hxy => ?_
      exact Or.inr ⟨by rw [hl x hx, hl y hy], hxy⟩
    · have h1 := hl x hx
      obtain ⟨k, rfl, _, _, _, h4⟩ := mem_lefts.1 hy
      have h2 : leftK P (k : Int).toNat ≤ (r : Int) := by rw [Int.toNat_natCast]; exact h4
      exact Or.inl (by omega)

/-- those that can, as places -/
def canF (P : Ps) (ver : Int) (np : Nat) : List (Fin np) := (List.finRange np).filter fun x => canK P ver x.val

theorem canF_pick (P : Ps) (ver : Int) (np : Nat) : (canF P ver np).map (fun x => (x.val : Int)) = pickL (canK P ver) np := by
  unfold canF pickL
  rw [show List.range np = (List.finRange np).map Fin.val from (List.ext_getElem (by simp) (by simp)), List.filter_map, List.map_map]
  rfl

theorem canF_rise (P : Ps) (ver : Int) (np : Nat) : (canF P ver np).Pairwise (fun x y => x.val < y.val) := by
  have h := pickL_rise (canK P ver) np
  rw [← canF_pick, List.pairwise_map] at h
  exact h.imp fun {a b} h => by omega

/-- how two places are held against each other -/
def cfK (P : Ps) {np : Nat} (x y : Fin np) : Int := cmpZ (leftK P y.val) (leftK P x.val)

theorem ltOf_cfK (P : Ps) {np : Nat} (x y : Fin np) : ltOf (cfK P) x y = decide (leftK P y.val < leftK P x.val) := by
  unfold ltOf cfK cmpZ
  by_cases h : leftK P y.val < leftK P x.val
  · rw [if_pos h]; simp [h]
  · rw [if_neg h]
    by_cases h2 : leftK P x.val < leftK P y.val
    · rw [if_pos h2]; simp [h]
    · rw [if_neg h2]; simp [h]

def ltX (P : Ps) {np : Nat} (x y : Fin np) : Bool := decide (leftK P y.val < leftK P x.val ∨ (leftK P y.val = leftK P x.val ∧ x.val < y.val))

theorem ltX_swo (P : Ps) {np : Nat} : SWO (ltX P (np := np)) := by
  refine ⟨fun x => ?_, fun x y z h1 h2 => ?_, fun x y z h1 h2 => ?_⟩
  · unfold ltX; simp
  · unfold ltX at *; simp at *; omega
  · unfold ltX at *; simp at *; omega

/-- sorted: the order in which they get shares -/
theorem sorted_order (P : Ps) (ver : Int) (np : Nat) [Inhabited (Fin np)] (hr : ∀ k, k < np → leftK P k ≤ 20) (r : Array (Fin np)) (he : r = insertionSort (ltOf (cfK P)) (canF P ver np).toArray 0 (canF P ver np).toArray.size) :
    r.size = (canF P ver np).length ∧ r.toList.map (fun x => (x.val : Int)) = orderL P ver np := by
  have hst := insertionSort_stable (α := Fin np) (fun x => x.val) (ltOf (cfK P)) (ltX P) (fun x y h => by
    rw [ltOf_cfK]; unfold ltX
    by_cases c : leftK P y.val < leftK P x.val
    · simp [c]
    · have : ¬ (leftK P y.val < leftK P x.val ∨ (leftK P y.val = leftK P x.val ∧ x.val < y.val)) := by omega
      rw [decide_eq_false c, decide_eq_false this]) (ltX_swo P) (canF P ver np).toArray (fun i j hij hj => by
    have hj' : j < (canF P ver np).length := by simpa using hj
    have h := List.pairwise_iff_getElem.1 (canF_rise P ver np) i j (by omega) hj' hij
    rw [getElem!_pos _ i (by simp; omega), getElem!_pos _ j hj]
    simpa using h)
  rw [← he] at hst
  obtain ⟨hp, hs⟩ := hst
  have hsz : r.size = (canF P ver np).length := by rw [hp.1]; simp
  refine ⟨hsz, ?_⟩
  have hperm : r.toList.Perm (canF P ver np) := by
    have h3 := hp.2.2
    rw [Array.extract_eq_self_of_le (by rw [hsz]; simp), Array.extract_eq_self_of_le (Nat.le_refl _)] at h3
    exact h3
  have hnd : (canF P ver np).Nodup := (canF_rise P ver np).imp fun {a b} h e => by rw [e] at h; omega
  have hpw : (r.toList.map (fun x => (x.val : Int))).Pairwise (LexK P) := by
    rw [List.pairwise_map, List.pairwise_iff_getElem]
    intro i j hi hj hij
    have hi' : i < r.size := by simpa using hi
    have hj' : j < r.size := by simpa using hj
    have h4 := hs i j (Nat.zero_le _) hij (by rw [← hp.1]; exact hj')
    rw [getElem!_pos r j hj', getElem!_pos r i hi'] at h4
    have h5 := of_decide_eq_false h4
    have hne : r[i].val ≠ r[j].val := fun e => by
      have h6 : r.toList.Nodup := hperm.nodup_iff.2 hnd
      have := (List.getElem_inj (h₀ := hi) (h₁ := hj) h6).1 (by simpa using Fin.ext e)
      omega
    simp only [Array.getElem_toList]
    unfold LexK
    rw [Int.toNat_natCast, Int.toNat_natCast]
    omega
  have hpp : (r.toList.map (fun x => (x.val : Int))).Perm (orderL P ver np) := by
    refine (hperm.map _).trans ?_
    rw [canF_pick]
    have n1 : (pickL (canK P ver) np).Nodup := (pickL_rise (canK P ver) np).imp fun {a b} h => by omega
    have n2 : (orderL P ver np).Nodup := (lefts_ahead P ver np 20).imp fun {a b} h => h.1
    refine (List.perm_ext_iff_of_nodup n1 n2).2 fun x => ?_
    unfold orderL
    rw [mem_pickL, mem_lefts]
    constructor
    · rintro ⟨k, h1, h2, rfl⟩
      obtain ⟨h3, h4⟩ := (canK_iff _ _ _).1 h2
      exact ⟨k, rfl, h1, h3, by omega, hr k h1⟩
    · rintro ⟨k, rfl, h1, h2, h3, _⟩
      exact ⟨k, h1, (canK_iff _ _ _).2 ⟨h2, by omega⟩, rfl⟩
  refine hpp.eq_of_pairwise (le := LexK P) (fun a b _ _ h1 h2 => ?_) hpw (lefts_lex P ver np 20)
  unfold LexK at h1 h2
  omega

theorem insNone (ad : Option Addr) (cap : Nat) (fv : Value) (w : World) (hf : ∃ f a b, fv = .func f a b) : Calls Try.prog 123 #[.slice ad 0 cap, .int .i64 0, .int .i64 0, fv] w fun e w' => e = .returned (.tuple #[]) ∧ w' = w := by
  obtain ⟨f, a, b, rfl⟩ := hf
  go_enter Try.func123, Try.ntmps123
  go_wp2
  refine wp_loop_rounds 1 ?_
  rw [rounds_succ]
  go_wp2
  go_end0
  exact ⟨rfl, rfl⟩

/-- the world of the sort: what lies below stays -/
theorem sortW_below {α : Type} [Inhabited α] (enc : α → Value) {w0 wr : World} {g m : Nat} {dk : Array α} {os : Array Obj} (hb : RowKit.Below w0.heap.size w0 wr) (hg : w0.heap.size ≤ g) : RowKit.Below w0.heap.size w0 (sortWorld enc wr g 0 m dk os) := by
  have hsz : (sortWorld enc wr g 0 m dk os).heap.size = wr.heap.size + os.size := by simp [sortWorld, putRow, mapBlock, Sort.ahead, grow]
  refine hb.trans ⟨rfl, rfl, rfl, by omega, fun k hk => ?_⟩
  have hl := hb.size
  unfold sortWorld
  rw [heap_grow_old _ _ (by simp [putRow, mapBlock, Sort.ahead]; omega)]
  have : g ≠ k := by omega
  simp [putRow, mapBlock, Sort.ahead, Array.getElem?_modify, this]

set_option maxHeartbeats 1000000 in
/-- the stable sort of at most eight -/
theorem plStable (bx : Nat) (a : Option Addr) (c : Nat) (np : Nat) (KV : Nat → Value) (UV : Nat → Nat → Value) (P : Ps) (ver : Int) (hn : np ≤ 8) (hr : ∀ k, k < np → (0 ≤ P.rm k ∧ P.rm k ≤ 20) ∧ (P.m k : Int) ≤ P.rm k) (w0 wr : World) (vo : Value)
    (hl : PsSl w0 w0.heap.size (.slice a np c) np KV UV P) (hx : w0.cell? ⟨bx, 0, none⟩ = some (.slice a np c)) (ho : OwnL w0 wr vo (pickL (canK P ver) np)) :
    Calls Try.prog 123 #[vo, .int .i64 0, .int .i64 ((pickL (canK P ver) np).length : Int), .func (.func 97) #[] #[.pointer (some ⟨bx, 0, none⟩)]] wr fun e w' => e = .returned (.tuple #[]) ∧
      RowKit.Below w0.heap.size w0 w' ∧ IntSl w' w'.heap.size vo (orderL P ver np).length (fun j => (orderL P ver np).getD j 0) ∧ (orderL P ver np).length = (pickL (canK P ver) np).length := by
  have hleft : ∀ k, k < np → leftK P k ≤ 20 := fun k hk => by unfold leftK; have := hr k hk; omega
  by_cases h0 : np = 0
  · subst h0
    have hs := ho.isl (by rw [show pickL (canK P ver) 0 = [] from rfl]; simp)
    obtain ⟨ad, cap, rfl, _, _⟩ := hs
    have e0 : orderL P ver 0 = [] := by
      rw [List.eq_nil_iff_forall_not_mem]
      intro x hx
      obtain ⟨k, _, h, _⟩ := mem_lefts.1 hx
      omega
    rw [e0]
    refine (insNone ad cap _ wr ⟨_, _, _, rfl⟩).mono ?_
    rintro e w' ⟨he, rfl⟩
    exact ⟨he, ho.2, ⟨ad, cap, rfl, ⟨Nat.zero_le _, by decide⟩, Or.inl rfl⟩, rfl⟩
  haveI : Inhabited (Fin np) := ⟨⟨0, by omega⟩⟩
  obtain ⟨hos, hord⟩ := sorted_order P ver np hleft _ rfl
  generalize hR : insertionSort (ltOf (cfK P)) (canF P ver np).toArray 0 (canF P ver np).toArray.size = R at hos hord
  have hcl : (canF P ver np).length = (pickL (canK P ver) np).length := by rw [← canF_pick, List.length_map]
  have hol : (orderL P ver np).length = (pickL (canK P ver) np).length := by rw [← hord, List.length_map, Array.length_toList, hos, hcl]
  have hple := pickL_len (canK P ver) np
  obtain ⟨hlen, hrow⟩ := ho.1
  rcases hrow with ⟨rfl, hnil⟩ | ⟨g, cap, cur, rfl, hg, hblk, hnc, hcm, hcs, htk⟩
  · have e0 : orderL P ver np = [] := List.length_eq_zero_iff.1 (by omega)
    rw [hnil, e0]
    refine (insNone none 0 _ wr ⟨_, _, _, rfl⟩).mono ?_
    rintro e w' ⟨he, rfl⟩
    exact ⟨he, ho.2, ⟨none, 0, rfl, ⟨Nat.zero_le _, by decide⟩, Or.inl rfl⟩, rfl⟩
  · have hsz : (canF P ver np).toArray.size = (pickL (canK P ver) np).length := by rw [← hcl]; simp
    have hH : Holds (fun x : Fin np => Value.int .i64 (x.val : Int)) wr g 0 (canF P ver np).toArray := fun j hj => by
      have hj' : j < (canF P ver np).length := by simpa using hj
      refine ⟨?_, frozen_at hblk⟩
      rw [Nat.zero_add, getElem!_pos _ j hj]
      rw [cell_of_row wr g j cur 3 (0, 0) hblk]
      have h1 : (cur.toList.take ((pickL (canK P ver) np).length * 1))[j]? = some (Value.int .i64 (((canF P ver np).toArray[j]).val : Int)) := by
        rw [htk, ← canF_pick]
        simp [hj']
      rw [List.getElem?_take] at h1
      split at h1
      · simpa using h1
      · cases h1
    have hlt : g < wr.heap.size := (Array.getElem?_eq_some_iff.1 hblk).1
    have R1 : Row1 (fun x : Fin np => Value.int .i64 (x.val : Int)) wr g 0 (canF P ver np).toArray := ⟨fun _ => rfl, hH, hlt⟩
    have hcmp : CmpLays1 Try.prog 97 #[.pointer (some ⟨bx, 0, none⟩)] (fun x : Fin np => Value.int .i64 (x.val : Int)) (cfK P) g 0 (canF P ver np).toArray.size wr := fun m os dk hs x y => by
      have hb := sortW_below (fun x : Fin np => Value.int .i64 (x.val : Int)) (m := m) (dk := dk) (os := os) ho.2 hg
      refine (plComp bx a c np KV UV P x.val y.val x.isLt y.isLt hr _ (hl.up hb) (by rw [hb.cell (cell_lt hx)]; exact hx)).mono ?_
      rintro e w' ⟨he, hw⟩
      exact ⟨he, hw⟩
    have hcon := Any.insertionSortCmpFunc_s Try.insInts (fun x : Fin np => Value.int .i64 (x.val : Int)) (cfK P) 97 #[.pointer (some ⟨bx, 0, none⟩)] g 0 cap 0 (canF P ver np).toArray.size (canF P ver np).toArray (canF P ver np).toArray wr wr (enters_of Try.func97 (by kernel_rfl) rfl) hcmp R1 rfl (SW.start hH) (Nat.zero_le _) (Nat.le_refl _) (by omega)
    rw [hR, hsz] at hcon
    refine hcon.mono ?_
    rintro e w' ⟨he, hS⟩
    obtain ⟨m, os, hw⟩ := hS
    have hRs : R.size = (canF P ver np).toArray.size := by rw [hos]; simp
    have hHR : Holds (fun x : Fin np => Value.int .i64 (x.val : Int)) w' g 0 R := SW.holds ⟨m, os, hw⟩ hlt hH hRs
    refine ⟨he, by rw [hw]; exact sortW_below _ ho.2 hg, ?_, hol⟩
    rw [← hol] at hnc
    rw [← hol]
    have hgw : g < w'.heap.size := by rw [hw]; simp [sortWorld, putRow, mapBlock, Sort.ahead, grow]; omega
    refine ⟨some ⟨g, 0, none⟩, cap, rfl, ⟨hnc, by omega⟩, Or.inr ⟨g, 0, rfl, hgw, fun j hj => ?_⟩⟩
    have hjR : j < R.size := by rw [hos, hcl]; omega
    rw [(hHR j hjR).1, getElem!_pos R j hjR, ← hord]
    simp [List.getD_eq_getElem?_getD, hjR]

end Go.Proofs.Ytdhefajaekackaa
