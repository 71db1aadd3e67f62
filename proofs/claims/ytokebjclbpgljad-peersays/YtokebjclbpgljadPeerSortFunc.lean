/- Kept ones sorted by their versions: the library's SortFunc. -/
import Derived.Test.YtokebjclbpgljadPeerSort
import Derived.Test.YtokebjclbpgljadShelfK
import Derived.Shelf.SlSortCmp.WholeK
namespace Go.Proofs.Ytokebjclbpgljad
open Go.RowKit Go.Shelf Go.Lib Go.Sort
set_option linter.unusedVariables false

theorem ltK (a c : Int) : decide (cmpK a c < 0) = decide (a < c) := by
  unfold cmpK
  by_cases h : a < c
  · rw [if_pos h]; simp [h]
  · rw [if_neg h]; simp [h]

/-- a row of K kept ones that is told by places, at the head of block g -/
structure RowK (wr : World) (g K : Nat) (UV : Nat → Value) (t : Kt) (l : List Nat) : Prop where
  len : l.length = K
  cell : ∀ j, j < K → wr.cell? ⟨g, j * 3, none⟩ = some (.int .i64 (t.V (l.getD j 0))) ∧ wr.cell? ⟨g, j * 3 + 1, none⟩ = some (.int .i64 (t.N (l.getD j 0))) ∧ wr.cell? ⟨g, j * 3 + 2, none⟩ = some (UV (l.getD j 0))
  free : ∀ i, i < K * 3 → wr.frozen? ⟨g, i, none⟩ = false
  lt : g < wr.heap.size

set_option maxHeartbeats 2000000 in
theorem sortT {wr : World} {g K cap : Nat} {UV : Nat → Value} {t : Kt} (h : RowK wr g K UV t (List.range K)) (hK : 1 ≤ K) (hK2 : K ≤ 1000) (hd : ∀ i j, i < K → j < K → t.V i = t.V j → i = j) (hu : ∀ i, i < K → ∃ a n c, UV i = .slice a n c) :
    Calls Try.prog 62 #[.slice (some ⟨g, 0, none⟩) K cap, .func (.func 63) #[] #[]] wr fun e w' => e = .returned (.tuple #[]) ∧
      (∀ (B : Nat) (w0 : World), Below B w0 wr → B ≤ g → Below B w0 w') ∧ (∀ a : Addr, a.block ≠ g → a.block < wr.heap.size → w'.cell? a = wr.cell? a) ∧ wr.heap.size ≤ w'.heap.size ∧
      ∃ l : List Nat, l.Perm (List.range K) ∧ l.Pairwise (fun a c => t.V a < t.V c) ∧ RowK w' g K UV t l := by
  haveI : Inhabited (Fin K) := ⟨⟨0, by omega⟩⟩
  have hget : ∀ j (hj : j < K), (List.finRange K).toArray[j]! = ⟨j, hj⟩ := fun j hj => by
    rw [getElem!_pos _ _ (by simpa using hj)]
    simp
  have hsize : (List.finRange K).toArray.size = K := by simp
  have hrg : ∀ j, j < K → (List.range K).getD j 0 = j := fun j hj => by simp [List.getD_eq_getElem?_getD, hj]
  have hO : SWO (ltOf fun x y : Fin K => cmpK (t.V x.val) (t.V y.val)) := by
    refine ⟨fun x => ?_, fun x y z h1 h2 => ?_, fun x y z h1 h2 => ?_⟩
    · show decide (cmpK (t.V x.val) (t.V x.val) < 0) = false
      rw [ltK]; simp
    · replace h1 : decide (cmpK (t.V x.val) (t.V y.val) < 0) = true := h1
      replace h2 : decide (cmpK (t.V y.val) (t.V z.val) < 0) = true := h2
      show decide (cmpK (t.V x.val) (t.V z.val) < 0) = true
      rw [ltK] at *; simp at *; omega
    · replace h1 : decide (cmpK (t.V x.val) (t.V y.val) < 0) = false := h1
      replace h2 : decide (cmpK (t.V y.val) (t.V z.val) < 0) = false := h2
      show decide (cmpK (t.V x.val) (t.V z.val) < 0) = false
      rw [ltK] at *; simp at *; omega
  have hcmp : CmpLays Try.prog 63 #[] (fun x : Fin K => [Value.int .i64 (t.V x.val), .int .i64 (t.N x.val), UV x.val]) 3 (fun x y => cmpK (t.V x.val) (t.V y.val)) g 0 (List.finRange K).toArray.size wr := fun m os dk hs x y => by
    refine (cmpKept_any (t.V x.val) (t.V y.val) (t.N x.val) (t.N y.val) (UV x.val) (UV y.val) _ (hu _ x.isLt) (hu _ y.isLt)).mono ?_
    rintro e w' ⟨he, hw⟩
    refine ⟨he, 0, #[.cells #[.int .i64 (t.V x.val), .int .i64 (t.N x.val), UV x.val] 58, .cells #[.int .i64 (t.V y.val), .int .i64 (t.N y.val), UV y.val] 58], ?_⟩
    rw [hw, alloc_eq_grow, alloc_eq_grow, grow_grow]
    rfl
  have hH : HoldsK (fun x : Fin K => [Value.int .i64 (t.V x.val), .int .i64 (t.N x.val), UV x.val]) 3 wr g 0 (List.finRange K).toArray := fun i hi => by
    rw [size_flatK, hsize] at hi
    rw [Nat.zero_add, get_flatK _ _ _ _ (by rw [hsize]; exact hi), hget _ (by omega)]
    refine ⟨?_, h.free i hi⟩
    obtain ⟨q1, q2, q3⟩ := h.cell (i / 3) (by omega)
    rw [hrg _ (by omega)] at q1 q2 q3
    rcases (show i % 3 = 0 ∨ i % 3 = 1 ∨ i % 3 = 2 by omega) with e | e | e
    · rw [show i / 3 * 3 = i by omega] at q1; rw [e]; exact q1
    · rw [show i / 3 * 3 + 1 = i by omega] at q2; rw [e]; exact q2
    · rw [show i / 3 * 3 + 2 = i by omega] at q3; rw [e]; exact q3
  have hcon := AnyQ.slices_SortFunc Try.sortKept 3 Try.isAgg58 Try.sizeOf58 (fun x : Fin K => [Value.int .i64 (t.V x.val), .int .i64 (t.N x.val), UV x.val]) (fun _ => rfl) (fun x v hv => by
    simp only [List.mem_cons, List.not_mem_nil, or_false] at hv
    rcases hv with rfl | rfl | rfl
    · rfl
    · rfl
    · obtain ⟨a, n, c, e⟩ := hu _ x.isLt; rw [e]; rfl) (fun x y => cmpK (t.V x.val) (t.V y.val)) hO 63 #[] g 0 cap (List.finRange K).toArray wr (enters_of Try.func63 (by kernel_rfl) rfl) hcmp hH h.lt (by rw [hsize]; omega)
  rw [hsize] at hcon
  refine hcon.mono ?_
  rintro e w' ⟨he, d', n, os, hp, hs, hw⟩
  have hds : d'.size = K := by rw [hp.1, hsize]
  have hperm : d'.toList.Perm (List.finRange K) := by
    have h3 := hp.2.2
    rw [Array.extract_eq_self_of_le (by omega), Array.extract_eq_self_of_le (by rw [hsize]; omega)] at h3
    exact h3
  have hHA : HoldsK (fun x : Fin K => [Value.int .i64 (t.V x.val), .int .i64 (t.N x.val), UV x.val]) 3 w' g 0 d' := by
    rw [hw]
    exact holdsK_grow _ _ _ _ _ _ _ (by rw [size_putRowK]; exact h.lt) (holdsK_putRowK _ _ _ _ _ (List.finRange K).toArray d' hH (by rw [hds, hsize]))
  have hsz : w'.heap.size = wr.heap.size + os.size := by rw [hw]; simp [sortWorldK, putRowK, putRow, mapBlock, Sort.ahead, grow]
  have hblk : ∀ k, k ≠ g → k < wr.heap.size → w'.heap[k]? = wr.heap[k]? := fun k hk hl => by
    rw [hw]
    unfold sortWorldK
    rw [heap_grow_old _ _ (by simpa [putRowK, putRow, mapBlock, Sort.ahead] using hl)]
    simp [putRowK, putRow, mapBlock, Sort.ahead, Array.getElem?_modify, Ne.symm hk]
  refine ⟨he, fun B w0 hb hB => ?_, fun a ha hl => World.cell?_of_block (hblk _ ha hl), by omega, d'.toList.map Fin.val, ?_, ?_, ⟨by simp [hds], fun j hj => ?_, fun i hi => ?_, by have := h.lt; omega⟩⟩
  · refine hb.trans ⟨by rw [hw]; rfl, by rw [hw]; rfl, by rw [hw]; rfl, by omega, fun k hk => hblk k (by omega) (by have := h.lt; omega)⟩
  · have := hperm.map Fin.val
    rwa [show (List.finRange K).map Fin.val = List.range K from List.ext_getElem (by simp) (by simp)] at this
  · rw [List.pairwise_map, List.pairwise_iff_getElem]
    intro i j hi hj hij
    have hi' : i < d'.size := by simpa using hi
    have hj' : j < d'.size := by simpa using hj
    have h4 := hs i j (Nat.zero_le _) hij (by rw [hds] at hj'; exact hj')
    rw [getElem!_pos d' j hj', getElem!_pos d' i hi'] at h4
    replace h4 : decide (cmpK (t.V d'[j].val) (t.V d'[i].val) < 0) = false := h4
    rw [ltK] at h4
    have h5 : ¬ t.V d'[j].val < t.V d'[i].val := of_decide_eq_false h4
    have hne : t.V d'[i].val ≠ t.V d'[j].val := fun e => by
      have e2 := Fin.ext (hd _ _ d'[i].isLt d'[j].isLt e)
      have hnd : d'.toList.Nodup := hperm.nodup_iff.2 (List.nodup_finRange K)
      have := (List.getElem_inj (h₀ := hi) (h₁ := hj) hnd).1 (by simpa using e2)
      omega
    simp only [Array.getElem_toList]
    omega
  · have hjd : j < d'.size := by omega
    have q0 := (hHA.cell hjd (show 0 < 3 by omega)).1
    have q1 := (hHA.cell hjd (show 1 < 3 by omega)).1
    have q2 := (hHA.cell hjd (show 2 < 3 by omega)).1
    rw [Nat.zero_add] at q0 q1 q2
    have e : (d'.toList.map Fin.val).getD j 0 = (d'[j]!).val := by
      rw [getElem!_pos d' j hjd]
      simp [List.getD_eq_getElem?_getD, hjd]
    rw [e]
    exact ⟨q0, q1, q2⟩
  · have hjd : i / 3 < d'.size := by omega
    have q := (hHA.cell hjd (show i % 3 < 3 by omega)).2
    rw [Nat.zero_add, show i / 3 * 3 + i % 3 = i by omega] at q
    exact q

end Go.Proofs.Ytokebjclbpgljad
