/- Several texts of one proof, in their order. -/
import Derived.Shelf.SlLaysF0
import Derived.Test.YtdhefajaekackaaProg
import Derived.Test.YtdhefajaekackaaPrSum6
import Derived.Shelf.SlSortCmp.WholeK
import Derived.Test.YtdhefajaekackaaPrSum2

/- Contracts of the library as they lie at this program: laid by the guide's own command, in plain words. -/
namespace Go.Proofs

open Go.Shelf
def Try.sortKept_ren : Go.Shelf.Ren := ⟨fun | 6 => 81 | 15 => 106 | 14 => 105 | 28 => 119 | 29 => 120 | 20 => 111 | 21 => 112 | 22 => 113 | 23 => 114 | 24 => 115 | 25 => 116 | 26 => 117 | 27 => 118 | 46 => 125 | 47 => 126 | 48 => 127 | 49 => 128 | 50 => 129 | 57 => 132 | n => n, fun | 22 => 56 | 24 => 62 | 25 => 102 | 3 => 3 | 39 => 118 | 0 => 0 | 53 => 130 | 55 => 132 | 4 => 4 | 46 => 123 | 45 => 122 | 50 => 127 | 5 => 5 | 9 => 9 | 66 => 136 | 70 => 140 | 76 => 143 | 77 => 144 | n => n, fun | n => n⟩
theorem Try.sortKept : Go.Proofs.SlLaysF0.n6 Try.prog Try.sortKept_ren := {
  mixed := by kernel_rfl
  f6 := ⟨Try.f81.name, by decide, Try.func81.trans (congrArg some (by kernel_rfl))⟩
  f14 := ⟨Try.f105.name, by decide, Try.func105.trans (congrArg some (by kernel_rfl))⟩
  f15 := Try.func106.trans (congrArg some (by kernel_rfl))
  f20 := ⟨Try.f111.name, by decide, Try.func111.trans (congrArg some (by kernel_rfl))⟩
  f21 := ⟨Try.f112.name, by decide, Try.func112.trans (congrArg some (by kernel_rfl))⟩
  f22 := ⟨Try.f113.name, by decide, Try.func113.trans (congrArg some (by kernel_rfl))⟩
  f23 := ⟨Try.f114.name, by decide, Try.func114.trans (congrArg some (by kernel_rfl))⟩
  f24 := ⟨Try.f115.name, by decide, Try.func115.trans (congrArg some (by kernel_rfl))⟩
  f25 := ⟨Try.f116.name, by decide, Try.func116.trans (congrArg some (by kernel_rfl))⟩
  f26 := ⟨Try.f117.name, by decide, Try.func117.trans (congrArg some (by kernel_rfl))⟩
  f27 := ⟨Try.f118.name, by decide, Try.func118.trans (congrArg some (by kernel_rfl))⟩
  f28 := Try.func119.trans (congrArg some (by kernel_rfl))
  f29 := Try.func120.trans (congrArg some (by kernel_rfl))
  f46 := ⟨Try.f125.name, by decide, Try.func125.trans (congrArg some (by kernel_rfl))⟩
  f47 := Try.func126.trans (congrArg some (by kernel_rfl))
  f48 := Try.func127.trans (congrArg some (by kernel_rfl))
  f49 := ⟨Try.f128.name, by decide, Try.func128.trans (congrArg some (by kernel_rfl))⟩
  f50 := ⟨Try.f129.name, by decide, Try.func129.trans (congrArg some (by kernel_rfl))⟩
  f57 := ⟨Try.f132.name, by decide, Try.func132.trans (congrArg some (by kernel_rfl))⟩
  t0 := Try.underlying0
  a0 := Try.isAgg0
  z0 := Try.sizeOf0
  v0 := Try.zeroValue0
  t3 := Try.underlying3
  a3 := Try.isAgg3
  z3 := Try.sizeOf3
  v3 := Try.zeroValue3
  t4 := Try.underlying4
  a4 := Try.isAgg4
  z4 := Try.sizeOf4
  v4 := Try.zeroValue4
  t5 := Try.underlying5
  a5 := Try.isAgg5
  z5 := Try.sizeOf5
  v5 := Try.zeroValue5
  t9 := Try.underlying9
  a9 := Try.isAgg9
  z9 := Try.sizeOf9
  v9 := Try.zeroValue9
  t22 := Try.underlying56
  a22 := Try.isAgg56
  z22 := Try.sizeOf56
  v22 := Try.zeroValue56
  t25 := Try.underlying102
  a25 := Try.isAgg102
  z25 := Try.sizeOf102
  v25 := Try.zeroValue102
  t39 := Try.underlying118
  a39 := Try.isAgg118
  z39 := Try.sizeOf118
  v39 := Try.zeroValue118
  t45 := Try.underlying122
  a45 := Try.isAgg122
  z45 := Try.sizeOf122
  v45 := Try.zeroValue122
  t46 := Try.underlying123
  a46 := Try.isAgg123
  z46 := Try.sizeOf123
  v46 := Try.zeroValue123
  t50 := Try.underlying127
  a50 := Try.isAgg127
  z50 := Try.sizeOf127
  v50 := Try.zeroValue127
  t53 := Try.underlying130
  a53 := Try.isAgg130
  z53 := Try.sizeOf130
  v53 := Try.zeroValue130
  t55 := Try.underlying132
  a55 := Try.isAgg132
  z55 := Try.sizeOf132
  v55 := Try.zeroValue132
  t66 := Try.underlying136
  a66 := Try.isAgg136
  z66 := Try.sizeOf136
  v66 := Try.zeroValue136
  t70 := Try.underlying140
  a70 := Try.isAgg140
  z70 := Try.sizeOf140
  v70 := Try.zeroValue140
  t76 := Try.underlying143
  a76 := Try.isAgg143
  z76 := Try.sizeOf143
  v76 := Try.zeroValue143
  t77 := Try.underlying144
  a77 := Try.isAgg144
  z77 := Try.sizeOf144
  v77 := Try.zeroValue144 }

end Go.Proofs

/- Kept ones sorted by their versions: the library's SortFunc. -/
namespace Go.Proofs.Ytdhefajaekackaa

open Go.RowKit Go.Shelf Go.Lib Go.Sort
set_option linter.unusedVariables false

theorem ltK (a c : Int) : decide (cmpK a c < 0) = decide (a < c) := by
  unfold cmpK
  by_cases h : a < c
  · rw [if_pos h]; simp [h]
  · rw [if_neg h]; simp [h]

/-- a row of K kept ones that is told by places, at the head of block g -/
structure RowK (wr : World) (g K : Nat) (UV : Nat → Value) (t : Kt) (l : List Nat) : Prop where
  len : l.length = K
  cell : ∀ j, j < K → wr.cell? ⟨g, j * 3, none⟩ = some (.int .i64 (t.V (l.getD j 0))) ∧ wr.cell? ⟨g, j * 3 + 1, none⟩ = some (.int .i64 (t.N (l.getD j 0))) ∧ wr.cell? ⟨g, j * 3 + 2, none⟩ = some (UV (l.getD j 0))
  free : ∀ i, i < K * 3 → wr.frozen? ⟨g, i, none⟩ = false
  lt : g < wr.heap.size

set_option maxHeartbeats 2000000 in
theorem sortT {wr : World} {g K cap : Nat} {UV : Nat → Value} {t : Kt} (h : RowK wr g K UV t (List.range K)) (hK : 1 ≤ K) (hK2 : K ≤ 1000) (hd : ∀ i j, i < K → j < K → t.V i = t.V j → i = j) (hu : ∀ i, i < K → ∃ a n c, UV i = .slice a n c) :
    Calls Try.prog 81 #[.slice (some ⟨g, 0, none⟩) K cap, .func (.func 82) #[] #[]] wr fun e w' => e = .returned (.tuple #[]) ∧
      (∀ (B : Nat) (w0 : World), Below B w0 wr → B ≤ g → Below B w0 w') ∧ (∀ a : Addr, a.block ≠ g → a.block < wr.heap.size → w'.cell? a = wr.cell? a) ∧ wr.heap.size ≤ w'.heap.size ∧
      ∃ l : List Nat, l.Perm (List.range K) ∧ l.Pairwise (fun a c => t.V a < t.V c) ∧ RowK w' g K UV t l := by
  haveI : Inhabited (Fin K) := ⟨⟨0, by omega⟩⟩
  have hget : ∀ j (hj : j < K), (List.finRange K).toArray[j]! = ⟨j, hj⟩ := fun j hj => by
    rw [getElem!_pos _ _ (by simpa using hj)]
    simp
  have hsize : (List.finRange K).toArray.size = K := by simp
  have hrg : ∀ j, j < K → (List.range K).getD j 0 = j := fun j hj => by simp [List.getD_eq_getElem?_getD, hj]
  have hO : SWO (ltOf fun x y : Fin K => cmpK (t.V x.val) (t.V y.val)) := by
    refine ⟨fun x => ?_, fun x y z h1 h2 => ?_, fun x y z h1 h2 => ?_⟩
    · show decide (cmpK (t.V x.val) (t.V x.val) < 0) = false
      rw [ltK]; simp
    · replace h1 : decide (cmpK (t.V x.val) (t.V y.val) < 0) = true := h1
      replace h2 : decide (cmpK (t.V y.val) (t.V z.val) < 0) = true := h2
      show decide (cmpK (t.V x.val) (t.V z.val) < 0) = true
      rw [ltK] at *; simp at *; omega
    · replace h1 : decide (cmpK (t.V x.val) (t.V y.val) < 0) = false := h1
      replace h2 : decide (cmpK (t.V y.val) (t.V z.val) < 0) = false := h2
      show decide (cmpK (t.V x.val) (t.V z.val) < 0) = false
      rw [ltK] at *; simp at *; omega
  have hcmp : CmpLays Try.prog 82 #[] (fun x : Fin K => [Value.int .i64 (t.V x.val), .int .i64 (t.N x.val), UV x.val]) 3 (fun x y => cmpK (t.V x.val) (t.V y.val)) g 0 (List.finRange K).toArray.size wr := fun m os dk hs x y => by
    refine (cmpKept_any (t.V x.val) (t.V y.val) (t.N x.val) (t.N y.val) (UV x.val) (UV y.val) _ (hu _ x.isLt) (hu _ y.isLt)).mono ?_
    rintro e w' ⟨he, hw⟩
    refine ⟨he, 0, #[.cells #[.int .i64 (t.V x.val), .int .i64 (t.N x.val), UV x.val] 62, .cells #[.int .i64 (t.V y.val), .int .i64 (t.N y.val), UV y.val] 62], ?_⟩
    rw [hw, alloc_eq_grow, alloc_eq_grow, grow_grow]
    rfl
  have hH : HoldsK (fun x : Fin K => [Value.int .i64 (t.V x.val), .int .i64 (t.N x.val), UV x.val]) 3 wr g 0 (List.finRange K).toArray := fun i hi => by
    rw [size_flatK, hsize] at hi
    rw [Nat.zero_add, get_flatK _ _ _ _ (by rw [hsize]; exact hi), hget _ (by omega)]
    refine ⟨?_, h.free i hi⟩
    obtain ⟨q1, q2, q3⟩ := h.cell (i / 3) (by omega)
    rw [hrg _ (by omega)] at q1 q2 q3
    rcases (show i % 3 = 0 ∨ i % 3 = 1 ∨ i % 3 = 2 by omega) with e | e | e
    · rw [show i / 3 * 3 = i by omega] at q1; rw [e]; exact q1
    · rw [show i / 3 * 3 + 1 = i by omega] at q2; rw [e]; exact q2
    · rw [show i / 3 * 3 + 2 = i by omega] at q3; rw [e]; exact q3
  have hcon := AnyQ.slices_SortFunc Try.sortKept 3 Try.isAgg62 Try.sizeOf62 (fun x : Fin K => [Value.int .i64 (t.V x.val), .int .i64 (t.N x.val), UV x.val]) (fun _ => rfl) (fun x v hv => by
    simp only [List.mem_cons, List.not_mem_nil, or_false] at hv
    rcases hv with rfl | rfl | rfl
    · rfl
    · rfl
    · obtain ⟨a, n, c, e⟩ := hu _ x.isLt; rw [e]; rfl) (fun x y => cmpK (t.V x.val) (t.V y.val)) hO 82 #[] g 0 cap (List.finRange K).toArray wr (enters_of Try.func82 (by kernel_rfl) rfl) hcmp hH h.lt (by rw [hsize]; omega)
  rw [hsize] at hcon
  refine hcon.mono ?_
  rintro e w' ⟨he, d', n, os, hp, hs, hw⟩
  have hds : d'.size = K := by rw [hp.1, hsize]
  have hperm : d'.toList.Perm (List.finRange K) := by
    have h3 := hp.2.2
    rw [Array.extract_eq_self_of_le (by omega), Array.extract_eq_self_of_le (by rw [hsize]; omega)] at h3
    exact h3
  have hHA : HoldsK (fun x : Fin K => [Value.int .i64 (t.V x.val), .int .i64 (t.N x.val), UV x.val]) 3 w' g 0 d' := by
    rw [hw]
    exact holdsK_grow _ _ _ _ _ _ _ (by rw [size_putRowK]; exact h.lt) (holdsK_putRowK _ _ _ _ _ (List.finRange K).toArray d' hH (by rw [hds, hsize]))
  have hsz : w'.heap.size = wr.heap.size + os.size := by rw [hw]; simp [sortWorldK, putRowK, putRow, mapBlock, Sort.ahead, grow]
  have hblk : ∀ k, k ≠ g → k < wr.heap.size → w'.heap[k]? = wr.heap[k]? := fun k hk hl => by
    rw [hw]
    unfold sortWorldK
    rw [heap_grow_old _ _ (by simpa [putRowK, putRow, mapBlock, Sort.ahead] using hl)]
    simp [putRowK, putRow, mapBlock, Sort.ahead, Array.getElem?_modify, Ne.symm hk]
  refine ⟨he, fun B w0 hb hB => ?_, fun a ha hl => World.cell?_of_block (hblk _ ha hl), by omega, d'.toList.map Fin.val, ?_, ?_, ⟨by simp [hds], fun j hj => ?_, fun i hi => ?_, by have := h.lt; omega⟩⟩
  · refine hb.trans ⟨by rw [hw]; rfl, by rw [hw]; rfl, by rw [hw]; rfl, by omega, fun k hk => hblk k (by omega) (by have := h.lt; omega)⟩
  · have := hperm.map Fin.val
    rwa [show (List.finRange K).map Fin.val = List.range K from List.ext_getElem (by simp) (by simp)] at this
  · rw [List.pairwise_map, List.pairwise_iff_getElem]
    intro i j hi hj hij
    have hi' : i < d'.size := by simpa using hi
    have hj' : j < d'.size := by simpa using hj
    have h4 := hs i j (Nat.zero_le _) hij (by rw [hds] at hj'; exact hj')
    rw [getElem!_pos d' j hj', getElem!_pos d' i hi'] at h4
    replace h4 : decide (cmpK (t.V d'[j].val) (t.V d'[i].val) < 0) = false := h4
    rw [ltK] at h4
    have h5 : ¬ t.V d'[j].val < t.V d'[i].val := of_decide_eq_false h4
    have hne : t.V d'[i].val ≠ t.V d'[j].val := fun e => by
      have e2 := Fin.ext (hd _ _ d'[i].isLt d'[j].isLt e)
      have hnd : d'.toList.Nodup := hperm.nodup_iff.2 (List.nodup_finRange K)
      have := (List.getElem_inj (h₀ := hi) (h₁ := hj) hnd).1 (by simpa using e2)
      omega
    simp only [Array.getElem_toList]
    omega
  · have hjd : j < d'.size := by omega
    have q0 := (hHA.cell hjd (show 0 < 3 by omega)).1
    have q1 := (hHA.cell hjd (show 1 < 3 by omega)).1
    have q2 := (hHA.cell hjd (show 2 < 3 by omega)).1
    rw [Nat.zero_add] at q0 q1 q2
    have e : (d'.toList.map Fin.val).getD j 0 = (d'[j]!).val := by
      rw [getElem!_pos d' j hjd]
      simp [List.getD_eq_getElem?_getD, hjd]
    rw [e]
    exact ⟨q0, q1, q2⟩
  · have hjd : i / 3 < d'.size := by omega
    have q := (hHA.cell hjd (show i % 3 < 3 by omega)).2
    rw [Nat.zero_add, show i / 3 * 3 + i % 3 = i by omega] at q
    exact q

end Go.Proofs.Ytdhefajaekackaa

/- As Mixed, where one operation waits for all others and comes last (a store of what was reckoned): behind it nothing need stay as it was. Plain: it speaks of no program. -/
namespace Go.Proofs.Ytdhefajaekackaa

set_option linter.unusedVariables false

variable {P : Program} {ops : Array Oper} {md : Region.Mode} {D : World → Prop}

/-- whatever order is picked, till all but the last are seen -/
def anyL (P : Program) (md : Region.Mode) (ops : Array Oper) (D : World → Prop) (sE : Array Bool) (R : Act → World → Prop) : Nat → Array Bool → Act → World → Prop
  | 0, seen, a, w => seen = sE ∧ R a w
  | f + 1, seen, a, w => Region.ready md ops seen ≠ [] ∧ ∀ i ∈ Region.ready md ops seen, wpOp P ops (endN R) i (fun a' w' => D w' ∧ anyL P md ops D sE R f (seen.setIfInBounds i true) a' w') a w

theorem any_of_anyL {R : Act → World → Prop} {Q : Exit → Act → World → Prop} {sE : Array Bool} {c : Nat} (hE : Region.ready md ops sE = [c]) (hE2 : Region.ready md ops (sE.setIfInBounds c true) = []) (hR : ∀ a w, R a w → wpOp P ops Q c (fun a' w' => Q .normal a' w') a w) (f : Nat) :
    ∀ (seen : Array Bool) (a : Act) (w : World), anyL P md ops D sE R f seen a w → wpAny P md ops Q (f + 1) seen a w := by
  induction f with
  | zero =>
    intro seen a w h
    obtain ⟨rfl, h⟩ := h
    refine ⟨fun h0 => (by rw [hE] at h0; cases h0), fun i hi => ?_⟩
    rw [hE] at hi
    obtain rfl : i = c := by simpa using hi
    exact wpOp_mono (fun a' w' h' => ⟨hE2, h'⟩) (hR a w h)
  | succ f ih =>
    intro seen a w h
    refine ⟨fun h0 => absurd h0 h.1, fun i hi => ?_⟩
    exact wpOp_ends (fun a' w' h' => ih _ a' w' h'.2) (h.2 i hi)

theorem anyL_first {R : Act → World → Prop} {sE : Array Bool} {c i : Nat} {oi oc : Oper} {v : Value} (hE : Region.ready md ops sE = [c]) (hc : ops[c]? = some oc) (hedge : ∃ e ∈ oc.after, Region.binds md e = true ∧ e.on = i)
    (hi : ops[i]? = some oi) (hsel : ∀ (j : Nat) (o : Oper) cs b, ops[j]? = some o → o.op ≠ .select cs b) (f : Nat) :
    ∀ (seen : Array Bool) (a : Act) (w : World), D w →
      (∀ j oj, ops[j]? = some oj → j ≠ i → seen.getD j true = false → (∀ e ∈ oj.after, Region.binds md e = true → e.on ≠ i) → oi.apart ops oj = true) →
      i ∈ Region.ready md ops seen → StillIn P ops D oi v a →
      anyL P md ops D sE R f (seen.setIfInBounds i true) (a.put oi.dst v) w → anyL P md ops D sE R (f + 1) seen a w := by
  induction f with
  | zero =>
    intro seen a w hD _ hr hy H
    refine ⟨List.ne_nil_of_mem hr, fun j hj => ?_⟩
    by_cases hji : j = i
    · subst hji; exact hy.wpOp hi hD ⟨hD, H⟩
    · have h1 := ready_mono hj hji
      rw [H.1, hE] at h1
      obtain rfl : j = c := by simpa using h1
      obtain ⟨hjun, oj, hoj, hall⟩ := mem_ready.1 hj
      rw [hc] at hoj
      injection hoj with hoj
      subst hoj
      obtain ⟨e, he, hb, hon⟩ := hedge
      have h2 := hall e he hb
      rw [hon, getD_both (mem_ready.1 hr).1] at h2
      cases h2
  | succ f ih =>
    intro seen a w hD hfree hr hy H
    refine ⟨List.ne_nil_of_mem hr, fun j hj => ?_⟩
    by_cases hji : j = i
    · subst hji; exact hy.wpOp hi hD ⟨hD, H⟩
    · have h1 := H.2 j (ready_mono hj hji)
      obtain ⟨hjun, oj, hoj, hall⟩ := mem_ready.1 hj
      have hun := (mem_ready.1 hr).1
      have hnot : ∀ e ∈ oj.after, Region.binds md e = true → e.on ≠ i := by
        intro e he hb heq
        have h2 := hall e he hb
        rw [heq, getD_both hun] at h2
        cases h2
      have h2 := wpOp_put hoj (hfree j oj hoj hji hjun hnot) (fun cs b => hsel i oi cs b hi) (fun cs b => hsel j oj cs b hoj) hy h1
      refine wpOp_mono (fun a' w' h3 => ⟨h3.2.1, ih (seen.setIfInBounds j true) a' w' h3.2.1 ?_ (ready_mono hr (Ne.symm hji)) h3.1 ?_⟩) h2
      · intro k ok hk hki hunk hno
        refine hfree k ok hk hki ?_ hno
        by_cases hjk : j = k
        · subst hjk
          exact hjun
        · rw [getD_set_ne true hjk] at hunk
          exact hunk
      · rw [Array.setIfInBounds_comm _ _ hji]
        exact h3.2.2

def ordL (md : Region.Mode) (ops : Array Oper) (c : Nat) : List (Nat × Bool) → Array Bool → Bool
  | [], seen => (Region.ready md ops seen == [c]) && (Region.ready md ops (seen.setIfInBounds c true)).isEmpty
  | (i, true) :: r, seen => (Region.ready md ops seen).contains i && Region.free md ops seen i && (match ops[c]? with | some o => o.after.any (fun e => Region.binds md e && e.on == i) | none => false) && ordL md ops c r (seen.setIfInBounds i true)
  | (i, false) :: r, seen => (Region.ready md ops seen == [i]) && ordL md ops c r (seen.setIfInBounds i true)

/-- what is seen behind a list of them -/
def seenBy : List (Nat × Bool) → Array Bool → Array Bool
  | [], seen => seen
  | (i, _) :: r, seen => seenBy r (seen.setIfInBounds i true)

theorem ordL_end {c : Nat} : ∀ (l : List (Nat × Bool)) (seen : Array Bool), ordL md ops c l seen = true → Region.ready md ops (seenBy l seen) = [c] ∧ Region.ready md ops ((seenBy l seen).setIfInBounds c true) = []
  | [], seen, h => by simpa [ordL, seenBy] using h
  | (i, true) :: r, seen, h => by
    simp only [ordL, Bool.and_eq_true] at h
    exact ordL_end r _ h.2
  | (i, false) :: r, seen, h => by
    simp only [ordL, Bool.and_eq_true] at h
    exact ordL_end r _ h.2

theorem anyL_of_walk {R : Act → World → Prop} {c : Nat} {sE : Array Bool} (hs : Region.noSelect ops = true) (hE : Region.ready md ops sE = [c]) : ∀ (l : List (Nat × Bool)) (seen : Array Bool) (a : Act) (w : World), D w → seenBy l seen = sE →
    ordL md ops c l seen = true → walkF P ops D R l a w → anyL P md ops D sE R l.length seen a w
  | [], _, _, _, _, hq, hB, h => ⟨hq, h⟩
  | (i, true) :: r, seen, a, w, hD, hq, hB, h => by
    simp only [ordL, Bool.and_eq_true] at hB
    obtain ⟨⟨⟨hr, hf⟩, he⟩, hB'⟩ := hB
    obtain ⟨o, v, ho, hy, hK⟩ := h
    cases hc : ops[c]? with
    | none => simp [hc] at he
    | some oc =>
      simp only [hc, Array.any_eq_true] at he
      obtain ⟨x, hx, hb⟩ := he
      simp only [Bool.and_eq_true, beq_iff_eq] at hb
      exact anyL_first hE hc ⟨oc.after[x], Array.getElem_mem hx, hb.1, hb.2⟩ ho (Region.noSelect_spec hs) r.length seen a w hD (Region.free_spec ho hf) (by simpa using hr) hy (anyL_of_walk hs hE r _ _ w hD hq hB' hK)
  | (i, false) :: r, seen, a, w, hD, hq, hB, h => by
    simp only [ordL, Bool.and_eq_true, beq_iff_eq] at hB
    obtain ⟨hr, hB'⟩ := hB
    refine ⟨by rw [hr]; exact List.cons_ne_nil _ _, fun j hj => ?_⟩
    rw [hr] at hj
    obtain rfl : j = i := by simpa using hj
    exact wpOp_mono (fun a' w' h' => ⟨h'.1, anyL_of_walk hs hE r _ a' w' h'.1 hq hB' h'.2⟩) h

/-- a region that draws its order, walked in one order, one operation behind all others -/
theorem region_mixed_last {id : Nat} {Q : Exit → Act → World → Prop} {a : Act} {w : World} {l : List Oper} (D : World → Prop) (s : List (List Nat × Nat)) (last : List Nat) (c : Nat) (hm : P.follows .mixedOrders = true)
    (hB : (Region.noSelect l.toArray && fitB l s last && (l[c]?).isSome && decide ((flatO s last).length + 1 = l.length) && ordL .any l.toArray c (flatO s last) (Array.replicate l.length false)) = true) (hD : D w.drew)
    (h : mixO P l D (fun a' w' => wpList P l.toArray Q (pickO l [c]) a' w') s last a w.drew) : (Code.region id l.toArray true).wp P Q a w := by
  simp only [Bool.and_eq_true, decide_eq_true_eq] at hB
  obtain ⟨⟨⟨⟨hsel, hf⟩, hcs⟩, hlen⟩, hord⟩ := hB
  obtain ⟨oc, hoc⟩ := Option.isSome_iff_exists.1 hcs
  obtain ⟨hE1, hE2⟩ := ordL_end _ _ hord
  refine wp_region_any hm ?_
  have h1 := anyL_of_walk (md := .any) (c := c) hsel hE1 (flatO s last) _ a w.drew hD rfl hord (walk_of_mix last s a w.drew hf h)
  have h2 := any_of_anyL (Q := Q) hE1 hE2 (fun a' w' h' => by
    have h0 : l.toArray[c]? = some oc := by simpa using hoc
    simp only [pickO, hoc, wpList] at h'
    unfold wpOp
    simp only [h0]
    exact h') _ _ _ _ h1
  rw [hlen] at h2
  simpa using h2

theorem mixO_last {l lq : List Oper} {lc : List Oper} {Q : Exit → Act → World → Prop} {last : List Nat} {c : Nat} {a : Act} {w : World} (hq : pickO l last = lq) (hc : pickO l [c] = lc)
    (h : wpQuiet P l.toArray (fun w' => ∃ u : Of D, w' = u.val) (fun a' => wpList P l.toArray Q lc a' w) lq a) : mixO P l D (fun a' w' => wpList P l.toArray Q (pickO l [c]) a' w') [] last a w := by
  subst hq hc
  exact h

end Go.Proofs.Ytdhefajaekackaa
