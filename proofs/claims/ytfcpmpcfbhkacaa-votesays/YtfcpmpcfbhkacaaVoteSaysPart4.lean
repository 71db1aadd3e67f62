/- Several texts of one proof, in their order. -/
import Derived.Test.YtfcpmpcfbhkacaaVoteSaysPart0
import Derived.Test.YtfcpmpcfbhkacaaVoteSaysPart1
import Derived.Test.YtfcpmpcfbhkacaaVoteSaysPart3

/- All sets of places, as bits, and the choices among them, sorted: the same choices in the same order; slices.Compare; what the reference keeps in memory while it gathers all choices; these, sorted by the library. -/
namespace Go.Proofs.Ytfcpmpcfbhkacaa

open Go.RowKit CurveMath
set_option linter.unusedVariables false

/-- how one list stands to another of the same length -/
def cmpL : List Nat → List Nat → Int
  | a :: l, b :: m => if a < b then -1 else if b < a then 1 else cmpL l m
  | _, _ => 0

theorem cmpL_self (l : List Nat) : cmpL l l = 0 := by
  induction l with
  | nil => rfl
  | cons a l ih => simp only [cmpL]; rw [if_neg (by omega), if_neg (by omega)]; exact ih

theorem cmpL_zero : ∀ (l m : List Nat), l.length = m.length → cmpL l m = 0 → l = m
  | [], [], _, _ => rfl
  | [], _ :: _, h, _ => by simp at h
  | _ :: _, [], h, _ => by simp at h
  | a :: l, b :: m, h, h0 => by
    simp only [cmpL] at h0
    by_cases h1 : a < b
    · rw [if_pos h1] at h0; omega
    · rw [if_neg h1] at h0
      by_cases h2 : b < a
      · rw [if_pos h2] at h0; omega
      · rw [if_neg h2] at h0
        rw [show a = b by omega, cmpL_zero l m (by simpa using h) h0]

theorem cmpL_swap : ∀ (l m : List Nat), l.length = m.length → cmpL m l = - cmpL l m
  | [], [], _ => rfl
  | [], _ :: _, h => by simp at h
  | _ :: _, [], h => by simp at h
  | a :: l, b :: m, h => by
    simp only [cmpL]
    by_cases h1 : a < b
    · rw [if_pos h1, if_neg (by omega), if_pos h1]; omega
    · by_cases h2 : b < a
      · rw [if_pos h2, if_neg h1, if_pos h2]
      · rw [if_neg h2, if_neg h1, if_neg h1, if_neg h2]; exact cmpL_swap l m (by simpa using h)

theorem cmpL_trans : ∀ (l m k : List Nat), l.length = m.length → m.length = k.length → cmpL l m < 0 → cmpL m k < 0 → cmpL l k < 0
  | [], [], _, _, _, h, _ => by simp [cmpL] at h
  | [], _ :: _, _, h, _, _, _ => by simp at h
  | _ :: _, [], _, h, _, _, _ => by simp at h
  | _ :: _, _ :: _, [], _, h, _, _ => by simp at h
  | a :: l, b :: m, c :: k, h, h', g1, g2 => by
    simp only [cmpL] at *
    by_cases e1 : a < b
    · by_cases e2 : b < c
      · rw [if_pos (by omega)]; omega
      · rw [if_neg e2] at g2
        by_cases e3 : c < b
        · rw [if_pos e3] at g2; omega
        · rw [if_pos (by omega)]; omega
    · rw [if_neg e1] at g1
      by_cases e4 : b < a
      · rw [if_pos e4] at g1; omega
      · rw [if_neg e4] at g1
        have eab : a = b := by omega
        subst eab
        by_cases e2 : a < c
        · rw [if_pos e2]; omega
        · rw [if_neg e2] at g2 ⊢
          by_cases e3 : c < a
          · rw [if_pos e3] at g2; omega
          · rw [if_neg e3] at g2 ⊢
            exact cmpL_trans l m k (by simpa using h) (by simpa using h') g1 g2

theorem comb_sorted (m : Nat) : ∀ (k i : Nat), (comb k (List.range' i m)).Pairwise (fun a b => cmpL a b < 0) := by
  induction m with
  | zero => intro k i; cases k <;> simp [comb]
  | succ m ih =>
    intro k i
    cases k with
    | zero => simp [comb]
    | succ k =>
      rw [List.range'_succ, comb, List.pairwise_append]
      refine ⟨?_, ih (k + 1) (i + 1), fun a ha b hb => ?_⟩
      · rw [List.pairwise_map]
        refine (ih k (i + 1)).imp fun h => ?_
        simp only [cmpL]
        rw [if_neg (by omega), if_neg (by omega)]
        exact h
      · obtain ⟨t, _, rfl⟩ := List.mem_map.1 ha
        obtain ⟨h1, h2, h3⟩ := comb_rise m (k + 1) (i + 1) b hb
        cases b with
        | nil => simp at h3
        | cons c b =>
          have := h2 c List.mem_cons_self
          simp only [cmpL]
          rw [if_pos (by omega)]
          decide

/-- the places whose bit is set -/
def bitsL (n s : Nat) : List Nat := (List.range n).filter fun i => s.testBit i

theorem bitsL_succ (n s : Nat) : bitsL (n + 1) s = bitsL n s ++ (if s.testBit n = true then [n] else []) := by
  unfold bitsL
  rw [List.range_succ, List.filter_append]
  cases h : s.testBit n <;> simp [h]

theorem bitsL_len (n s : Nat) : (bitsL n s).length ≤ n := by
  unfold bitsL
  refine Nat.le_trans (List.length_filter_le _ _) ?_
  simp

theorem bitsL_rise (n s : Nat) : Rise n (bitsL n s) :=
  ⟨List.Pairwise.filter _ List.pairwise_lt_range, fun x hx => List.mem_range.1 (List.mem_filter.1 hx).1⟩

theorem bitsL_inj {n s t : Nat} (hs : s < 2 ^ n) (ht : t < 2 ^ n) (h : bitsL n s = bitsL n t) : s = t := by
  refine Nat.eq_of_testBit_eq fun i => ?_
  by_cases hi : i < n
  · have h1 : i ∈ bitsL n s ↔ i ∈ bitsL n t := by rw [h]
    unfold bitsL at h1
    rw [List.mem_filter, List.mem_filter] at h1
    have h2 := List.mem_range.2 hi
    rw [Bool.eq_iff_iff]
    exact ⟨fun g => (h1.1 ⟨h2, g⟩).2, fun g => (h1.2 ⟨h2, g⟩).2⟩
  · rw [Nat.testBit_lt_two_pow (Nat.lt_of_lt_of_le hs (Nat.pow_le_pow_right (by decide) (by omega))), Nat.testBit_lt_two_pow (Nat.lt_of_lt_of_le ht (Nat.pow_le_pow_right (by decide) (by omega)))]

theorem bits_make (p : Nat → Bool) : ∀ n, ∃ s, s < 2 ^ n ∧ ∀ i, i < n → s.testBit i = p i := by
  intro n
  induction n with
  | zero => exact ⟨0, by decide, fun i hi => by omega⟩
  | succ n ih =>
    obtain ⟨s, hs, hb⟩ := ih
    cases hp : p n with
    | false =>
      refine ⟨s, by rw [Nat.pow_succ]; omega, fun i hi => ?_⟩
      by_cases e : i = n
      · subst e; rw [hp]; exact Nat.testBit_lt_two_pow hs
      · exact hb i (by omega)
    | true =>
      refine ⟨2 ^ n + s, by rw [Nat.pow_succ]; omega, fun i hi => ?_⟩
      by_cases e : i = n
      · subst e
        rw [Nat.testBit_two_pow_add_eq, Nat.testBit_lt_two_pow hs, hp]
        rfl
      · rw [Nat.testBit_two_pow_add_gt (by omega)]
        exact hb i (by omega)

/-- the choices of d places among the first sets -/
def setsL (d n k : Nat) : List (List Nat) := ((List.range k).map (bitsL n)).filter fun c => c.length == d

theorem setsL_succ (d n k : Nat) : setsL d n (k + 1) = setsL d n k ++ (if (bitsL n k).length = d then [bitsL n k] else []) := by
  unfold setsL
  rw [List.range_succ, List.map_append, List.filter_append]
  by_cases h : (bitsL n k).length = d <;> simp [h]

theorem setsL_good {d n k : Nat} {c : List Nat} (h : c ∈ setsL d n k) : Rise n c ∧ c.length = d := by
  unfold setsL at h
  obtain ⟨h1, h2⟩ := List.mem_filter.1 h
  obtain ⟨s, _, rfl⟩ := List.mem_map.1 h1
  exact ⟨bitsL_rise n s, by simpa using h2⟩

theorem setsL_perm (d n : Nat) : (setsL d n (2 ^ n)).Perm (comb d (List.range n)) := by
  have h1 : (setsL d n (2 ^ n)).Nodup := by
    unfold setsL
    rw [List.nodup_iff_pairwise_ne]
    refine List.Pairwise.filter _ ?_
    rw [List.pairwise_map]
    refine List.Pairwise.imp_of_mem ?_ List.pairwise_lt_range
    intro a b ha hb hlt e
    have := bitsL_inj (List.mem_range.1 ha) (List.mem_range.1 hb) e
    omega
  have h2 : (comb d (List.range n)).Nodup := by
    rw [List.range_eq_range', List.nodup_iff_pairwise_ne]
    refine (comb_sorted n d 0).imp fun h e => ?_
    rw [e, cmpL_self] at h
    omega
  refine (List.perm_ext_iff_of_nodup h1 h2).2 fun c => ⟨fun h => ?_, fun h => ?_⟩
  · obtain ⟨g1, g2⟩ := setsL_good h
    exact good_comb g1 g2
  · obtain ⟨g1, g2⟩ := comb_good h
    obtain ⟨s, hs, hb⟩ := bits_make (fun i => decide (i ∈ c)) n
    unfold setsL
    refine List.mem_filter.2 ⟨List.mem_map.2 ⟨s, List.mem_range.2 hs, ?_⟩, by simpa using g2⟩
    have hp : (bitsL n s).Perm c := by
      refine (List.perm_ext_iff_of_nodup ((bitsL_rise n s).1.imp (fun h => by omega)) (g1.1.imp (fun h => by omega))).2 fun x => ?_
      unfold bitsL
      rw [List.mem_filter, List.mem_range]
      constructor
      · rintro ⟨h1, h2⟩
        rw [hb x h1] at h2
        exact of_decide_eq_true h2
      · intro hx
        have := g1.2 x hx
        exact ⟨this, by rw [hb x this]; exact decide_eq_true hx⟩
    exact hp.eq_of_pairwise (le := (· < ·)) (fun a b _ _ h1 h2 => by omega) (bitsL_rise n s).1 g1.1

/-- sorted, they are the choices in their order -/
theorem sorted_comb {d n : Nat} {l : List (List Nat)} (hp : l.Perm (setsL d n (2 ^ n))) (hs : l.Pairwise (fun a b => cmpL a b ≤ 0)) : l = comb d (List.range n) := by
  have hp2 := hp.trans (setsL_perm d n)
  have hlen : ∀ c, c ∈ comb d (List.range n) → c.length = d := fun c hc => (comb_good hc).2
  refine hp2.eq_of_pairwise (le := fun a b => cmpL a b ≤ 0) (fun a b ha hb h1 h2 => ?_) hs ?_
  · have la := hlen a (hp2.mem_iff.1 ha)
    have lb' := hlen b hb
    have h3 := cmpL_swap a b (by omega)
    exact cmpL_zero a b (by omega) (by omega)
  · rw [List.range_eq_range']
    exact (comb_sorted n d 0).imp fun h => by omega

end Go.Proofs.Ytfcpmpcfbhkacaa

namespace Go.Proofs.Ytfcpmpcfbhkacaa

open Go.RowKit CurveMath
set_option linter.unusedVariables false

def cmpF (X Y : Nat → Int) : Nat → Nat → Int
  | 0, _ => 0
  | k + 1, i => if X i < Y i then -1 else if Y i < X i then 1 else cmpF X Y k (i + 1)

theorem cmpF_list {a b : List Nat} {n : Nat} (ha : a.length = n) (hb : b.length = n) : ∀ k i, i + k = n → cmpF (fun i => (a.getD i 0 : Int)) (fun i => (b.getD i 0 : Int)) k i = cmpL (a.drop i) (b.drop i) := by
  intro k
  induction k with
  | zero =>
    intro i hi
    rw [List.drop_eq_nil_of_le (by omega), List.drop_eq_nil_of_le (by omega)]
    rfl
  | succ k ih =>
    intro i hi
    have h1 : a.drop i = a.getD i 0 :: a.drop (i + 1) := by
      rw [List.drop_eq_getElem_cons (by omega : i < a.length)]
      simp [List.getD_eq_getElem?_getD, show i < a.length by omega]
    have h2 : b.drop i = b.getD i 0 :: b.drop (i + 1) := by
      rw [List.drop_eq_getElem_cons (by omega : i < b.length)]
      simp [List.getD_eq_getElem?_getD, show i < b.length by omega]
    rw [h1, h2]
    simp only [cmpF, cmpL]
    rw [ih (i + 1) (by omega)]
    by_cases g1 : a.getD i 0 < b.getD i 0
    · rw [if_pos g1, if_pos (by omega)]
    · rw [if_neg g1, if_neg (by omega)]
      by_cases g2 : b.getD i 0 < a.getD i 0
      · rw [if_pos g2, if_pos (by omega)]
      · rw [if_neg g2, if_neg (by omega)]

theorem compareInt_cases (x y : Int) : (x < y ∧ Lib.compareInt x y = -1) ∨ (y < x ∧ Lib.compareInt x y = 1) ∨ (¬ x < y ∧ ¬ y < x ∧ Lib.compareInt x y = 0) := by
  unfold Lib.compareInt
  by_cases h1 : x < y
  · exact Or.inl ⟨h1, by simp [h1]⟩
  · by_cases h2 : y < x
    · exact Or.inr (Or.inl ⟨h2, by simp [h1, h2]⟩)
    · exact Or.inr (Or.inr ⟨h1, h2, by simp [h1, h2]⟩)

set_option maxHeartbeats 1000000 in
theorem compare_isl {W : World} {B : Nat} {v1 v2 : Value} {n : Nat} {X Y : Nat → Int} (h1 : IntSl W B v1 n X) (h2 : IntSl W B v2 n Y) :
    Calls Try.prog 53 #[v1, v2] W fun e w' => e = .returned (.int .i64 (cmpF X Y n 0)) ∧ w' = W := by
  obtain ⟨a1, c1, rfl, ⟨hc1, hr1⟩, hx⟩ := h1
  obtain ⟨a2, c2, rfl, ⟨hc2, hr2⟩, hy⟩ := h2
  obtain ⟨ans, hans⟩ : ∃ ans, cmpF X Y n 0 = ans := ⟨_, rfl⟩
  rw [hans]
  have HA := hid hans
  have HX := hid hx
  have HY := hid hy
  clear hans hx hy
  go_enter Try.func53, Try.ntmps53
  go_wp2
  go_loopw [11] (fun iv wr => ∃ i : Nat, i ≤ n ∧ iv = .int .i64 i ∧ wr = W ∧ Hid (cmpF X Y (n - i) i = ans)) (fun iv _ => n - (intOf iv).toNat)
  case atStart => exact ⟨0, Nat.zero_le _, rfl, rfl, HA⟩
  case round =>
    obtain ⟨i, hi, rfl, hwr, HC⟩ := hrel
    subst hwr
    by_cases hlt : i < n
    · have hii : (i : Int) < (n : Int) := by omega
      rcases HX.out with h0 | ⟨b1, o1, rfl, _, hx⟩
      · omega
      rcases HY.out with h0 | ⟨b2, o2, rfl, _, hy⟩
      · omega
      have g1 := hx i hlt
      have g2 := hy i hlt
      have hstep := HC.out
      rw [show n - i = (n - (i + 1)) + 1 by omega] at hstep
      simp only [cmpF] at hstep
      obtain ⟨x, hxx⟩ : ∃ x, X i = x := ⟨_, rfl⟩
      obtain ⟨y, hyy⟩ : ∃ y, Y i = y := ⟨_, rfl⟩
      rw [hxx] at g1 hstep
      rw [hyy] at g2 hstep
      clear hx hy hxx hyy
      rcases compareInt_cases x y with ⟨e1, e2⟩ | ⟨e1, e2⟩ | ⟨e0, e1, e2⟩
      · rw [if_pos e1] at hstep
        have HSt := hid hstep
        have HE := hid e2
        clear hstep e2
        go_wp2_with (go_at_call 64; go_must (refine (Try.cmp_Compare_int _ _ _).mono ?_; rintro e wq ⟨rfl, hwq⟩; subst wq; rw [HE.out]))
        go_ret
        exact ⟨by rw [← HSt.out]; rfl, rfl⟩
      · rw [if_neg (by omega), if_pos e1] at hstep
        have HSt := hid hstep
        have HE := hid e2
        clear hstep e2
        go_wp2_with (go_at_call 64; go_must (refine (Try.cmp_Compare_int _ _ _).mono ?_; rintro e wq ⟨rfl, hwq⟩; subst wq; rw [HE.out]))
        go_ret
        exact ⟨by rw [← HSt.out]; rfl, rfl⟩
      · rw [if_neg e0, if_neg e1] at hstep
        have HSt := hid hstep
        have HE := hid e2
        clear hstep e2
        go_wp2_with (go_at_call 64; go_must (refine (Try.cmp_Compare_int _ _ _).mono ?_; rintro e wq ⟨rfl, hwq⟩; subst wq; rw [HE.out]))
        go_roundw
        case rel => exact ⟨i + 1, by omega, by go_num, trivial, HSt⟩
        case measure => simp only [intOf]; omega
    · have hie : n = i := by omega
      subst hie
      have hf := HC.out
      rw [Nat.sub_self] at hf
      have HF : Hid ((0 : Int) = ans) := hf
      clear hf
      go_wp2
      go_ret
      exact ⟨by rw [← HF.out]; rfl, rfl⟩

end Go.Proofs.Ytfcpmpcfbhkacaa

namespace Go.Proofs.Ytfcpmpcfbhkacaa

open Go.RowKit CurveMath Go.Sort
set_option linter.unusedVariables false

theorem Try.infoInts : (Try.prog.info? 24).map (fun i => (i.zero, i.size, i.bytes)) = some (some (.slice none 0 0), 1, 24) := by kernel_rfl

/-- a list of places, as numbers -/
def plI (c : List Nat) : Nat → Int := fun i => ((c.getD i 0 : Nat) : Int)

structure PInv (w1 wr : World) (d : Nat) (vp : Value) (ps : List (List Nat)) (pv : Nat → Value) : Prop where
  below : Below w1.heap.size w1 wr
  own : wr.ownsRow w1.heap.size 24 1 vp ps.length ((List.range ps.length).map pv)
  l : ∀ j, j < ps.length → IntSl wr wr.heap.size (pv j) d (plI (ps.getD j [])) ∧ Off vp (pv j)

theorem PInv.nil (w1 : World) (d : Nat) (pv : Nat → Value) : PInv w1 w1 d (.slice none 0 0) [] pv := ⟨Below.refl _ _, World.ownsRow_nil _ _ _ _, fun j hj => by simp at hj⟩

theorem PInv.up {w1 wr w' : World} {d : Nat} {vp : Value} {ps : List (List Nat)} {pv : Nat → Value} (h : PInv w1 wr d vp ps pv) (hb : Below wr.heap.size wr w') : PInv w1 w' d vp ps pv :=
  ⟨h.below.trans (hb.mono h.below.size), owns_below h.own hb, fun j hj => ⟨(h.l j hj).1.up hb, (h.l j hj).2⟩⟩

theorem PInv.push {w1 w0 wr w2 : World} {d : Nat} {vp va v' : Value} {ps : List (List Nat)} {pv : Nat → Value} {c : List Nat} {o : Obj} (h : PInv w1 w0 d vp ps pv) (hd : 1 ≤ d ∧ d ≤ 8) (hc : c.length = d) (ha : OwnL w0 wr va (c.map fun (x : Nat) => (x : Int)))
    (hg : (wr.alloc o).grownBy w2 vp.ownBlock) (ho : w2.ownsRow w1.heap.size 24 1 v' (ps.length + 1) ((List.range ps.length).map pv ++ [va])) (hat : v'.ownBlock = vp.ownBlock ∨ v'.ownBlock = some (wr.alloc o).heap.size) :
    PInv w1 w2 d v' (ps ++ [c]) (fun j => if j = ps.length then va else pv j) := by
  have hr := h.up ha.2
  have hbA : Below w1.heap.size w1 (wr.alloc o) := hr.below.alloc hr.below.size o
  have hia : IntSl wr wr.heap.size va d (plI c) := by
    have h1 := ha.isl (by simp; omega)
    rw [List.length_map, hc] at h1
    exact h1.congr fun j hj => by unfold plI; simp [List.getD_eq_getElem?_getD, show j < c.length by omega]
  have hoa : Off vp va := fun ad nn cc e e2 => by
    have h1 := (ha.1.lt ad.block (by rw [e]; rfl)).1
    have h2 := (h.own.lt ad.block e2.symm).2
    omega
  refine ⟨hbA.grown hg hbA.size (fun k hk => (h.own.lt k hk).1), ?_, fun j hj => ?_⟩
  · rw [List.length_append, List.length_singleton, List.range_succ, List.map_append]
    have e : (List.range ps.length).map (fun j => if j = ps.length then va else pv j) = (List.range ps.length).map pv := List.map_congr_left fun j hj => by rw [if_neg (by have := List.mem_range.1 hj; omega)]
    rw [e]
    simp only [List.map_cons, List.map_nil, if_true]
    exact ho
  · rw [List.length_append, List.length_singleton] at hj
    by_cases e : j = ps.length
    · subst e
      have e2 : (ps ++ [c]).getD ps.length [] = c := by simp
      rw [if_pos rfl, e2]
      exact off_step hd.1 hia hoa hg hat
    · have e2 : (ps ++ [c]).getD j [] = ps.getD j [] := by simp [List.getD_eq_getElem?_getD, List.getElem?_append_left (show j < ps.length by omega)]
      rw [if_neg e, e2]
      exact off_step hd.1 (hr.l j (by omega)).1 (hr.l j (by omega)).2 hg hat

theorem fin_map (ps : List (List Nat)) : (List.finRange ps.length).map (fun i => ps.getD i.val []) = ps := by
  apply List.ext_getElem (by simp)
  intro j h1 h2
  simp [List.getD_eq_getElem?_getD]

/-- a list of ints stays while another row is sorted -/
theorem IntSl.sorted {α : Type} [Inhabited α] {enc : α → Value} {w : World} {gp m : Nat} {dk : Array α} {os : Array Obj} {v : Value} {n : Nat} {X : Nat → Int} (h : IntSl w w.heap.size v n X) (ho : v.ownBlock ≠ some gp) : IntSl (sortWorld enc w gp 0 m dk os) w.heap.size v n X := by
  obtain ⟨ad, cap, rfl, h0, h2⟩ := h
  refine ⟨ad, cap, rfl, h0, ?_⟩
  rcases h2 with h2 | ⟨b, off, rfl, h4, h5⟩
  · exact Or.inl h2
  · refine Or.inr ⟨b, off, rfl, h4, fun j hj => ?_⟩
    have hne : b ≠ gp := fun e => ho (by rw [e]; rfl)
    unfold sortWorld
    rw [cell?_grow _ _ _ (by simp [putRow, mapBlock, Sort.ahead]; exact h4), cell?_putRow_other _ _ _ _ _ _ (Or.inl hne), cell?_ahead]
    exact h5 j hj

/-- the picks, sorted -/
theorem sort_picks {w1 wr : World} {d : Nat} {vp : Value} {ps : List (List Nat)} {pv : Nat → Value} (h : PInv w1 wr d vp ps pv) (hd : 1 ≤ d) (hk : 1 ≤ ps.length) (hk2 : ps.length ≤ 1000) (hlen : ∀ c ∈ ps, c.length = d) (hnd : ps.Nodup) :
    Calls Try.prog 52 #[vp, .func (.func 53) #[] #[]] wr fun e w' => e = .returned (.tuple #[]) ∧ Below w1.heap.size w1 w' ∧ ∃ (l : List (List Nat)) (gp cap : Nat) (qv : Nat → Value), l.Perm ps ∧ l.Pairwise (fun a b => cmpL a b ≤ 0) ∧ vp = .slice (some ⟨gp, 0, none⟩) l.length cap ∧ l.length ≤ cap ∧
      ∀ j, j < l.length → w'.cell? ⟨gp, j, none⟩ = some (qv j) ∧ IntSl w' w'.heap.size (qv j) d (plI (l.getD j [])) := by
  obtain ⟨hl, h2⟩ := h.own
  rcases h2 with ⟨_, h0⟩ | ⟨gp, cap, cur, hvp, hg, hh, hc1, hc2, hsz, hcur⟩
  · omega
  rw [Nat.mul_one] at hcur
  obtain ⟨K, hK⟩ : ∃ K, ps.length = K := ⟨_, rfl⟩
  have hKp : 0 < K := by omega
  haveI : Inhabited (Fin ps.length) := ⟨⟨0, by omega⟩⟩
  have hgl : gp < wr.heap.size := (Array.getElem?_eq_some_iff.1 hh).1
  have hpl : ∀ x : Fin ps.length, (ps.getD x.val []).length = d := fun x => hlen _ (by simp [List.getD_eq_getElem?_getD])
  have hoff : ∀ x : Fin ps.length, (pv x.val).ownBlock ≠ some gp := fun x e => by
    obtain ⟨i1, i2⟩ := h.l x.val x.isLt
    obtain ⟨ad, cc, e1, _, _⟩ := i1
    rw [e1] at e
    cases ad with
    | none => cases e
    | some a =>
      injection e with e
      refine i2 a _ _ e1 ?_
      rw [hvp]
      show some a.block = some gp
      rw [e]
  have hget : ∀ j (hj : j < ps.length), (List.finRange ps.length).toArray[j]! = ⟨j, hj⟩ := fun j hj => by
    rw [getElem!_pos _ _ (by simpa using hj)]
    simp
  have hsize : (List.finRange ps.length).toArray.size = ps.length := by simp
  have hO : SWO (ltOf fun x y : Fin ps.length => cmpL (ps.getD x.val []) (ps.getD y.val [])) := by
    refine ⟨fun x => ?_, fun x y z h1 h2 => ?_, fun x y z h1 h2 => ?_⟩
    · refine decide_eq_false ?_
      show ¬ cmpL (ps.getD x.val []) (ps.getD x.val []) < 0
      rw [cmpL_self]; omega
    · exact decide_eq_true (cmpL_trans _ _ _ (by rw [hpl, hpl]) (by rw [hpl, hpl]) (of_decide_eq_true h1) (of_decide_eq_true h2))
    · refine decide_eq_false fun h3 => ?_
      replace h3 : cmpL (ps.getD x.val []) (ps.getD z.val []) < 0 := h3
      have g1 : ¬ cmpL (ps.getD x.val []) (ps.getD y.val []) < 0 := of_decide_eq_false h1
      have g2 : ¬ cmpL (ps.getD y.val []) (ps.getD z.val []) < 0 := of_decide_eq_false h2
      have s1 := cmpL_swap (ps.getD x.val []) (ps.getD y.val []) (by rw [hpl, hpl])
      by_cases e : cmpL (ps.getD x.val []) (ps.getD y.val []) = 0
      · rw [cmpL_zero _ _ (by rw [hpl, hpl]) e] at h3
        exact g2 h3
      · exact g2 (cmpL_trans _ _ _ (by rw [hpl, hpl]) (by rw [hpl, hpl]) (by omega) h3)
  have hT : ∀ x y : Fin ps.length, ltOf (fun x y : Fin ps.length => cmpL (ps.getD x.val []) (ps.getD y.val [])) x y = false → ltOf (fun x y : Fin ps.length => cmpL (ps.getD x.val []) (ps.getD y.val [])) y x = false → x = y := fun x y h1 h2 => by
    have g1 : ¬ cmpL (ps.getD x.val []) (ps.getD y.val []) < 0 := of_decide_eq_false h1
    have g2 : ¬ cmpL (ps.getD y.val []) (ps.getD x.val []) < 0 := of_decide_eq_false h2
    have s1 := cmpL_swap (ps.getD x.val []) (ps.getD y.val []) (by rw [hpl, hpl])
    have e := cmpL_zero (ps.getD x.val []) (ps.getD y.val []) (by rw [hpl, hpl]) (by omega)
    have e2 : ps[x.val]? = ps[y.val]? := by
      rw [List.getElem?_eq_getElem x.isLt, List.getElem?_eq_getElem y.isLt]
      simpa [List.getD_eq_getElem?_getD] using e
    exact Fin.ext ((List.getElem?_inj x.isLt hnd).1 e2)
  have hcmp : CmpReads Try.prog 53 #[] (fun x : Fin ps.length => pv x.val) (fun x y => cmpL (ps.getD x.val []) (ps.getD y.val [])) gp 0 (List.finRange ps.length).toArray.size wr := fun m os dk hs x y => by
    refine (compare_isl ((h.l x.val x.isLt).1.sorted (hoff x)) ((h.l y.val y.isLt).1.sorted (hoff y))).mono ?_
    rintro e w' ⟨he, hw⟩
    refine ⟨?_, 0, by rw [hw]; rfl⟩
    rw [he]
    have h7 := cmpF_list (hpl x) (hpl y) d 0 (by omega)
    rw [List.drop_zero, List.drop_zero] at h7
    show Ending.returned (Value.int .i64 (cmpF (plI (ps.getD x.val [])) (plI (ps.getD y.val [])) d 0)) = Ending.returned (Value.int .i64 (cmpL (ps.getD x.val []) (ps.getD y.val [])))
    rw [← h7]
    rfl
  have hH : Holds (fun x : Fin ps.length => pv x.val) wr gp 0 (List.finRange ps.length).toArray := fun j hj => by
    rw [hsize] at hj
    refine ⟨?_, frozen_at hh⟩
    rw [hget j hj, Nat.zero_add]
    have h3 : ((List.range ps.length).map pv)[j]? = some (pv j) := by simp [hj]
    rw [← hcur, List.getElem?_take, if_pos hj] at h3
    exact cell_at hh (by simpa using h3)
  have hcon := Any.slices_SortFunc_total Try.sortLists (fun x : Fin ps.length => pv x.val) (fun x => slice_one (h.l x.val x.isLt).1) (fun x y => cmpL (ps.getD x.val []) (ps.getD y.val [])) hO 53 #[] gp 0 cap (List.finRange ps.length).toArray wr (enters_of Try.func53 (by kernel_rfl) rfl) hcmp.lays hH hgl (by rw [hsize]; omega) hT
  rw [hsize] at hcon
  rw [hvp]
  refine hcon.mono ?_
  rintro e w' ⟨he, q, os, hw⟩
  obtain ⟨τ, hτ⟩ : ∃ τ, ((List.finRange ps.length).toArray.toList.mergeSort fun x y => !(ltOf fun x y : Fin ps.length => cmpL (ps.getD x.val []) (ps.getD y.val [])) y x) = τ := ⟨_, rfl⟩
  rw [hτ] at hw
  have hτp : τ.Perm (List.finRange ps.length) := by rw [← hτ]; simpa using List.mergeSort_perm (List.finRange ps.length) _
  have hτs : τ.Pairwise fun x y => (!(ltOf fun x y : Fin ps.length => cmpL (ps.getD x.val []) (ps.getD y.val [])) y x) = true := by
    rw [← hτ]
    refine List.pairwise_mergeSort (fun a b c h1 h2 => ?_) (fun a b => ?_) _
    · rw [Bool.not_eq_true'] at *
      exact hO.ntrans c b a h2 h1
    · rw [Bool.or_eq_true, Bool.not_eq_true', Bool.not_eq_true']
      cases e1 : (ltOf fun x y : Fin ps.length => cmpL (ps.getD x.val []) (ps.getD y.val [])) b a with
      | false => exact Or.inl rfl
      | true =>
        refine Or.inr ?_
        cases e2 : (ltOf fun x y : Fin ps.length => cmpL (ps.getD x.val []) (ps.getD y.val [])) a b with
        | false => rfl
        | true => have := hO.trans _ _ _ e1 e2; rw [hO.irrefl] at this; cases this
  have hτl : τ.length = ps.length := by rw [hτp.length_eq]; simp
  refine ⟨he, ?_, τ.map (fun i => ps.getD i.val []), gp, cap, fun j => pv (τ.toArray[j]!).val, ?_, ?_, by rw [List.length_map, hτl], by rw [List.length_map, hτl]; exact hc1, fun j hj => ?_⟩
  · rw [hw]
    refine h.below.trans ⟨rfl, rfl, rfl, by simp [sortWorld, putRow, mapBlock, Sort.ahead], fun k hk => ?_⟩
    have hne : gp ≠ k := by omega
    have hkl : k < wr.heap.size := Nat.lt_of_lt_of_le hk h.below.size
    unfold sortWorld
    rw [heap_grow_old _ _ (by simpa [putRow, mapBlock, Sort.ahead] using hkl)]
    simp [putRow, mapBlock, Sort.ahead, Array.getElem?_modify, hne]
  · have := hτp.map (fun i => ps.getD i.val [])
    rw [fin_map] at this
    exact this
  · rw [List.pairwise_map]
    refine hτs.imp fun {a b} h1 => ?_
    have g : ¬ cmpL (ps.getD b.val []) (ps.getD a.val []) < 0 := of_decide_eq_false (by simpa using h1 : (ltOf fun x y : Fin ps.length => cmpL (ps.getD x.val []) (ps.getD y.val [])) b a = false)
    have s1 := cmpL_swap (ps.getD a.val []) (ps.getD b.val []) (by rw [hpl, hpl])
    omega
  · rw [List.length_map] at hj
    have hsz2 : w'.heap.size = wr.heap.size + os.size := by rw [hw]; simp [sortWorld, putRow, mapBlock, Sort.ahead, grow]
    have hHA : Holds (fun x : Fin ps.length => pv x.val) (Sort.ahead wr q) gp 0 (List.finRange ps.length).toArray := hH
    refine ⟨?_, ?_⟩
    · rw [hw]
      unfold sortWorld
      rw [cell?_grow _ _ _ (by simpa [putRow, mapBlock, Sort.ahead] using hgl)]
      have := cell?_putRow (fun x : Fin ps.length => pv x.val) (Sort.ahead wr q) gp 0 _ τ.toArray hHA (by simp [hτl]) j (by simpa using hj)
      rw [Nat.zero_add] at this
      exact this
    · have e : (τ.map (fun i => ps.getD i.val [])).getD j [] = ps.getD (τ.toArray[j]!).val [] := by
        rw [getElem!_pos _ _ (by simpa using hj)]
        simp [List.getD_eq_getElem?_getD, hj]
      rw [e]
      have h9 := (h.l (τ.toArray[j]!).val (τ.toArray[j]!).isLt).1.sorted (enc := fun x : Fin ps.length => pv x.val) (m := q) (dk := τ.toArray) (os := os) (hoff (τ.toArray[j]!))
      rw [← hw] at h9
      exact h9.mono (by omega)

end Go.Proofs.Ytfcpmpcfbhkacaa
