/- Several texts of one proof, in their order. -/
import Derived.Test.YtikchpffkhohlaaGreatASum19
import Derived.Laws.EntriesVeiled
import Derived.OwnWalk
import Derived.Test.YtikchpffkhohlaaGreatASum10
import Derived.Test.YtikchpffkhohlaaGreatASum1
import Derived.Sort.OwnSortedInts
import Derived.Test.YtikchpffkhohlaaGreatASum11
import Derived.Test.YtikchpffkhohlaaGreatASum15

namespace Go.Proofs.YtikchpffkhohlaaGreat

open Go.RowKit CurveMath
set_option linter.unusedVariables false

theorem three_new (w : World) (o1 o2 o3 : Obj) : Below w.heap.size w (((w.alloc o1).alloc o2).alloc o3) ∧ (((w.alloc o1).alloc o2).alloc o3).heap[w.heap.size]? = some o1 ∧ (((w.alloc o1).alloc o2).alloc o3).heap[w.heap.size + 1]? = some o2 ∧ (((w.alloc o1).alloc o2).alloc o3).heap[w.heap.size + 2]? = some o3 := by
  refine ⟨((Below.refl _ _).alloc (Nat.le_refl _) _).alloc (by simp) _ |>.alloc (by simp; omega) _, ?_, ?_, ?_⟩
  · rw [Below.heap_alloc _ _ _ (by simp; omega), Below.heap_alloc _ _ _ (by simp)]; exact heap_alloc_new _ _
  · rw [Below.heap_alloc _ _ _ (by simp)]; have := heap_alloc_new (w.alloc o1) o2; simpa using this
  · have := heap_alloc_new ((w.alloc o1).alloc o2) o3; simpa using this

theorem two_new (w : World) (o1 o2 : Obj) : Below w.heap.size w ((w.alloc o1).alloc o2) ∧ ((w.alloc o1).alloc o2).heap[w.heap.size]? = some o1 ∧ ((w.alloc o1).alloc o2).heap[w.heap.size + 1]? = some o2 := by
  refine ⟨((Below.refl _ _).alloc (Nat.le_refl _) _).alloc (by simp) _, ?_, ?_⟩
  · rw [Below.heap_alloc _ _ _ (by simp)]; exact heap_alloc_new _ _
  · have := heap_alloc_new (w.alloc o1) o2; simpa using this

set_option maxHeartbeats 2000000 in
set_option maxRecDepth 10000 in
theorem each_any {w wr : World} {d m s R n : Nat} {N : Nat → Int} {V : Nat → Value} {L : Nat → Nat} {X : Nat → Nat → Int} {a : Option Addr} {cp bb : Nat} {st : Option (List Nat)} (hS : Shares d m s R n N L X) (h : ShSl w w.heap.size (.slice a n cp) n N V L X)
    (I : VInv w wr d m s R n N X (.slice a n cp) bb st) (hlt : bb + 1 < wr.heap.size) :
    Calls Tryz.prog 76 #[.int .i64 (d : Int), .slice a n cp, askF w.heap.size bb] wr
      (TryPost w wr d m s R n N X (.slice a n cp) bb ((comb d (List.range n)).foldl (stepV d s R n N X) st)) := by
  obtain ⟨hb3, c1, c2, c3⟩ := three_new wr (.cells #[.int .i64 (d : Int)] 3) (.cells #[askF w.heap.size bb] 105) (.cells #[tryF wr.heap.size] 152)
  have hE : EInv _ d wr.heap.size w.heap.size bb := ⟨cell_at c1 rfl, cell_at c2 rfl, cell_at c3 rfl, hlt⟩
  have hT := try_any (bb := bb) (em := wr.heap.size) hS h d [] 0 _ (.slice none 0 0) (.slice a n cp) st (by simp) ⟨List.Pairwise.nil, fun x hx => by cases hx⟩ (Nat.zero_le _) (I.up hb3) hE (Or.inl ⟨rfl, rfl⟩) (by simpa using h)
  have e1 : (comb d (List.range' 0 (n - 0))).map (([] : List Nat) ++ ·) = comb d (List.range n) := by
    rw [Nat.sub_zero, List.range_eq_range']
    simp
  rw [e1] at hT
  unfold askF tryF at hT
  unfold askF tryF at hb3
  unfold askF
  have HT := hid hT
  have HB3 := hid hb3
  clear hT hb3 hE c1 c2 c3 hS h I
  go_enter Tryz.func76, Tryz.ntmps76
  go_wp2_with fail
  refine HT.out.mono ?_
  rintro e w1 ⟨rfl, h1, h2⟩
  have H1 := hid h1
  have H2 := hid h2
  clear h1 h2
  go_wp2
  go_end0
  exact ⟨rfl, H1.out, (Kp.of_below HB3.out).trans H2.out⟩

theorem joinE_nine {nd of sz : Int} {n : Nat} {N : Nat → Int} {L : Nat → Nat} {X : Nat → Nat → Int} (h : joinE nd of sz n N L X = 9) : checksE nd of sz n N L X = 0 := by
  rw [joinE_checks] at h
  by_cases hc : checksE nd of sz n N L X = 0
  · exact hc
  · rw [if_neg hc] at h
    exfalso
    unfold checksE at h
    by_cases h1 : planOk nd of sz = true
    · rw [if_pos h1] at h
      by_cases h2 : n ≤ 8
      · rw [if_pos h2] at h
        by_cases h3 : scanS nd of sz N L X n 0 = 0
        · rw [if_pos h3] at h
          by_cases h4 : nd ≤ (n : Int)
          · rw [if_pos h4] at h; omega
          · rw [if_neg h4] at h; omega
        · rw [if_neg h3] at h
          have key : ∀ m k, scanS nd of sz N L X m k ≠ 9 := by
            intro m
            induction m with
            | zero => intro k; simp [scanS]
            | succ m ih =>
              intro k
              simp only [scanS]
              by_cases g1 : oneE nd of sz (N k) (L k) (X k) = 0
              · rw [if_pos g1]
                by_cases g2 : hasB N k (N k) = true
                · rw [if_pos g2]; decide
                · rw [if_neg g2]; exact ih _
              · rw [if_neg g1]
                unfold oneE
                repeat' split
                all_goals decide
          exact key n 0 h
      · rw [if_neg h2] at h; omega
    · rw [if_neg h1] at h; omega

set_option maxHeartbeats 2000000 in
set_option maxRecDepth 10000 in
theorem most_any (nd of sz : Int) (v : Value) (n : Nat) (N : Nat → Int) (V : Nat → Value) (L : Nat → Nat) (X : Nat → Nat → Int) (w : World) (h : ShSl w w.heap.size v n N V L X) :
    Calls Tryz.prog 37 #[planV nd of sz, v] w (MostPost w nd of sz n N L X) := by
  have HS := hid h
  obtain ⟨ad, cap, rfl, ⟨hcap, hbig⟩, hx⟩ := h
  obtain ⟨hb2, c1, c2⟩ := two_new w (.cells #[.int .i64 nd, .int .i64 of, .int .i64 sz] 30) (.cells #[.slice ad n cap] 71)
  have HJ := hid (owes.join nd of sz _ n N V L X _ (HS.out.up hb2))
  have q0 := cell_at (i := 0) c1 rfl
  have q1 := cell_at (i := 1) c1 rfl
  have q2 := cell_at (i := 2) c1 rfl
  have ql := cell_at (i := 0) c2 rfl
  have HB2 := hid hb2
  have HC1 := hid c1
  have HC2 := hid c2
  clear hb2 c1 c2 hx
  have q24 : ∀ (w : World) (a : Option Addr) (n c : Nat), (binOp .eql 28 (.slice a n c) (.slice none 0 0)).run Tryz.prog w = .ok (.bool a.isNone) w := fun w a n c => Lib.run_eql_slice_nil w _ _ a n c 0 0 Tryz.underlying28
  by_cases hj : joinE nd of sz n N L X = 9
  · obtain ⟨d, m, s, R, rfl, rfl, rfl, hSh⟩ := checks_ok (joinE_nine hj)
    rw [hj] at HJ
    have HSh := hid hSh
    have hsp : 1 ≤ s := by have := (planOk_spec hSh.plan).2.2; omega
    have hch := hSh.checks
    have HCh := hid hch
    clear hj hSh hch
    unfold planV
    go_enter Tryz.func37, Tryz.ntmps37
    go_wp2_with fail
    refine HJ.out.mono ?_
    rintro e w1 ⟨hb1, r, mm, rfl, hmm, hr⟩
    obtain ⟨ar, cr, hre, _, _⟩ := hr
    subst hre
    have r0 : w1.cell? ⟨w.heap.size, 0, none⟩ = some (.int .i64 (d : Int)) := by rw [hb1.cell (cell_lt q0)]; exact q0
    have r1 : w1.cell? ⟨w.heap.size, 1, none⟩ = some (.int .i64 (m : Int)) := by rw [hb1.cell (cell_lt q1)]; exact q1
    have r2 : w1.cell? ⟨w.heap.size, 2, none⟩ = some (.int .i64 (s : Int)) := by rw [hb1.cell (cell_lt q2)]; exact q2
    have rl : w1.cell? ⟨w.heap.size + 1, 0, none⟩ = some (.slice ad n cap) := by rw [hb1.cell (cell_lt ql)]; exact ql
    have HB1 := hid (HB2.out.trans (hb1.mono HB2.out.size))
    clear hb1 hmm q0 q1 q2 ql
    obtain ⟨hb3, d1, d2⟩ := two_new w1 (.cells #[.slice none 0 0] 28) (.cells #[.slice none 0 0] 28)
    obtain ⟨w2, hw2⟩ : ∃ w2, (w1.alloc (.cells #[.slice none 0 0] 28)).alloc (.cells #[.slice none 0 0] 28) = w2 := ⟨_, rfl⟩
    rw [hw2] at hb3 d1 d2
    have t0 : w2.cell? ⟨w.heap.size, 0, none⟩ = some (.int .i64 (d : Int)) := by rw [hb3.cell (cell_lt r0)]; exact r0
    have t1 : w2.cell? ⟨w.heap.size, 1, none⟩ = some (.int .i64 (m : Int)) := by rw [hb3.cell (cell_lt r1)]; exact r1
    have t2 : w2.cell? ⟨w.heap.size, 2, none⟩ = some (.int .i64 (s : Int)) := by rw [hb3.cell (cell_lt r2)]; exact r2
    have tl : w2.cell? ⟨w.heap.size + 1, 0, none⟩ = some (.slice ad n cap) := by rw [hb3.cell (cell_lt rl)]; exact rl
    have I2 : VInv w w2 d m s R n N X (.slice ad n cap) w1.heap.size none := ⟨HB1.out.trans (hb3.mono HB1.out.size), t0, t1, t2, tl, cell_lt rl, _, _, ⟨d1, _, _, _, rfl⟩, ⟨d2, _, _, _, rfl⟩, Or.inl ⟨rfl, rfl, rfl⟩⟩
    have hE := each_any HSh.out HS.out I2 (Array.getElem?_eq_some_iff.1 d2).1
    unfold askF at hE
    have HE := hid hE
    clear hE I2 hb3 d1 d2 r0 r1 r2 rl
    go_wp2_with fail
    refine HE.out.mono ?_
    rintro e w3 ⟨rfl, h3, -⟩
    have HI3 := hid h3
    obtain ⟨vb, vo, B1, B2, Hd⟩ := h3.held
    have b1 := B1.cell
    have b2 := B2.cell
    clear h3 t0 t1 t2 tl B1 B2
    rcases Hd with ⟨hst, rfl, rfl⟩ | ⟨c, hst, hb1, hb2⟩
    · have hE : mostE (d : Int) (m : Int) (s : Int) n N L X = 9 := by
        unfold mostE mostC electV
        rw [if_pos HCh.out, Int.toNat_natCast, Int.toNat_natCast, HSh.out.rows, hst]
        rfl
      have HE9 := hid hE
      clear hE hst
      go_wp2
      go_ret3
      exact most_err HI3.out.below HE9.out (by decide) none 0
    · have hC : mostC (d : Int) (s : Int) n N X = some c := by
        unfold mostC electV
        rw [Int.toNat_natCast, Int.toNat_natCast, HSh.out.rows, hst]
      have hE : mostE (d : Int) (m : Int) (s : Int) n N L X = 0 := by
        unfold mostE
        rw [if_pos HCh.out, hC]
        rfl
      have hD : mostD (d : Int) (s : Int) n N X = conD d N X c := by
        unfold mostD
        rw [hC, Int.toNat_natCast]
        rfl
      have hB : mostB (d : Int) (m : Int) (s : Int) n N L X = srt (badL d s R n N X (conD d N X c)) := by
        unfold mostB
        rw [if_pos hE, hD, Int.toNat_natCast, Int.toNat_natCast, HSh.out.rows]
      have HEE := hid hE
      have HDD := hid hD
      have HBB := hid hB
      have H1 := hid hb1
      have H2 := hid hb2
      obtain ⟨avb, cvb, hve, _, hvv⟩ := hb1
      obtain ⟨avo, cvo, hoe, _, _⟩ := hb2
      subst hve
      subst hoe
      have hav : avb.isNone = false := by
        rcases hvv with h0 | ⟨b, o, rfl, _⟩
        · omega
        · rfl
      clear hE hD hB hC hst hvv
      go_wp2
      go_quiet (fail)
      go_wp2
      have hdr : Below w3.heap.size w3 (w3.drewN nq) := ⟨rfl, rfl, rfl, Nat.le_refl _, fun _ _ => rfl⟩
      go_ret3
      refine ⟨HI3.out.below.trans (hdr.mono HI3.out.below.size), _, _, s, by rw [HEE.out]; rfl, by rw [HEE.out, if_pos rfl], ?_, ?_⟩
      · rw [HDD.out]; exact H1.out.up hdr
      · rw [HBB.out, srt_len]; exact H2.out.up hdr
  · obtain ⟨k1, k2, k3⟩ := most_join hj
    have K1 := hid k1
    have K2 := hid k2
    have K3 := hid k3
    obtain ⟨c, hc⟩ : ∃ c, joinE nd of sz n N L X = c := ⟨_, rfl⟩
    rw [hc] at HJ hj K1 K3
    have hcb : (c != 9) = true := by simpa using hj
    clear hc hj k1 k2 k3
    unfold planV
    go_enter Tryz.func37, Tryz.ntmps37
    go_wp2_with fail
    refine HJ.out.mono ?_
    rintro e w1 ⟨hb1, r, mm, rfl, hmm, hr⟩
    have HR := hid hr
    have HM := hid hmm
    have HB1 := hid (HB2.out.trans (hb1.mono HB2.out.size))
    obtain ⟨ar, cr, hre, _, _⟩ := hr
    subst hre
    clear hb1 hmm q0 q1 q2 ql
    go_wp2
    go_ret3
    refine ⟨HB1.out, _, _, mm, by rw [K1.out]; rfl, by rw [K1.out]; exact HM.out, ?_, ?_⟩
    · refine HR.out.congr fun i hi => ?_
      have hmm := HM.out
      by_cases h0 : c = 0
      · rw [if_pos h0] at hmm
        exact (K3.out h0 i (by omega)).symm
      · rw [if_neg h0] at hmm
        omega
    · rw [K2.out]
      exact ⟨none, 0, rfl, ⟨Nat.le_refl _, by decide⟩, Or.inl rfl⟩

end Go.Proofs.YtikchpffkhohlaaGreat

namespace Go.Proofs.YtikchpffkhohlaaGreat

open Go.RowKit CurveMath
set_option linter.unusedVariables false

theorem eqB_yes {n m : Nat} {X Y : Nat → Int} (h : n = m) (hx : ∀ j, j < n → X j = Y j) : eqB n m X Y = true := decide_eq_true ⟨h, hx⟩

end Go.Proofs.YtikchpffkhohlaaGreat

namespace Go.Proofs.YtikchpffkhohlaaGreat

open Go.RowKit
set_option linter.unusedVariables false

theorem own_isl {w : World} {base : Nat} {v : Value} {l : List Int} (h : w.ownsRow base 3 1 v l.length (l.map (Value.int .i64))) (hr : l.length * 8 ≤ 140737488351232) : IntSl w w.heap.size v l.length (fun j => l.getD j 0) := by
  obtain ⟨hl, h2⟩ := h
  rcases h2 with ⟨e1, h0⟩ | ⟨g, cp, cur, e1, _, hh, hc, _, hsz, hcur⟩
  · rw [e1, h0]; exact ⟨none, 0, rfl, ⟨Nat.le_refl _, by omega⟩, Or.inl rfl⟩
  · refine ⟨_, cp, e1, ⟨hc, hr⟩, Or.inr ⟨g, 0, rfl, (Array.getElem?_eq_some_iff.1 hh).1, fun j hj => ?_⟩⟩
    have h3 : (l.map (Value.int .i64))[j]? = some (.int .i64 (l.getD j 0)) := by simp [List.getD_eq_getElem?_getD, hj]
    rw [← hcur, List.getElem?_take, if_pos (by omega)] at h3
    rw [Nat.zero_add]
    exact cell_at hh (by simpa using h3)

theorem sort_row {base : Nat} {wr : World} {v : Value} {l : List Int} (h : wr.ownsRow base 3 1 v l.length (l.map (Value.int .i64))) (hk : l.length ≤ 1000) :
    Calls Tryz.prog 36 #[v] wr fun e w' => e = .returned (.tuple #[]) ∧ w'.ownsRow base 3 1 v (srt l).length ((srt l).map (Value.int .i64)) ∧ wr.grownBy w' v.ownBlock := by
  obtain ⟨hl, h2⟩ := h
  rcases h2 with ⟨rfl, h0⟩ | ⟨g, cap, cur, rfl, hg, hh, hc1, hc2, hsz, hcur⟩
  · have hl0 : l = [] := List.length_eq_zero_iff.1 h0
    subst hl0
    refine (Tryz.slices_Sort_int_none none 0 wr).mono ?_
    rintro e w' ⟨rfl, hw⟩
    subst hw
    have e0 : srt [] = [] := by simp [srt]
    rw [e0]
    exact ⟨rfl, World.ownsRow_nil _ _ _ _, rfl, rfl, rfl, Nat.le_refl _, fun _ _ _ => rfl⟩
  · rw [Nat.mul_one] at hcur
    refine (Tryz.slices_Sort_int g 0 cap l wr (holds_of_blockI hh hcur) (Array.getElem?_eq_some_iff.1 hh).1 (by omega)).mono ?_
    rintro e w' ⟨rfl, n, os, rfl⟩
    have ho := ownsRow_sortedI (n := n) (os := os) (ss := l) (ts := srt l) (srt_len l) hg hh hc1 hc2 hsz
    refine ⟨rfl, ?_, grownBy_sortedI _⟩
    rw [srt_len]
    exact ho

end Go.Proofs.YtikchpffkhohlaaGreat

namespace Go.Proofs.YtikchpffkhohlaaGreat

open Go.RowKit CurveMath
set_option linter.unusedVariables false

section

variable {w3 wr w' : World} {g c base R : Nat} {O : Nat → Nat} {VV : Nat → Value} {XX : Nat → Nat → Int} {vw : Value} {lw : List Int}

end

section

variable {w0 wr w1 : World} {x y : Int} {vs v1 : Value} {l : List Int} {o : Obj}

end

end Go.Proofs.YtikchpffkhohlaaGreat

namespace Go.Proofs.YtikchpffkhohlaaGreat

open Go.RowKit CurveMath
set_option linter.unusedVariables false

def cmpL : List Nat → List Nat → Int
  | a :: l, b :: m => if a < b then -1 else if b < a then 1 else cmpL l m
  | _, _ => 0

theorem cmpL_self (l : List Nat) : cmpL l l = 0 := by
  induction l with
  | nil => rfl
  | cons a l ih => simp only [cmpL]; rw [if_neg (by omega), if_neg (by omega)]; exact ih

theorem cmpL_zero : ∀ (l m : List Nat), l.length = m.length → cmpL l m = 0 → l = m
  | [], [], _, _ => rfl
  | [], _ :: _, h, _ => by simp at h
  | _ :: _, [], h, _ => by simp at h
  | a :: l, b :: m, h, h0 => by
    simp only [cmpL] at h0
    by_cases h1 : a < b
    · rw [if_pos h1] at h0; omega
    · rw [if_neg h1] at h0
      by_cases h2 : b < a
      · rw [if_pos h2] at h0; omega
      · rw [if_neg h2] at h0
        rw [show a = b by omega, cmpL_zero l m (by simpa using h) h0]

theorem cmpL_swap : ∀ (l m : List Nat), l.length = m.length → cmpL m l = - cmpL l m
  | [], [], _ => rfl
  | [], _ :: _, h => by simp at h
  | _ :: _, [], h => by simp at h
  | a :: l, b :: m, h => by
    simp only [cmpL]
    by_cases h1 : a < b
    · rw [if_pos h1, if_neg (by omega), if_pos h1]; omega
    · by_cases h2 : b < a
      · rw [if_pos h2, if_neg h1, if_pos h2]
      · rw [if_neg h2, if_neg h1, if_neg h1, if_neg h2]; exact cmpL_swap l m (by simpa using h)

theorem cmpL_trans : ∀ (l m k : List Nat), l.length = m.length → m.length = k.length → cmpL l m < 0 → cmpL m k < 0 → cmpL l k < 0
  | [], [], _, _, _, h, _ => by simp [cmpL] at h
  | [], _ :: _, _, h, _, _, _ => by simp at h
  | _ :: _, [], _, h, _, _, _ => by simp at h
  | _ :: _, _ :: _, [], _, h, _, _ => by simp at h
  | a :: l, b :: m, c :: k, h, h', g1, g2 => by
    simp only [cmpL] at *
    by_cases e1 : a < b
    · by_cases e2 : b < c
      · rw [if_pos (by omega)]; omega
      · rw [if_neg e2] at g2
        by_cases e3 : c < b
        · rw [if_pos e3] at g2; omega
        · rw [if_pos (by omega)]; omega
    · rw [if_neg e1] at g1
      by_cases e4 : b < a
      · rw [if_pos e4] at g1; omega
      · rw [if_neg e4] at g1
        have eab : a = b := by omega
        subst eab
        by_cases e2 : a < c
        · rw [if_pos e2]; omega
        · rw [if_neg e2] at g2 ⊢
          by_cases e3 : c < a
          · rw [if_pos e3] at g2; omega
          · rw [if_neg e3] at g2 ⊢
            exact cmpL_trans l m k (by simpa using h) (by simpa using h') g1 g2

theorem comb_sorted (m : Nat) : ∀ (k i : Nat), (comb k (List.range' i m)).Pairwise (fun a b => cmpL a b < 0) := by
  induction m with
  | zero => intro k i; cases k <;> simp [comb]
  | succ m ih =>
    intro k i
    cases k with
    | zero => simp [comb]
    | succ k =>
      rw [List.range'_succ, comb, List.pairwise_append]
      refine ⟨?_, ih (k + 1) (i + 1), fun a ha b hb => ?_⟩
      · rw [List.pairwise_map]
        refine (ih k (i + 1)).imp fun h => ?_
        simp only [cmpL]
        rw [if_neg (by omega), if_neg (by omega)]
        exact h
      · obtain ⟨t, _, rfl⟩ := List.mem_map.1 ha
        obtain ⟨h1, h2, h3⟩ := comb_rise m (k + 1) (i + 1) b hb
        cases b with
        | nil => simp at h3
        | cons c b =>
          have := h2 c List.mem_cons_self
          simp only [cmpL]
          rw [if_pos (by omega)]
          decide

def bitsL (n s : Nat) : List Nat := (List.range n).filter fun i => s.testBit i

theorem bitsL_succ (n s : Nat) : bitsL (n + 1) s = bitsL n s ++ (if s.testBit n = true then [n] else []) := by
  unfold bitsL
  rw [List.range_succ, List.filter_append]
  cases h : s.testBit n <;> simp [h]

theorem bitsL_len (n s : Nat) : (bitsL n s).length ≤ n := by
  unfold bitsL
  refine Nat.le_trans (List.length_filter_le _ _) ?_
  simp

theorem bitsL_rise (n s : Nat) : Rise n (bitsL n s) :=
  ⟨List.Pairwise.filter _ List.pairwise_lt_range, fun x hx => List.mem_range.1 (List.mem_filter.1 hx).1⟩

theorem bitsL_inj {n s t : Nat} (hs : s < 2 ^ n) (ht : t < 2 ^ n) (h : bitsL n s = bitsL n t) : s = t := by
  refine Nat.eq_of_testBit_eq fun i => ?_
  by_cases hi : i < n
  · have h1 : i ∈ bitsL n s ↔ i ∈ bitsL n t := by rw [h]
    unfold bitsL at h1
    rw [List.mem_filter, List.mem_filter] at h1
    have h2 := List.mem_range.2 hi
    rw [Bool.eq_iff_iff]
    exact ⟨fun g => (h1.1 ⟨h2, g⟩).2, fun g => (h1.2 ⟨h2, g⟩).2⟩
  · rw [Nat.testBit_lt_two_pow (Nat.lt_of_lt_of_le hs (Nat.pow_le_pow_right (by decide) (by omega))), Nat.testBit_lt_two_pow (Nat.lt_of_lt_of_le ht (Nat.pow_le_pow_right (by decide) (by omega)))]

theorem bits_make (p : Nat → Bool) : ∀ n, ∃ s, s < 2 ^ n ∧ ∀ i, i < n → s.testBit i = p i := by
  intro n
  induction n with
  | zero => exact ⟨0, by decide, fun i hi => by omega⟩
  | succ n ih =>
    obtain ⟨s, hs, hb⟩ := ih
    cases hp : p n with
    | false =>
      refine ⟨s, by rw [Nat.pow_succ]; omega, fun i hi => ?_⟩
      by_cases e : i = n
      · subst e; rw [hp]; exact Nat.testBit_lt_two_pow hs
      · exact hb i (by omega)
    | true =>
      refine ⟨2 ^ n + s, by rw [Nat.pow_succ]; omega, fun i hi => ?_⟩
      by_cases e : i = n
      · subst e
        rw [Nat.testBit_two_pow_add_eq, Nat.testBit_lt_two_pow hs, hp]
        rfl
      · rw [Nat.testBit_two_pow_add_gt (by omega)]
        exact hb i (by omega)

def setsL (d n k : Nat) : List (List Nat) := ((List.range k).map (bitsL n)).filter fun c => c.length == d

theorem setsL_succ (d n k : Nat) : setsL d n (k + 1) = setsL d n k ++ (if (bitsL n k).length = d then [bitsL n k] else []) := by
  unfold setsL
  rw [List.range_succ, List.map_append, List.filter_append]
  by_cases h : (bitsL n k).length = d <;> simp [h]

theorem setsL_good {d n k : Nat} {c : List Nat} (h : c ∈ setsL d n k) : Rise n c ∧ c.length = d := by
  unfold setsL at h
  obtain ⟨h1, h2⟩ := List.mem_filter.1 h
  obtain ⟨s, _, rfl⟩ := List.mem_map.1 h1
  exact ⟨bitsL_rise n s, by simpa using h2⟩

theorem setsL_perm (d n : Nat) : (setsL d n (2 ^ n)).Perm (comb d (List.range n)) := by
  have h1 : (setsL d n (2 ^ n)).Nodup := by
    unfold setsL
    rw [List.nodup_iff_pairwise_ne]
    refine List.Pairwise.filter _ ?_
    rw [List.pairwise_map]
    refine List.Pairwise.imp_of_mem ?_ List.pairwise_lt_range
    intro a b ha hb hlt e
    have := bitsL_inj (List.mem_range.1 ha) (List.mem_range.1 hb) e
    omega
  have h2 : (comb d (List.range n)).Nodup := by
    rw [List.range_eq_range', List.nodup_iff_pairwise_ne]
    refine (comb_sorted n d 0).imp fun h e => ?_
    rw [e, cmpL_self] at h
    omega
  refine (List.perm_ext_iff_of_nodup h1 h2).2 fun c => ⟨fun h => ?_, fun h => ?_⟩
  · obtain ⟨g1, g2⟩ := setsL_good h
    exact good_comb g1 g2
  · obtain ⟨g1, g2⟩ := comb_good h
    obtain ⟨s, hs, hb⟩ := bits_make (fun i => decide (i ∈ c)) n
    unfold setsL
    refine List.mem_filter.2 ⟨List.mem_map.2 ⟨s, List.mem_range.2 hs, ?_⟩, by simpa using g2⟩
    have hp : (bitsL n s).Perm c := by
      refine (List.perm_ext_iff_of_nodup ((bitsL_rise n s).1.imp (fun h => by omega)) (g1.1.imp (fun h => by omega))).2 fun x => ?_
      unfold bitsL
      rw [List.mem_filter, List.mem_range]
      constructor
      · rintro ⟨h1, h2⟩
        rw [hb x h1] at h2
        exact of_decide_eq_true h2
      · intro hx
        have := g1.2 x hx
        exact ⟨this, by rw [hb x this]; exact decide_eq_true hx⟩
    exact hp.eq_of_pairwise (le := (· < ·)) (fun a b _ _ h1 h2 => by omega) (bitsL_rise n s).1 g1.1

theorem sorted_comb {d n : Nat} {l : List (List Nat)} (hp : l.Perm (setsL d n (2 ^ n))) (hs : l.Pairwise (fun a b => cmpL a b ≤ 0)) : l = comb d (List.range n) := by
  have hp2 := hp.trans (setsL_perm d n)
  have hlen : ∀ c, c ∈ comb d (List.range n) → c.length = d := fun c hc => (comb_good hc).2
  refine hp2.eq_of_pairwise (le := fun a b => cmpL a b ≤ 0) (fun a b ha hb h1 h2 => ?_) hs ?_
  · have la := hlen a (hp2.mem_iff.1 ha)
    have lb' := hlen b hb
    have h3 := cmpL_swap a b (by omega)
    exact cmpL_zero a b (by omega) (by omega)
  · rw [List.range_eq_range']
    exact (comb_sorted n d 0).imp fun h => by omega

end Go.Proofs.YtikchpffkhohlaaGreat

namespace Go.Proofs.YtikchpffkhohlaaGreat

open Go.RowKit CurveMath
set_option linter.unusedVariables false

def cmpF (X Y : Nat → Int) : Nat → Nat → Int
  | 0, _ => 0
  | k + 1, i => if X i < Y i then -1 else if Y i < X i then 1 else cmpF X Y k (i + 1)

theorem cmpF_list {a b : List Nat} {n : Nat} (ha : a.length = n) (hb : b.length = n) : ∀ k i, i + k = n → cmpF (fun i => (a.getD i 0 : Int)) (fun i => (b.getD i 0 : Int)) k i = cmpL (a.drop i) (b.drop i) := by
  intro k
  induction k with
  | zero =>
    intro i hi
    rw [List.drop_eq_nil_of_le (by omega), List.drop_eq_nil_of_le (by omega)]
    rfl
  | succ k ih =>
    intro i hi
    have h1 : a.drop i = a.getD i 0 :: a.drop (i + 1) := by
      rw [List.drop_eq_getElem_cons (by omega : i < a.length)]
      simp [List.getD_eq_getElem?_getD, show i < a.length by omega]
    have h2 : b.drop i = b.getD i 0 :: b.drop (i + 1) := by
      rw [List.drop_eq_getElem_cons (by omega : i < b.length)]
      simp [List.getD_eq_getElem?_getD, show i < b.length by omega]
    rw [h1, h2]
    simp only [cmpF, cmpL]
    rw [ih (i + 1) (by omega)]
    by_cases g1 : a.getD i 0 < b.getD i 0
    · rw [if_pos g1, if_pos (by omega)]
    · rw [if_neg g1, if_neg (by omega)]
      by_cases g2 : b.getD i 0 < a.getD i 0
      · rw [if_pos g2, if_pos (by omega)]
      · rw [if_neg g2, if_neg (by omega)]

theorem compareInt_cases (x y : Int) : (x < y ∧ Lib.compareInt x y = -1) ∨ (y < x ∧ Lib.compareInt x y = 1) ∨ (¬ x < y ∧ ¬ y < x ∧ Lib.compareInt x y = 0) := by
  unfold Lib.compareInt
  by_cases h1 : x < y
  · exact Or.inl ⟨h1, by simp [h1]⟩
  · by_cases h2 : y < x
    · exact Or.inr (Or.inl ⟨h2, by simp [h1, h2]⟩)
    · exact Or.inr (Or.inr ⟨h1, h2, by simp [h1, h2]⟩)

set_option maxHeartbeats 1000000 in
theorem compare_isl {W : World} {B : Nat} {v1 v2 : Value} {n : Nat} {X Y : Nat → Int} (h1 : IntSl W B v1 n X) (h2 : IntSl W B v2 n Y) :
    Calls Tryz.prog 93 #[v1, v2] W fun e w' => e = .returned (.int .i64 (cmpF X Y n 0)) ∧ w' = W := by
  obtain ⟨a1, c1, rfl, ⟨hc1, hr1⟩, hx⟩ := h1
  obtain ⟨a2, c2, rfl, ⟨hc2, hr2⟩, hy⟩ := h2
  obtain ⟨ans, hans⟩ : ∃ ans, cmpF X Y n 0 = ans := ⟨_, rfl⟩
  rw [hans]
  have HA := hid hans
  have HX := hid hx
  have HY := hid hy
  clear hans hx hy
  go_enter Tryz.func93, Tryz.ntmps93
  go_wp2
  go_loopw [11] (fun iv wr => ∃ i : Nat, i ≤ n ∧ iv = .int .i64 i ∧ wr = W ∧ Hid (cmpF X Y (n - i) i = ans)) (fun iv _ => n - (intOf iv).toNat)
  case atStart => exact ⟨0, Nat.zero_le _, rfl, rfl, HA⟩
  case round =>
    obtain ⟨i, hi, rfl, hwr, HC⟩ := hrel
    subst hwr
    by_cases hlt : i < n
    · have hii : (i : Int) < (n : Int) := by omega
      rcases HX.out with h0 | ⟨b1, o1, rfl, _, hx⟩
      · omega
      rcases HY.out with h0 | ⟨b2, o2, rfl, _, hy⟩
      · omega
      have g1 := hx i hlt
      have g2 := hy i hlt
      have hstep := HC.out
      rw [show n - i = (n - (i + 1)) + 1 by omega] at hstep
      simp only [cmpF] at hstep
      obtain ⟨x, hxx⟩ : ∃ x, X i = x := ⟨_, rfl⟩
      obtain ⟨y, hyy⟩ : ∃ y, Y i = y := ⟨_, rfl⟩
      rw [hxx] at g1 hstep
      rw [hyy] at g2 hstep
      clear hx hy hxx hyy
      rcases compareInt_cases x y with ⟨e1, e2⟩ | ⟨e1, e2⟩ | ⟨e0, e1, e2⟩
      · rw [if_pos e1] at hstep
        have HSt := hid hstep
        have HE := hid e2
        clear hstep e2
        go_wp2_with (go_at_call 133; go_must (refine (Tryz.cmp_Compare_int _ _ _).mono ?_; rintro e wq ⟨rfl, hwq⟩; subst wq; rw [HE.out]))
        go_ret
        exact ⟨by rw [← HSt.out]; rfl, rfl⟩
      · rw [if_neg (by omega), if_pos e1] at hstep
        have HSt := hid hstep
        have HE := hid e2
        clear hstep e2
        go_wp2_with (go_at_call 133; go_must (refine (Tryz.cmp_Compare_int _ _ _).mono ?_; rintro e wq ⟨rfl, hwq⟩; subst wq; rw [HE.out]))
        go_ret
        exact ⟨by rw [← HSt.out]; rfl, rfl⟩
      · rw [if_neg e0, if_neg e1] at hstep
        have HSt := hid hstep
        have HE := hid e2
        clear hstep e2
        go_wp2_with (go_at_call 133; go_must (refine (Tryz.cmp_Compare_int _ _ _).mono ?_; rintro e wq ⟨rfl, hwq⟩; subst wq; rw [HE.out]))
        go_roundw
        case rel => exact ⟨i + 1, by omega, by go_num, trivial, HSt⟩
        case measure => simp only [intOf]; omega
    · have hie : n = i := by omega
      subst hie
      have hf := HC.out
      rw [Nat.sub_self] at hf
      have HF : Hid ((0 : Int) = ans) := hf
      clear hf
      go_wp2
      go_ret
      exact ⟨by rw [← HF.out]; rfl, rfl⟩

end Go.Proofs.YtikchpffkhohlaaGreat

namespace Go.Proofs.YtikchpffkhohlaaGreat

open Go.RowKit CurveMath Go.Sort
set_option linter.unusedVariables false

theorem Tryz.infoInts : (Tryz.prog.info? 28).map (fun i => (i.zero, i.size, i.bytes)) = some (some (.slice none 0 0), 1, 24) := by kernel_rfl

def plI (c : List Nat) : Nat → Int := fun i => ((c.getD i 0 : Nat) : Int)

structure PInv (w1 wr : World) (d : Nat) (vp : Value) (ps : List (List Nat)) (pv : Nat → Value) : Prop where
  below : Below w1.heap.size w1 wr
  own : wr.ownsRow w1.heap.size 28 1 vp ps.length ((List.range ps.length).map pv)
  l : ∀ j, j < ps.length → IntSl wr wr.heap.size (pv j) d (plI (ps.getD j [])) ∧ Off vp (pv j)

theorem PInv.nil (w1 : World) (d : Nat) (pv : Nat → Value) : PInv w1 w1 d (.slice none 0 0) [] pv := ⟨Below.refl _ _, World.ownsRow_nil _ _ _ _, fun j hj => by simp at hj⟩

theorem PInv.up {w1 wr w' : World} {d : Nat} {vp : Value} {ps : List (List Nat)} {pv : Nat → Value} (h : PInv w1 wr d vp ps pv) (hb : Below wr.heap.size wr w') : PInv w1 w' d vp ps pv :=
  ⟨h.below.trans (hb.mono h.below.size), owns_below h.own hb, fun j hj => ⟨(h.l j hj).1.up hb, (h.l j hj).2⟩⟩

theorem PInv.push {w1 w0 wr w2 : World} {d : Nat} {vp va v' : Value} {ps : List (List Nat)} {pv : Nat → Value} {c : List Nat} {o : Obj} (h : PInv w1 w0 d vp ps pv) (hd : 1 ≤ d ∧ d ≤ 8) (hc : c.length = d) (ha : OwnL w0 wr va (c.map fun (x : Nat) => (x : Int)))
    (hg : (wr.alloc o).grownBy w2 vp.ownBlock) (ho : w2.ownsRow w1.heap.size 28 1 v' (ps.length + 1) ((List.range ps.length).map pv ++ [va])) (hat : v'.ownBlock = vp.ownBlock ∨ v'.ownBlock = some (wr.alloc o).heap.size) :
    PInv w1 w2 d v' (ps ++ [c]) (fun j => if j = ps.length then va else pv j) := by
  have hr := h.up ha.2
  have hbA : Below w1.heap.size w1 (wr.alloc o) := hr.below.alloc hr.below.size o
  have hia : IntSl wr wr.heap.size va d (plI c) := by
    have h1 := ha.isl (by simp; omega)
    rw [List.length_map, hc] at h1
    exact h1.congr fun j hj => by unfold plI; simp [List.getD_eq_getElem?_getD, show j < c.length by omega]
  have hoa : Off vp va := fun ad nn cc e e2 => by
    have h1 := (ha.1.lt ad.block (by rw [e]; rfl)).1
    have h2 := (h.own.lt ad.block e2.symm).2
    omega
  refine ⟨hbA.grown hg hbA.size (fun k hk => (h.own.lt k hk).1), ?_, fun j hj => ?_⟩
  · rw [List.length_append, List.length_singleton, List.range_succ, List.map_append]
    have e : (List.range ps.length).map (fun j => if j = ps.length then va else pv j) = (List.range ps.length).map pv := List.map_congr_left fun j hj => by rw [if_neg (by have := List.mem_range.1 hj; omega)]
    rw [e]
    simp only [List.map_cons, List.map_nil, if_true]
    exact ho
  · rw [List.length_append, List.length_singleton] at hj
    by_cases e : j = ps.length
    · subst e
      have e2 : (ps ++ [c]).getD ps.length [] = c := by simp
      rw [if_pos rfl, e2]
      exact off_step hd.1 hia hoa hg hat
    · have e2 : (ps ++ [c]).getD j [] = ps.getD j [] := by simp [List.getD_eq_getElem?_getD, List.getElem?_append_left (show j < ps.length by omega)]
      rw [if_neg e, e2]
      exact off_step hd.1 (hr.l j (by omega)).1 (hr.l j (by omega)).2 hg hat

theorem fin_map (ps : List (List Nat)) : (List.finRange ps.length).map (fun i => ps.getD i.val []) = ps := by
  apply List.ext_getElem (by simp)
  intro j h1 h2
  simp [List.getD_eq_getElem?_getD]

theorem IntSl.sorted {α : Type} [Inhabited α] {enc : α → Value} {w : World} {gp m : Nat} {dk : Array α} {os : Array Obj} {v : Value} {n : Nat} {X : Nat → Int} (h : IntSl w w.heap.size v n X) (ho : v.ownBlock ≠ some gp) : IntSl (sortWorld enc w gp 0 m dk os) w.heap.size v n X := by
  obtain ⟨ad, cap, rfl, h0, h2⟩ := h
  refine ⟨ad, cap, rfl, h0, ?_⟩
  rcases h2 with h2 | ⟨b, off, rfl, h4, h5⟩
  · exact Or.inl h2
  · refine Or.inr ⟨b, off, rfl, h4, fun j hj => ?_⟩
    have hne : b ≠ gp := fun e => ho (by rw [e]; rfl)
    unfold sortWorld
    rw [cell?_grow _ _ _ (by simp [putRow, mapBlock, Sort.ahead]; exact h4), cell?_putRow_other _ _ _ _ _ _ (Or.inl hne), cell?_ahead]
    exact h5 j hj

theorem sort_picks {w1 wr : World} {d : Nat} {vp : Value} {ps : List (List Nat)} {pv : Nat → Value} (h : PInv w1 wr d vp ps pv) (hd : 1 ≤ d) (hk : 1 ≤ ps.length) (hk2 : ps.length ≤ 1000) (hlen : ∀ c ∈ ps, c.length = d) (hnd : ps.Nodup) :
    Calls Tryz.prog 92 #[vp, .func (.func 93) #[] #[]] wr fun e w' => e = .returned (.tuple #[]) ∧ Below w1.heap.size w1 w' ∧ ∃ (l : List (List Nat)) (gp cap : Nat) (qv : Nat → Value), l.Perm ps ∧ l.Pairwise (fun a b => cmpL a b ≤ 0) ∧ vp = .slice (some ⟨gp, 0, none⟩) l.length cap ∧ l.length ≤ cap ∧
      ∀ j, j < l.length → w'.cell? ⟨gp, j, none⟩ = some (qv j) ∧ IntSl w' w'.heap.size (qv j) d (plI (l.getD j [])) := by
  obtain ⟨hl, h2⟩ := h.own
  rcases h2 with ⟨_, h0⟩ | ⟨gp, cap, cur, hvp, hg, hh, hc1, hc2, hsz, hcur⟩
  · omega
  rw [Nat.mul_one] at hcur
  obtain ⟨K, hK⟩ : ∃ K, ps.length = K := ⟨_, rfl⟩
  have hKp : 0 < K := by omega
  haveI : Inhabited (Fin ps.length) := ⟨⟨0, by omega⟩⟩
  have hgl : gp < wr.heap.size := (Array.getElem?_eq_some_iff.1 hh).1
  have hpl : ∀ x : Fin ps.length, (ps.getD x.val []).length = d := fun x => hlen _ (by simp [List.getD_eq_getElem?_getD])
  have hoff : ∀ x : Fin ps.length, (pv x.val).ownBlock ≠ some gp := fun x e => by
    obtain ⟨i1, i2⟩ := h.l x.val x.isLt
    obtain ⟨ad, cc, e1, _, _⟩ := i1
    rw [e1] at e
    cases ad with
    | none => cases e
    | some a =>
      injection e with e
      refine i2 a _ _ e1 ?_
      rw [hvp]
      show some a.block = some gp
      rw [e]
  have hget : ∀ j (hj : j < ps.length), (List.finRange ps.length).toArray[j]! = ⟨j, hj⟩ := fun j hj => by
    rw [getElem!_pos _ _ (by simpa using hj)]
    simp
  have hsize : (List.finRange ps.length).toArray.size = ps.length := by simp
  have hO : SWO (ltOf fun x y : Fin ps.length => cmpL (ps.getD x.val []) (ps.getD y.val [])) := by
    refine ⟨fun x => ?_, fun x y z h1 h2 => ?_, fun x y z h1 h2 => ?_⟩
    · refine decide_eq_false ?_
      show ¬ cmpL (ps.getD x.val []) (ps.getD x.val []) < 0
      rw [cmpL_self]; omega
    · exact decide_eq_true (cmpL_trans _ _ _ (by rw [hpl, hpl]) (by rw [hpl, hpl]) (of_decide_eq_true h1) (of_decide_eq_true h2))
    · refine decide_eq_false fun h3 => ?_
      replace h3 : cmpL (ps.getD x.val []) (ps.getD z.val []) < 0 := h3
      have g1 : ¬ cmpL (ps.getD x.val []) (ps.getD y.val []) < 0 := of_decide_eq_false h1
      have g2 : ¬ cmpL (ps.getD y.val []) (ps.getD z.val []) < 0 := of_decide_eq_false h2
      have s1 := cmpL_swap (ps.getD x.val []) (ps.getD y.val []) (by rw [hpl, hpl])
      by_cases e : cmpL (ps.getD x.val []) (ps.getD y.val []) = 0
      · rw [cmpL_zero _ _ (by rw [hpl, hpl]) e] at h3
        exact g2 h3
      · exact g2 (cmpL_trans _ _ _ (by rw [hpl, hpl]) (by rw [hpl, hpl]) (by omega) h3)
  have hT : ∀ x y : Fin ps.length, ltOf (fun x y : Fin ps.length => cmpL (ps.getD x.val []) (ps.getD y.val [])) x y = false → ltOf (fun x y : Fin ps.length => cmpL (ps.getD x.val []) (ps.getD y.val [])) y x = false → x = y := fun x y h1 h2 => by
    have g1 : ¬ cmpL (ps.getD x.val []) (ps.getD y.val []) < 0 := of_decide_eq_false h1
    have g2 : ¬ cmpL (ps.getD y.val []) (ps.getD x.val []) < 0 := of_decide_eq_false h2
    have s1 := cmpL_swap (ps.getD x.val []) (ps.getD y.val []) (by rw [hpl, hpl])
    have e := cmpL_zero (ps.getD x.val []) (ps.getD y.val []) (by rw [hpl, hpl]) (by omega)
    have e2 : ps[x.val]? = ps[y.val]? := by
      rw [List.getElem?_eq_getElem x.isLt, List.getElem?_eq_getElem y.isLt]
      simpa [List.getD_eq_getElem?_getD] using e
    exact Fin.ext ((List.getElem?_inj x.isLt hnd).1 e2)
  have hcmp : CmpReads Tryz.prog 93 #[] (fun x : Fin ps.length => pv x.val) (fun x y => cmpL (ps.getD x.val []) (ps.getD y.val [])) gp 0 (List.finRange ps.length).toArray.size wr := fun m os dk hs x y => by
    refine (compare_isl ((h.l x.val x.isLt).1.sorted (hoff x)) ((h.l y.val y.isLt).1.sorted (hoff y))).mono ?_
    rintro e w' ⟨he, hw⟩
    refine ⟨?_, 0, by rw [hw]; rfl⟩
    rw [he]
    have h7 := cmpF_list (hpl x) (hpl y) d 0 (by omega)
    rw [List.drop_zero, List.drop_zero] at h7
    show Ending.returned (Value.int .i64 (cmpF (plI (ps.getD x.val [])) (plI (ps.getD y.val [])) d 0)) = Ending.returned (Value.int .i64 (cmpL (ps.getD x.val []) (ps.getD y.val [])))
    rw [← h7]
    rfl
  have hH : Holds (fun x : Fin ps.length => pv x.val) wr gp 0 (List.finRange ps.length).toArray := fun j hj => by
    rw [hsize] at hj
    refine ⟨?_, frozen_at hh⟩
    rw [hget j hj, Nat.zero_add]
    have h3 : ((List.range ps.length).map pv)[j]? = some (pv j) := by simp [hj]
    rw [← hcur, List.getElem?_take, if_pos hj] at h3
    exact cell_at hh (by simpa using h3)
  have hcon := Any.slices_SortFunc_total Tryz.sortLists (fun x : Fin ps.length => pv x.val) (fun x => slice_one (h.l x.val x.isLt).1) (fun x y => cmpL (ps.getD x.val []) (ps.getD y.val [])) hO 93 #[] gp 0 cap (List.finRange ps.length).toArray wr (enters_of Tryz.func93 (by kernel_rfl) rfl) hcmp.lays hH hgl (by rw [hsize]; omega) hT
  rw [hsize] at hcon
  rw [hvp]
  refine hcon.mono ?_
  rintro e w' ⟨he, q, os, hw⟩
  obtain ⟨τ, hτ⟩ : ∃ τ, ((List.finRange ps.length).toArray.toList.mergeSort fun x y => !(ltOf fun x y : Fin ps.length => cmpL (ps.getD x.val []) (ps.getD y.val [])) y x) = τ := ⟨_, rfl⟩
  rw [hτ] at hw
  have hτp : τ.Perm (List.finRange ps.length) := by rw [← hτ]; simpa using List.mergeSort_perm (List.finRange ps.length) _
  have hτs : τ.Pairwise fun x y => (!(ltOf fun x y : Fin ps.length => cmpL (ps.getD x.val []) (ps.getD y.val [])) y x) = true := by
    rw [← hτ]
    refine List.pairwise_mergeSort (fun a b c h1 h2 => ?_) (fun a b => ?_) _
    · rw [Bool.not_eq_true'] at *
      exact hO.ntrans c b a h2 h1
    · rw [Bool.or_eq_true, Bool.not_eq_true', Bool.not_eq_true']
      cases e1 : (ltOf fun x y : Fin ps.length => cmpL (ps.getD x.val []) (ps.getD y.val [])) b a with
      | false => exact Or.inl rfl
      | true =>
        refine Or.inr ?_
        cases e2 : (ltOf fun x y : Fin ps.length => cmpL (ps.getD x.val []) (ps.getD y.val [])) a b with
        | false => rfl
        | true => have := hO.trans _ _ _ e1 e2; rw [hO.irrefl] at this; cases this
  have hτl : τ.length = ps.length := by rw [hτp.length_eq]; simp
  refine ⟨he, ?_, τ.map (fun i => ps.getD i.val []), gp, cap, fun j => pv (τ.toArray[j]!).val, ?_, ?_, by rw [List.length_map, hτl], by rw [List.length_map, hτl]; exact hc1, fun j hj => ?_⟩
  · rw [hw]
    refine h.below.trans ⟨rfl, rfl, rfl, by simp [sortWorld, putRow, mapBlock, Sort.ahead], fun k hk => ?_⟩
    have hne : gp ≠ k := by omega
    have hkl : k < wr.heap.size := Nat.lt_of_lt_of_le hk h.below.size
    unfold sortWorld
    rw [heap_grow_old _ _ (by simpa [putRow, mapBlock, Sort.ahead] using hkl)]
    simp [putRow, mapBlock, Sort.ahead, Array.getElem?_modify, hne]
  · have := hτp.map (fun i => ps.getD i.val [])
    rw [fin_map] at this
    exact this
  · rw [List.pairwise_map]
    refine hτs.imp fun {a b} h1 => ?_
    have g : ¬ cmpL (ps.getD b.val []) (ps.getD a.val []) < 0 := of_decide_eq_false (by simpa using h1 : (ltOf fun x y : Fin ps.length => cmpL (ps.getD x.val []) (ps.getD y.val [])) b a = false)
    have s1 := cmpL_swap (ps.getD a.val []) (ps.getD b.val []) (by rw [hpl, hpl])
    omega
  · rw [List.length_map] at hj
    have hsz2 : w'.heap.size = wr.heap.size + os.size := by rw [hw]; simp [sortWorld, putRow, mapBlock, Sort.ahead, grow]
    have hHA : Holds (fun x : Fin ps.length => pv x.val) (Sort.ahead wr q) gp 0 (List.finRange ps.length).toArray := hH
    refine ⟨?_, ?_⟩
    · rw [hw]
      unfold sortWorld
      rw [cell?_grow _ _ _ (by simpa [putRow, mapBlock, Sort.ahead] using hgl)]
      have := cell?_putRow (fun x : Fin ps.length => pv x.val) (Sort.ahead wr q) gp 0 _ τ.toArray hHA (by simp [hτl]) j (by simpa using hj)
      rw [Nat.zero_add] at this
      exact this
    · have e : (τ.map (fun i => ps.getD i.val [])).getD j [] = ps.getD (τ.toArray[j]!).val [] := by
        rw [getElem!_pos _ _ (by simpa using hj)]
        simp [List.getD_eq_getElem?_getD, hj]
      rw [e]
      have h9 := (h.l (τ.toArray[j]!).val (τ.toArray[j]!).isLt).1.sorted (enc := fun x : Fin ps.length => pv x.val) (m := q) (dk := τ.toArray) (os := os) (hoff (τ.toArray[j]!))
      rw [← hw] at h9
      exact h9.mono (by omega)

end Go.Proofs.YtikchpffkhohlaaGreat
