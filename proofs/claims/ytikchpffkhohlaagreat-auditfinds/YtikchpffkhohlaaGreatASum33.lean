/- Several texts of one proof, in their order. -/
import Derived.Test.YtikchpffkhohlaaGreatASum23
import Derived.Test.YtikchpffkhohlaaGreatASum32
import Derived.Test.YtikchpffkhohlaaGreatASum20

namespace Go.Proofs.YtikchpffkhohlaaGreat

open Go.RowKit CurveMath
set_option linter.unusedVariables false

theorem set_oneA {w : World} {g : Nat} {v0 : Value} {T : TypeId} (h : w.heap[g]? = some (.cells #[v0] T (0, 0))) (u : Value) : (w.setCell ⟨g, 0, none⟩ u).heap[g]? = some (.cells #[u] T (0, 0)) := by
  simp [World.setCell, Array.getElem?_modify, h]

theorem own_shapeA {w : World} {base : Nat} {e : TypeId} {v : Value} {n : Nat} {xs : List Value} (h : w.ownsRow base e 1 v n xs) : ∃ a c, v = .slice a n c := by
  obtain ⟨_, h2⟩ := h
  rcases h2 with ⟨h1, h0⟩ | ⟨g, cap, cur, h1, _⟩
  · exact ⟨none, 0, by rw [h0]; exact h1⟩
  · exact ⟨_, _, h1⟩

structure BlI (B : Nat) (w0 : World) (ga gw base : Nat) (vs : Value) (P : Ps) (ver : Int) (R : Nat) (S : Nat → Nat → Int) (k : Nat) (wr : World) : Prop where
  below : Below B w0 wr
  ord : B ≤ ga ∧ ga < gw ∧ gw < base ∧ base ≤ wr.heap.size
  all : wr.heap[ga]? = some (.cells #[vs] 71 (0, 0))
  who : ∃ vw, wr.heap[gw]? = some (.cells #[vw] 28 (0, 0)) ∧ wr.ownsRow base 3 1 vw (pickL (blB P ver R S) k).length ((pickL (blB P ver R S) k).map (Value.int .i64))

section

variable {B : Nat} {w0 : World} {ga gw base : Nat} {vs : Value} {P : Ps} {ver : Int} {R : Nat} {S : Nat → Nat → Int} {k : Nat} {wr w' : World}

theorem BlI.up (h : BlI B w0 ga gw base vs P ver R S k wr) (hb : Below wr.heap.size wr w') : BlI B w0 ga gw base vs P ver R S k w' := by
  obtain ⟨o1, o2, o3, o4⟩ := h.ord
  obtain ⟨vw, h1, h2⟩ := h.who
  exact ⟨h.below.trans (hb.mono (by omega)), ⟨o1, o2, o3, Nat.le_trans o4 hb.size⟩, stayB h.all hb, vw, stayB h1 hb, owns_below h2 hb⟩

theorem BlI.skip (h : BlI B w0 ga gw base vs P ver R S k wr) (hn : blB P ver R S k = false) : BlI B w0 ga gw base vs P ver R S (k + 1) wr := by
  refine ⟨h.below, h.ord, h.all, ?_⟩
  rw [pickL_succ, hn, if_neg (by decide), List.append_nil]
  exact h.who

theorem BlI.push (h : BlI B w0 ga gw base vs P ver R S k wr) (hy : blB P ver R S k = true) {vw v9 : Value} {o : Obj} {w9 : World} (hw : wr.heap[gw]? = some (.cells #[vw] 28 (0, 0)))
    (ho : wr.ownsRow base 3 1 vw (pickL (blB P ver R S) k).length ((pickL (blB P ver R S) k).map (Value.int .i64))) (hg : (wr.alloc o).grownBy w9 vw.ownBlock)
    (ho9 : w9.ownsRow base 3 1 v9 ((pickL (blB P ver R S) k).length + 1) ((pickL (blB P ver R S) k).map (Value.int .i64) ++ [.int .i64 (k : Int)])) :
    BlI B w0 ga gw base vs P ver R S (k + 1) (w9.setCell ⟨gw, 0, none⟩ v9) ∧ w9.heap[gw]? = some (.cells #[vw] 28 (0, 0)) := by
  obtain ⟨o1, o2, o3, o4⟩ := h.ord
  have hba := below_alloc wr o
  have hB9 : Below base wr w9 := (hba.mono o4).grown hg (Nat.le_trans o4 hba.size) (fun k hk => (ho.lt k hk).1)
  have hw9 : w9.heap[gw]? = some (.cells #[vw] 28 (0, 0)) := by rw [hB9.block _ o3]; exact hw
  refine ⟨⟨(h.below.trans (hB9.mono (by omega))).setCell (p := ⟨gw, 0, none⟩) (by show B ≤ gw; omega) v9, ⟨o1, o2, o3, ?_⟩, ?_, v9, set_oneA hw9 v9, ?_⟩, hw9⟩
  · have hz : (w9.setCell ⟨gw, 0, none⟩ v9).heap.size = w9.heap.size := by simp [World.setCell]
    rw [hz]
    exact Nat.le_trans o4 hB9.size
  · rw [Below.heap_setCell _ _ _ _ (by show ga ≠ gw; omega), hB9.block _ (by omega)]
    exact h.all
  · rw [pickL_succ, hy, if_pos rfl, List.length_append, List.map_append]
    exact ownsRow_setCell_below ho9 (a := ⟨gw, 0, none⟩) o3 _

end

set_option maxHeartbeats 4000000 in
set_option maxRecDepth 10000 in
theorem auBlames (B : Nat) (w0 : World) (ga gw base cnt R : Nat) (ash : Option Addr) (csh : Nat) (SV : Nat → Value) (S : Nat → Nat → Int) (P : Ps) (ver : Int) (k : Nat) (uk : Value) (hS : ShSl w0 B (.slice ash cnt csh) cnt (fun j => (j : Int)) SV (fun _ => R) S) (hh : hasK P ver k = true)
    (hN : 0 ≤ numK P ver k ∧ numK P ver k < (cnt : Int)) (h8 : k < 1000) (hu : IntSl w0 B uk ((P.t k).L (atK P ver k)) ((P.t k).X (atK P ver k))) (wr : World) (hJ : BlI B w0 ga gw base (.slice ash cnt csh) P ver R S k wr) :
    Calls Tryz.prog 70 #[.int .i64 (k : Int), .agg #[.int .i64 (numK P ver k), uk], .pointer (some ⟨ga, 0, none⟩), .pointer (some ⟨gw, 0, none⟩)] wr fun e w' => e = .returned (.tuple #[]) ∧ BlI B w0 ga gw base (.slice ash cnt csh) P ver R S (k + 1) w' := by
  have hbl : ∀ sb, goodK P ver R S k = sb → blB P ver R S k = !sb := fun sb e => by unfold blB; rw [hh, e, Bool.true_and]
  obtain ⟨q, hq⟩ : ∃ q : Nat, numK P ver k = (q : Int) := ⟨(numK P ver k).toNat, by omega⟩
  have hgd : goodK P ver R S k = sameB (q : Int) (q : Int) ((P.t k).L (atK P ver k)) R ((P.t k).X (atK P ver k)) (S q) := by unfold goodK; rw [hq, Int.toNat_natCast]
  rw [hq] at hN ⊢
  have hqc : q < cnt := by omega
  have hqi : (q : Int) < (cnt : Int) := by omega
  have HGd := hid hgd
  have HBl : Hid (∀ sb, goodK P ver R S k = sb → blB P ver R S k = !sb) := hbl
  have HU := hid hu
  obtain ⟨au, cu, rfl, _, _⟩ := hu
  have hbA := below_alloc wr (.cells #[.int .i64 (q : Int), .slice au ((P.t k).L (atK P ver k)) cu] 53)
  have k9 := heap_alloc_new wr (.cells #[.int .i64 (q : Int), .slice au ((P.t k).L (atK P ver k)) cu] 53)
  obtain ⟨W, hW⟩ : ∃ u, wr.alloc (.cells #[.int .i64 (q : Int), .slice au ((P.t k).L (atK P ver k)) cu] 53) = u := ⟨_, rfl⟩
  rw [hW] at hbA k9
  have JA := hid (hJ.up hbA)
  obtain ⟨s0, s1⟩ := two_at k9
  have a0 : W.cell? ⟨ga, 0, none⟩ = some (.slice ash cnt csh) := cell_at JA.out.all rfl
  obtain ⟨_, _, he, _, hxs⟩ := hS
  injection he with e1 _ e3
  subst e1 e3
  rcases hxs with h9 | ⟨bs, os, rfl, hbs, hxs⟩
  · omega
  obtain ⟨x1, x2, x3⟩ := hxs q hqc
  have HIs := hid x3
  obtain ⟨av9, cv9, hve, _, _⟩ := x3
  rw [hve] at x2 HIs
  have t1 : W.cell? ⟨bs, os + q * 2, none⟩ = some (.int .i64 (q : Int)) := by rw [JA.out.below.cell hbs]; exact x1
  have t2 : W.cell? ⟨bs, os + q * 2 + 1, none⟩ = some (.slice av9 R cv9) := by rw [JA.out.below.cell hbs]; exact x2
  have hBW : B ≤ W.heap.size := by obtain ⟨_, _, _, _⟩ := JA.out.ord; omega
  have HBW := hid hBW
  have hne : Nonempty (Of (Below W.heap.size W)) := ⟨⟨W, Below.refl _ _⟩⟩
  have F0 : ∀ u : Of (Below W.heap.size W), u.val.cell? ⟨wr.heap.size, 0, none⟩ = some (.int .i64 (q : Int)) := fun u => by rw [u.is.cell (cell_lt s0)]; exact s0
  have F1 : ∀ u : Of (Below W.heap.size W), u.val.cell? ⟨wr.heap.size, 1, none⟩ = some (.slice au ((P.t k).L (atK P ver k)) cu) := fun u => by rw [u.is.cell (cell_lt s1)]; exact s1
  have F2 : ∀ u : Of (Below W.heap.size W), u.val.cell? ⟨bs, os + q * 2, none⟩ = some (.int .i64 (q : Int)) := fun u => by rw [u.is.cell (cell_lt t1)]; exact t1
  have F3 : ∀ u : Of (Below W.heap.size W), u.val.cell? ⟨bs, os + q * 2 + 1, none⟩ = some (.slice av9 R cv9) := fun u => by rw [u.is.cell (cell_lt t2)]; exact t2
  have F4 : ∀ u : Of (Below W.heap.size W), u.val.cell? ⟨ga, 0, none⟩ = some (.slice (some ⟨bs, os, none⟩) cnt csh) := fun u => by rw [u.is.cell (cell_lt a0)]; exact a0
  have HD1 : Hid (Below W.heap.size W W.drew) := drew_below W
  obtain ⟨ii, hii, hzz0, hzz1, hzz2⟩ := info_parts Tryz.infoInt
  clear hbl hgd hbA k9 hxs x1 x2 hve t1 t2 a0 hJ hq hBW
  go_enter Tryz.func70, Tryz.ntmps70
  go_wp2_with fail
  refine region_mixed (Below W.heap.size W) [([0, 1, 2, 3, 4, 5], 6)] [7] (by kernel_rfl) (by kernel_rfl) HD1.out ?_
  refine mixO_cons (by simp only [pickO, List.getElem?_cons_zero, List.getElem?_cons_succ]; exact rfl) (by simp only [pickO, List.getElem?_cons_zero, List.getElem?_cons_succ]; exact rfl) ?_
  repeat (go_big_quiet_step (fail))
  refine wpQuiet_nil ?_
  intro K hK
  go_wp2_with fail
  have CE := hid (owes.same (q : Int) (q : Int) _ _ ((P.t k).L (atK P ver k)) R ((P.t k).X (atK P ver k)) (S q) W.drew ((HU.out.below (JA.out.below.trans (HD1.out.mono HBW.out))).mono (Nat.le_trans HBW.out HD1.out.size)) ((HIs.out.below (JA.out.below.trans (HD1.out.mono HBW.out))).mono (Nat.le_trans HBW.out HD1.out.size)))
  obtain ⟨sb, hsb⟩ : ∃ t, sameB (q : Int) (q : Int) ((P.t k).L (atK P ver k)) R ((P.t k).X (atK P ver k)) (S q) = t := ⟨_, rfl⟩
  rw [hsb] at CE
  have HSb := hid (HBl.out sb (HGd.out.trans hsb))
  unfold shareV at CE
  clear hsb
  refine Calls.mono CE.out ?_
  rintro e U3 ⟨rfl, hb3⟩
  have H3 : Hid (Below W.heap.size W U3) := HD1.out.trans (hb3.mono HD1.out.size)
  have J3 := hid (JA.out.up H3.out)
  clear hb3 CE
  go_wp2
  refine ⟨rfl, hK _ _ H3.out ?_⟩
  clear hK K
  cases sb with
  | true =>
    refine mixO_nil (by simp only [pickO, List.getElem?_cons_zero, List.getElem?_cons_succ]; exact rfl) ?_
    repeat (go_big_quiet_step (fail))
    refine wpQuiet_nil ?_
    clear F0 F1 F2 F3 F4 hne s0 s1
    have JF := hid (J3.out.skip HSb.out)
    go_wp2
    refine bodyPost_end (results_none rfl _ _ _) rfl ?_
    exact ⟨rfl, JF.out⟩
  | false =>
    refine mixO_nil (by simp only [pickO, List.getElem?_cons_zero, List.getElem?_cons_succ]; exact rfl) ?_
    repeat (go_big_quiet_step (fail))
    refine wpQuiet_nil ?_
    clear F0 F1 F2 F3 F4 hne s0 s1
    obtain ⟨vw, hvw, hown⟩ := J3.out.who
    obtain ⟨aw, cw, hvs⟩ := own_shapeA hown
    subst hvs
    have HVw := hid hvw
    have HOwn := hid hown
    have d0 : U3.cell? ⟨gw, 0, none⟩ = some (.slice aw (pickL (blB P ver R S) k).length cw) := cell_at hvw rfl
    have hln : (pickL (blB P ver R S) k).length ≤ k := by unfold pickL; rw [List.length_map]; exact Nat.le_trans (List.length_filter_le _ _) (by simp)
    have hbu : base ≤ U3.heap.size := J3.out.ord.2.2.2
    clear hvw hown
    go_wp2_with (at_builtin; refine wpList_append_own_at _ rfl (.tmp 14) (.tmp 16) 28 rfl base 3 ii (.int .i64 0) 1 8 Tryz.underlying28 hii hzz0 hzz1 hzz2 rfl (by decide) _ _ _ rfl (World.ownsRow.alloc HOwn.out _) ⟨_, 0, none⟩ 1 1 [.int .i64 (k : Int)] rfl rfl (newCell _ _ _) (oneCell _) (by unfold maxLen; omega) (by omega) (by simp; omega) ?_; intro v9 w9 ho9 hg9 _ hat9; obtain ⟨a9, c9, hs9⟩ := own_shapeA ho9; subst hs9; have HP9 := hid (J3.out.push HSb.out HVw.out HOwn.out hg9 ho9); have f9 := frozen_at (i := 0) HP9.out.2; have q9 : w9.cell? ⟨gw, 0, none⟩ = some (.slice aw (pickL (blB P ver R S) k).length cw) := cell_at HP9.out.2 rfl; clear ho9 hg9 hat9)
    refine bodyPost_end (results_none rfl _ _ _) rfl ?_
    exact ⟨rfl, HP9.out.1⟩

end Go.Proofs.YtikchpffkhohlaaGreat

namespace Go.Proofs.YtikchpffkhohlaaGreat

open Go.RowKit CurveMath
set_option linter.unusedVariables false

def thB (P : Ps) (ver : Int) : Nat → Nat → Bool
  | 0, _ => false
  | k + 1, i => thB P ver k i || (hasK P ver k && decide (numK P ver k = (i : Int)))

theorem count_more {p : Nat → Bool} {q : Nat} (hq : p q = false) : ∀ m, (List.range m).countP (fun j => p j || decide (j = q)) = (List.range m).countP p + (if q < m then 1 else 0) := by
  intro m
  induction m with
  | zero => simp
  | succ m ih =>
    rw [List.range_succ, List.countP_append, List.countP_append, ih]
    by_cases h : m = q
    · subst h
      simp [hq]
    · by_cases h2 : q < m
      · simp [h, h2, Nat.lt_succ_of_lt h2]
        omega
      · have h3 : ¬ q < m + 1 := by omega
        simp [h, h2, h3]

theorem count_same {p p' : Nat → Bool} {m : Nat} (h : ∀ j, j < m → p j = p' j) : (List.range m).countP p = (List.range m).countP p' := by
  refine List.countP_congr fun j hj => ?_
  rw [h j (List.mem_range.1 hj)]

theorem count_not (p : Nat → Bool) : ∀ m, (List.range m).countP (fun j => !p j) + (List.range m).countP p = m := by
  intro m
  induction m with
  | zero => simp
  | succ m ih =>
    rw [List.range_succ, List.countP_append, List.countP_append]
    cases h : p m with
    | true => simp [h]; omega
    | false => simp [h]; omega

theorem there_count {n : Nat} {b : Bk} {np : Nat} {P : Ps} (hR : MeshR n b np P) {ver : Int} {m : Nat} (hN : ∀ k, k < np → hasK P ver k = true → 0 ≤ numK P ver k ∧ numK P ver k < (m : Int)) : ∀ k, k ≤ np →
    (∀ i : Nat, seenN P (thAll P ver k) (i : Int) = thB P ver k i) ∧ (thAll P ver k).length = (List.range m).countP (thB P ver k) := by
  intro k
  induction k with
  | zero =>
    intro _
    have e : thAll P ver 0 = [] := rfl
    rw [e]
    refine ⟨fun i => rfl, ?_⟩
    have h0 : (fun i => thB P ver 0 i) = fun _ => false := rfl
    show 0 = (List.range m).countP (fun i => thB P ver 0 i)
    rw [h0]
    simp
  | succ k ih =>
    intro hk
    obtain ⟨h1, h2⟩ := ih (by omega)
    rw [thAll_has hR ver (by omega)]
    by_cases hh : hasK P ver k = true
    · obtain ⟨n0, n1⟩ := hN k (by omega) hh
      obtain ⟨q, hq⟩ : ∃ q : Nat, numK P ver k = (q : Int) := ⟨(numK P ver k).toNat, by omega⟩
      have hstep : ∀ i : Nat, thB P ver (k + 1) i = (thB P ver k i || decide (i = q)) := fun i => by
        show (thB P ver k i || (hasK P ver k && decide (numK P ver k = (i : Int)))) = _
        rw [hh, hq, Bool.true_and]
        congr 1
        exact decide_eq_decide.2 ⟨fun h => by omega, fun h => by omega⟩
      rw [hh, hq, h1 q, Bool.true_and]
      cases hs : thB P ver k q with
      | true =>
        rw [Bool.not_true, if_neg (by decide)]
        have hsame : ∀ i : Nat, thB P ver (k + 1) i = thB P ver k i := fun i => by
          rw [hstep i]
          by_cases hi : i = q
          · subst hi; rw [hs]; rfl
          · rw [decide_eq_false hi, Bool.or_false]
        exact ⟨fun i => by rw [h1 i, hsame i], by rw [h2]; exact count_same fun j _ => (hsame j).symm⟩
      | false =>
        rw [Bool.not_false, if_pos rfl]
        refine ⟨fun i => ?_, ?_⟩
        · rw [seenN_snoc, h1 i, hstep i]
          have hnum : (P.t k).N (atK P ver k) = (q : Int) := hq
          rw [hnum]
          congr 1
          exact decide_eq_decide.2 ⟨fun h => by omega, fun h => by omega⟩
        · rw [List.length_append, h2, count_same (p := thB P ver (k + 1)) (p' := fun j => thB P ver k j || decide (j = q)) (fun j _ => hstep j), count_more hs, if_pos (by omega)]
          rfl
    · have hf : hasK P ver k = false := by simpa using hh
      have hsame : ∀ i : Nat, thB P ver (k + 1) i = thB P ver k i := fun i => by
        show (thB P ver k i || (hasK P ver k && decide (numK P ver k = (i : Int)))) = _
        rw [hf, Bool.false_and, Bool.or_false]
      rw [hf, Bool.false_and, if_neg (by decide)]
      exact ⟨fun i => by rw [h1 i, hsame i], by rw [h2]; exact count_same fun j _ => (hsame j).symm⟩

def laC (P : Ps) (ver : Int) (np i : Nat) : Nat := (List.range i).countP fun j => !thB P ver np j

theorem laC_succ (P : Ps) (ver : Int) (np i : Nat) : laC P ver np (i + 1) = laC P ver np i + (if thB P ver np i = true then 0 else 1) := by
  unfold laC
  rw [List.range_succ, List.countP_append]
  cases h : thB P ver np i <;> simp [h]

theorem laC_le (P : Ps) (ver : Int) (np i : Nat) : laC P ver np i ≤ i := by
  unfold laC
  exact Nat.le_trans List.countP_le_length (by simp)

theorem laC_all {n : Nat} {b : Bk} {np : Nat} {P : Ps} (hR : MeshR n b np P) {ver : Int} {m : Nat} (hN : ∀ k, k < np → hasK P ver k = true → 0 ≤ numK P ver k ∧ numK P ver k < (m : Int)) : ((laC P ver np m : Nat) : Int) = (m : Int) - ((thereL P ver np).length : Int) := by
  have h := (there_count hR hN np (Nat.le_refl _)).2
  have h2 := count_not (thB P ver np) m
  unfold laC thereL
  rw [h]
  omega

structure LaI (B : Nat) (w0 : World) (gt : Nat) (P : Ps) (ver : Int) (k : Nat) (wr : World) : Prop where
  below : Below B w0 wr
  ord : B ≤ gt ∧ gt < wr.heap.size
  cell : ∀ i, i < 8 → wr.cell? ⟨gt, i, none⟩ = some (.bool (thB P ver k i))
  free : ∀ i, wr.frozen? ⟨gt, i, none⟩ = false

section

variable {B : Nat} {w0 : World} {gt : Nat} {P : Ps} {ver : Int} {k : Nat} {wr w' : World}

theorem LaI.up (h : LaI B w0 gt P ver k wr) (hb : Below wr.heap.size wr w') : LaI B w0 gt P ver k w' := by
  obtain ⟨o1, o2⟩ := h.ord
  exact ⟨h.below.trans (hb.mono (by omega)), ⟨o1, Nat.lt_of_lt_of_le o2 hb.size⟩, fun i hi => by rw [hb.cell o2]; exact h.cell i hi, fun i => by rw [← h.free i]; exact World.frozen?_of_block (hb.block _ o2)⟩

theorem LaI.skip (h : LaI B w0 gt P ver k wr) (hn : hasK P ver k = false) : LaI B w0 gt P ver (k + 1) wr :=
  ⟨h.below, h.ord, fun i hi => by rw [h.cell i hi]; show _ = some (Value.bool (thB P ver k i || (hasK P ver k && decide (numK P ver k = (i : Int))))); rw [hn, Bool.false_and, Bool.or_false], h.free⟩

theorem LaI.put (h : LaI B w0 gt P ver k wr) (hh : hasK P ver k = true) {q : Nat} (hq : numK P ver k = (q : Int)) (hq8 : q < 8) : LaI B w0 gt P ver (k + 1) (wr.setCell ⟨gt, q, none⟩ (.bool true)) := by
  obtain ⟨o1, o2⟩ := h.ord
  refine ⟨h.below.setCell (p := ⟨gt, q, none⟩) o1 _, ⟨o1, by simpa [World.setCell] using o2⟩, fun i hi => ?_, fun i => by rw [frozen_setN]; exact h.free i⟩
  show _ = some (Value.bool (thB P ver k i || (hasK P ver k && decide (numK P ver k = (i : Int)))))
  rw [hh, hq, Bool.true_and]
  by_cases e : i = q
  · subst e
    rw [decide_eq_true rfl, Bool.or_true]
    exact cell_set_same (h.cell i hi) _
  · rw [cell_set_lit (Or.inr e), decide_eq_false (by omega), Bool.or_false]
    exact h.cell i hi

end

set_option maxHeartbeats 4000000 in
set_option maxRecDepth 10000 in
theorem auLacks (B : Nat) (w0 : World) (gt : Nat) (P : Ps) (ver : Int) (k : Nat) (uk : Value) (hh : hasK P ver k = true) (hN : 0 ≤ numK P ver k ∧ numK P ver k < 8) (huk : ∃ a n c, uk = .slice a n c) (wr : World) (hJ : LaI B w0 gt P ver k wr) :
    Calls Tryz.prog 71 #[.int .i64 (k : Int), .agg #[.int .i64 (numK P ver k), uk], .pointer (some ⟨gt, 0, none⟩)] wr fun e w' => e = .returned (.tuple #[]) ∧ LaI B w0 gt P ver (k + 1) w' := by
  obtain ⟨au, nu, cu, rfl⟩ := huk
  obtain ⟨q, hq⟩ : ∃ q : Nat, numK P ver k = (q : Int) := ⟨(numK P ver k).toNat, by omega⟩
  have hbA := below_alloc wr (.cells #[.int .i64 (numK P ver k), .slice au nu cu] 53)
  have k9 := heap_alloc_new wr (.cells #[.int .i64 (numK P ver k), .slice au nu cu] 53)
  obtain ⟨W, hW⟩ : ∃ u, wr.alloc (.cells #[.int .i64 (numK P ver k), .slice au nu cu] 53) = u := ⟨_, rfl⟩
  rw [hW] at hbA k9
  have JA := hid (hJ.up hbA)
  have hq8 : q < 8 := by omega
  have JP := hid (JA.out.put hh hq hq8)
  rw [hq] at k9 ⊢
  obtain ⟨s0, s1⟩ := two_at k9
  have c0 := JA.out.cell q hq8
  have f0 := JA.out.free q
  have hqi : (q : Int) < 8 := by omega
  rw [hq] at hW
  clear hbA k9 hJ hh hN hq
  go_enter Tryz.func71, Tryz.ntmps71
  go_wp2
  refine bodyPost_end (results_none rfl _ _ _) rfl ?_
  exact ⟨rfl, JP.out⟩

end Go.Proofs.YtikchpffkhohlaaGreat

namespace Go.Proofs.YtikchpffkhohlaaGreat

open Go.RowKit CurveMath
set_option linter.unusedVariables false

set_option maxHeartbeats 4000000 in
set_option maxRecDepth 10000 in
theorem auBlamed (vb : Value) (n : Nat) (PV : Nat → Value) (b : Bk) (vl : Value) (np : Nat) (KV : Nat → Value) (UV : Nat → Nat → Value) (P : Ps) (k : Int) (w : World) (hv : VeSl w w.heap.size vb n PV b) (hl : PsSl w w.heap.size vl np KV UV P) :
    Calls Tryz.prog 30 #[meshV vb vl, .int .i64 k] w (LiPost w (blameV n b np P k) (rsE n b np P k)) := by
  have hb0 := below_alloc w (.cells #[vb, vl] 27)
  have k1 := heap_alloc_new w (.cells #[vb, vl] 27)
  obtain ⟨W0, hW0⟩ : ∃ W, w.alloc (.cells #[vb, vl] 27) = W := ⟨_, rfl⟩
  rw [hW0] at hb0 k1
  have HV := hid hv
  have HL := hid hl
  obtain ⟨ad, cap0, rfl, _, hxv⟩ := hv
  obtain ⟨al, cl, rfl, _, _⟩ := hl
  have CR := hid (msRestore _ n PV b _ np KV UV P k W0 (HV.out.up hb0) (HL.out.up hb0))
  obtain ⟨bv0, hbv0⟩ : ∃ c, blameV n b np P k = c := ⟨_, rfl⟩
  obtain ⟨er0, her0⟩ : ∃ c, rsE n b np P k = c := ⟨_, rfl⟩
  rw [hbv0, her0]
  have HEr0 := hid her0
  unfold blameV at hbv0
  have HBv := hid hbv0
  obtain ⟨m0, m1⟩ := two_at k1
  have B0 := hid hb0
  have K1 := hid k1
  have HXv := hid hxv
  clear hb0 k1 hbv0 hxv her0
  unfold meshV at CR
  unfold meshV
  go_enter Tryz.func30, Tryz.ntmps30
  go_wp2_with fail
  refine Calls.mono CR.out ?_
  rintro e W ⟨hbW, vd, vbad, ld, rfl, hld, hvd, hbad⟩
  have B1 := hid (B0.out.trans (hbW.mono B0.out.size))
  have d1 := stayB K1.out hbW
  have D1 := hid d1
  have HVd := hid hvd
  obtain ⟨adt, cdt, rfl, _, _⟩ := hvd
  obtain ⟨abd, cbd, rfl, _, _⟩ := hbad
  obtain ⟨c, hc⟩ : ∃ c, rsE n b np P k = c := ⟨_, rfl⟩
  have hE1 := HBv.out
  rw [hc] at hE1 hld
  rw [hc]
  have HC := hid hc
  clear hbW m0 m1 CR hc hW0
  by_cases h0 : c = 0
  · subst h0
    obtain rfl : er0 = 0 := HEr0.out.symm.trans HC.out
    rw [if_pos rfl] at hE1 hld
    have HE1 := hid hE1
    obtain ⟨hver, d, mo, sN, e1, e2, e3, hpl⟩ := rsE_ok HC.out
    obtain ⟨hR, hk0, hkn⟩ := verM_ok hver
    obtain ⟨q, rfl⟩ : ∃ q : Nat, k = q := ⟨k.toNat, by omega⟩
    rw [Int.toNat_natCast] at e1 e2 e3 hld
    have hqn : q < n := by omega
    have hki : (q : Int) < (n : Int) := by omega
    have hls : ld = sN := by rw [e3] at hld; omega
    subst hls
    have HR := hid hR
    have HPl := hid hpl
    have hps := planOk_spec hpl
    have HNd := hid e1
    have HOf := hid e2
    have HSz := hid e3
    rcases HXv.out with h0 | ⟨bv, ov, rfl, hbv, hxv⟩
    · omega
    obtain ⟨_, v1, v2, v3, _⟩ := hxv q hqn
    rw [e1] at v1
    rw [e2] at v2
    rw [e3] at v3
    have q1 : W.cell? ⟨bv, ov + q * 4 + 1, none⟩ = some (.int .i64 (d : Int)) := by rw [B1.out.cell hbv]; exact v1
    have q2 : W.cell? ⟨bv, ov + q * 4 + 2, none⟩ = some (.int .i64 (mo : Int)) := by rw [B1.out.cell hbv]; exact v2
    have q3 : W.cell? ⟨bv, ov + q * 4 + 3, none⟩ = some (.int .i64 (ld : Int)) := by rw [B1.out.cell hbv]; exact v3
    obtain ⟨m0, m1⟩ := two_at d1
    have CSp := hid (owes.split (d : Int) (mo : Int) (ld : Int) _ ld (rsD b np P (q : Int)) W HVd.out)
    rw [split_ok hpl (fun j => rsD_num b np P (q : Int) j)] at CSp
    unfold planV at CSp
    clear d1 hE1 hxv v1 v2 v3 hld hver hR hpl e1 e2 e3
    go_wp2_with fail
    refine Calls.mono CSp.out ?_
    rintro e W2 ⟨hb2, vs, cnt, SV, rfl, hcnt, hsh, _, _⟩
    rw [if_pos trivial] at hcnt
    obtain rfl : cnt = mo := by omega
    obtain ⟨R, hRr⟩ : ∃ R : Nat, rowsN (d : Int) (ld : Int) = R := ⟨_, rfl⟩
    obtain ⟨S, hSs⟩ : ∃ S, rsS b np P (q : Int) = S := ⟨_, rfl⟩
    have hsx : (fun (j : Nat) (r : Nat) => shv (d : Int).toNat ld (rsD b np P (q : Int)) j r) = S := by
      rw [← hSs]
      funext j r
      unfold rsS
      simp only [Int.toNat_natCast]
      rw [HNd.out, HSz.out]
      simp only [Int.toNat_natCast]
    rw [hsx, hRr] at hsh
    have B2 := hid (B1.out.trans (hb2.mono B1.out.size))
    have d1 := stayB D1.out hb2
    have D21 := hid d1
    have HSh := hid hsh
    obtain ⟨ash, csh, rfl, _, _⟩ := hsh
    have hNl : ∀ i, i < np → hasK P (q : Int) i = true → numK P (q : Int) i < (cnt : Int) := fun i hi hh => by
      obtain ⟨_, h1, h2⟩ := hasK_at hh
      have h3 := ((HR.out.peer i hi).right _ h1).2
      unfold oneK at h3
      rw [h2, Int.toNat_natCast, HNd.out, HOf.out, HSz.out] at h3
      exact (oneE_ok h3).2.1.2
    have HNl := hid hNl
    have hbl : pickL (blB P (q : Int) R S) np = bv0 := by
      have h9 := HE1.out
      unfold blL at h9
      rw [Int.toNat_natCast, HNd.out, HSz.out, hRr, hSs] at h9
      exact h9
    have HBl := hid hbl
    have h8 := HR.out.few
    have hbx := below_alloc W2 (.cells #[.slice ash cnt csh] 71)
    have kx := heap_alloc_new W2 (.cells #[.slice ash cnt csh] 71)
    have hby := below_alloc (W2.alloc (.cells #[.slice ash cnt csh] 71)) (.cells #[.slice none 0 0] 28)
    have ky := heap_alloc_new (W2.alloc (.cells #[.slice ash cnt csh] 71)) (.cells #[.slice none 0 0] 28)
    have kx2 := stayB kx hby
    have hsz4 : ((W2.alloc (.cells #[.slice ash cnt csh] 71)).alloc (.cells #[.slice none 0 0] 28)).heap.size = W2.heap.size + 2 := by simp
    have hsz3 : (W2.alloc (.cells #[.slice ash cnt csh] 71)).heap.size = W2.heap.size + 1 := by simp
    rw [hsz3] at ky
    have hb24 := hbx.trans (hby.mono hbx.size)
    obtain ⟨W4, hW4⟩ : ∃ u, (W2.alloc (.cells #[.slice ash cnt csh] 71)).alloc (.cells #[.slice none 0 0] 28) = u := ⟨_, rfl⟩
    rw [hW4] at ky kx2 hsz4 hb24
    have J0 : BlI W2.heap.size W2 W2.heap.size (W2.heap.size + 1) (W2.heap.size + 2) (.slice ash cnt csh) P (q : Int) R S 0 W4 :=
      ⟨hb24, ⟨Nat.le_refl _, by omega, by omega, by omega⟩, kx2, .slice none 0 0, ky, World.ownsRow_nil _ _ _ _⟩
    have D4 := hid (stayB D21.out hb24)
    have HL2 := hid (HL.out.up B2.out)
    have CE := hid (auEachA W2.heap.size W2 (.slice (some ⟨bv, ov, none⟩) n cap0) (.slice al np cl) np KV UV P (q : Int) W2.heap.size (W2.heap.size + 1) (BlI W2.heap.size W2 W2.heap.size (W2.heap.size + 1) (W2.heap.size + 2) (.slice ash cnt csh) P (q : Int) R S) W4 ⟨_, _, _, rfl⟩ HL2.out (by omega)
      (fun i wr h => ⟨h.below, by obtain ⟨_, _, _, _⟩ := h.ord; omega⟩) (fun i wr w' h hb => h.up hb) (fun i wr hi hn h => h.skip (by unfold blB; rw [hn, Bool.false_and]))
      (fun i wr hi hh h => by
        obtain ⟨_, h1, _⟩ := hasK_at hh
        have hnum : 0 ≤ numK P (q : Int) i ∧ numK P (q : Int) i < 8 := HR.out.num i _ hi h1
        exact auBlames W2.heap.size W2 _ _ _ cnt R ash csh SV S P (q : Int) i (UV i (atK P (q : Int) i)) HSh.out hh ⟨hnum.1, HNl.out i hi hh⟩ (by omega) (HL2.out.ints hi h1) wr h) J0)
    unfold meshV at CE
    obtain ⟨c0, c1⟩ := two_at D4.out
    have hmf : ∀ (fn : Fn) (first cap : Array Value) (w : World), (Instr.makeFunc fn first cap).run Tryz.prog w = .ok (.func fn first cap) w := fun _ _ _ _ => rfl
    have HB24 := hid hb24
    have hfold : ((W2.alloc (.cells #[.slice ash cnt csh] 71)).alloc (.cells #[.slice none 0 0] 28)) = W4 := hW4
    clear hb2 CSp q1 q2 q3 hsx d1 hNl hRr hSs hcnt m0 m1 hbx kx hby ky kx2 hsz4 J0 hb24 hbl hW4
    go_wp2_with fail
    try rw [hsz3]
    try rw [hfold]
    clear hfold hsz3
    refine Calls.mono CE.out ?_
    rintro e W5 ⟨rfl, J5⟩
    obtain ⟨vw, hvw, hown⟩ := J5.who
    rw [HBl.out] at hown
    have HIs := hid (own_isl hown (by rw [← HBl.out]; unfold pickL; rw [List.length_map]; have := List.length_filter_le (blB P (q : Int) R S) (List.range np); simp at this; omega))
    have HIs2 := HIs
    obtain ⟨aw, cw, rfl, _, _⟩ := HIs2.out
    have y0 : W5.cell? ⟨W2.heap.size + 1, 0, none⟩ = some (.slice aw bv0.length cw) := cell_at hvw rfl
    have HB5 := hid (B2.out.trans (J5.below.mono B2.out.size))
    clear hvw hown J5 CE hmf c0 c1
    go_wp2
    go_ret2
    exact ⟨HB5.out, .slice aw bv0.length cw, rfl, HIs.out⟩
  · have hcb : (c != 0) = true := by simpa using h0
    rw [if_neg h0] at hE1
    subst hE1
    obtain rfl : er0 = c := HEr0.out.symm.trans HC.out
    clear h0 hld
    go_wp2
    go_ret2
    exact liPost_nil B1.out

set_option maxHeartbeats 4000000 in
set_option maxRecDepth 10000 in
theorem auLacking (vb : Value) (n : Nat) (PV : Nat → Value) (b : Bk) (vl : Value) (np : Nat) (KV : Nat → Value) (UV : Nat → Nat → Value) (P : Ps) (k : Int) (w : World) (hv : VeSl w w.heap.size vb n PV b) (hl : PsSl w w.heap.size vl np KV UV P) :
    Calls Tryz.prog 31 #[meshV vb vl, .int .i64 k] w fun e w' => e = .returned (.tuple #[.int .i64 (lackV n b np P k), .int .i64 (verM n b np P k)]) ∧ Below w.heap.size w w' := by
  have hb0 := below_alloc w (.cells #[vb, vl] 27)
  have k1 := heap_alloc_new w (.cells #[vb, vl] 27)
  obtain ⟨W0, hW0⟩ : ∃ W, w.alloc (.cells #[vb, vl] 27) = W := ⟨_, rfl⟩
  rw [hW0] at hb0 k1
  have HV := hid hv
  have HL := hid hl
  obtain ⟨ad, cap0, rfl, _, hxv⟩ := hv
  obtain ⟨al, cl, rfl, _, _⟩ := hl
  have CK := hid (msCheck _ n PV b _ np KV UV P W0 (HV.out.up hb0) (HL.out.up hb0))
  obtain ⟨lv, hlv⟩ : ∃ c, lackV n b np P k = c := ⟨_, rfl⟩
  obtain ⟨ve, hve⟩ : ∃ c, verM n b np P k = c := ⟨_, rfl⟩
  rw [hlv, hve]
  unfold lackV at hlv
  rw [hve] at hlv
  have HVe := hid hve
  have HLv := hid hlv
  obtain ⟨c, hc⟩ : ∃ c, peersE n b np P = c := ⟨_, rfl⟩
  rw [hc] at CK
  unfold verM at hve
  rw [hc] at hve
  have HVc := hid hve
  have HC := hid hc
  obtain ⟨m0, m1⟩ := two_at k1
  have B0 := hid hb0
  have K1 := hid k1
  have HXv := hid hxv
  clear hb0 k1 hlv hve hxv hc
  unfold meshV at CK
  unfold meshV
  go_enter Tryz.func31, Tryz.ntmps31
  go_wp2_with fail
  refine Calls.mono CK.out ?_
  rintro e W ⟨rfl, hbW⟩
  have B1 := hid (B0.out.trans (hbW.mono B0.out.size))
  have d1 := stayB K1.out hbW
  have D1 := hid d1
  clear hbW m0 m1 CK hW0
  obtain ⟨m0, m1⟩ := two_at d1
  clear d1
  by_cases h0 : c = 0
  · subst h0
    have hve := HVc.out
    rw [if_pos rfl] at hve
    by_cases hlo : k < 0
    · have hne : ¬ (0 ≤ k ∧ k < (n : Int)) := by omega
      rw [if_neg hne] at hve
      subst hve
      have hl0 := HLv.out
      rw [if_neg (by decide)] at hl0
      subst hl0
      clear hne
      go_wp2
      go_ret2
      exact ⟨rfl, B1.out⟩
    · by_cases hhi : k < (n : Int)
      · rw [if_pos ⟨by omega, hhi⟩] at hve
        subst hve
        obtain ⟨q, rfl⟩ : ∃ q : Nat, k = q := ⟨k.toNat, by omega⟩
        obtain ⟨hR, _, _⟩ := verM_ok HVe.out
        have hqn : q < n := by omega
        have HR := hid hR
        have h8 := hR.few
        have hpb := plan_bd hR hqn
        have hl0 := HLv.out
        rw [if_pos rfl] at hl0
        unfold laN at hl0
        rw [Int.toNat_natCast] at hl0
        obtain ⟨o, ho⟩ : ∃ o : Nat, b.of q = (o : Int) := ⟨(b.of q).toNat, by omega⟩
        rw [ho] at hl0 hpb
        have ho8 : o ≤ 8 := by omega
        have hNl : ∀ i, i < np → hasK P (q : Int) i = true → 0 ≤ numK P (q : Int) i ∧ numK P (q : Int) i < (o : Int) := fun i hi hh => by
          obtain ⟨_, h1, h2⟩ := hasK_at hh
          have h3 := ((HR.out.peer i hi).right _ h1).2
          unfold oneK at h3
          rw [h2, Int.toNat_natCast, ho] at h3
          have h4 := (oneE_ok h3).2.1
          exact ⟨h4.1, h4.2⟩
        have hla := laC_all hR hNl
        rw [hl0] at hla
        have HLa := hid hla
        rcases HXv.out with h0 | ⟨bv, ov, rfl, hbv, hxv⟩
        · omega
        obtain ⟨_, _, v2, _, _⟩ := hxv q hqn
        rw [ho] at v2
        have HO := hid ho
        have V2 : Hid (∀ u, Below w.heap.size w u → u.cell? ⟨bv, ov + q * 4 + 2, none⟩ = some (.int .i64 (o : Int))) := fun u hu => by rw [hu.cell hbv]; exact v2
        have hnl : ¬ (q : Int) < 0 := hlo
        have hki : (q : Int) < (n : Int) := hhi
        have hge : ¬ (q : Int) ≥ (n : Int) := by omega
        clear hxv v2 hl0 hla hNl hR hpb hlo hhi ho
        have hbx := below_alloc W (.cells #[.bool false, .bool false, .bool false, .bool false, .bool false, .bool false, .bool false, .bool false] 81)
        have kx := heap_alloc_new W (.cells #[.bool false, .bool false, .bool false, .bool false, .bool false, .bool false, .bool false, .bool false] 81)
        have hfz : ∀ i, (W.alloc (.cells #[.bool false, .bool false, .bool false, .bool false, .bool false, .bool false, .bool false, .bool false] 81)).frozen? ⟨W.heap.size, i, none⟩ = false := fun i => frozen_at kx
        obtain ⟨W4, hW4⟩ : ∃ u, W.alloc (.cells #[.bool false, .bool false, .bool false, .bool false, .bool false, .bool false, .bool false, .bool false] 81) = u := ⟨_, rfl⟩
        rw [hW4] at hbx kx hfz
        have J0 : LaI W.heap.size W W.heap.size P (q : Int) 0 W4 := ⟨hbx, ⟨Nat.le_refl _, (Array.getElem?_eq_some_iff.1 kx).1⟩, fun i hi => by
          match i, hi with
          | 0, _ => exact cell_at kx rfl
          | 1, _ => exact cell_at kx rfl
          | 2, _ => exact cell_at kx rfl
          | 3, _ => exact cell_at kx rfl
          | 4, _ => exact cell_at kx rfl
          | 5, _ => exact cell_at kx rfl
          | 6, _ => exact cell_at kx rfl
          | 7, _ => exact cell_at kx rfl, hfz⟩
        have HL2 := hid (HL.out.up B1.out)
        have CE := hid (auEachB W.heap.size W (.slice (some ⟨bv, ov, none⟩) n cap0) (.slice al np cl) np KV UV P (q : Int) W.heap.size (LaI W.heap.size W W.heap.size P (q : Int)) W4 ⟨_, _, _, rfl⟩ HL2.out (by omega)
          (fun i wr h => ⟨h.below, by obtain ⟨_, _⟩ := h.ord; omega⟩) (fun i wr w' h hb => h.up hb) (fun i wr hi hn h => h.skip hn)
          (fun i wr hi hh h => by
            obtain ⟨_, h1, _⟩ := hasK_at hh
            have hnum : 0 ≤ numK P (q : Int) i ∧ numK P (q : Int) i < 8 := HR.out.num i _ hi h1
            obtain ⟨a9, c9, e9, _⟩ := HL2.out.ints hi h1
            exact auLacks W.heap.size W _ P (q : Int) i (UV i (atK P (q : Int) i)) hh hnum ⟨_, _, _, e9⟩ wr h) J0)
        unfold meshV at CE
        have D4 := hid (stayB D1.out hbx)
        have hmf : ∀ (fn : Fn) (first cap : Array Value) (w : World), (Instr.makeFunc fn first cap).run Tryz.prog w = .ok (.func fn first cap) w := fun _ _ _ _ => rfl
        obtain ⟨c0, c1⟩ := two_at D4.out
        clear hbx kx hfz J0
        go_wp2_with fail
        try rw [hW4]
        refine Calls.mono CE.out ?_
        rintro e W5 ⟨rfl, J5⟩
        have J := hid J5
        have d5 := stayB D1.out J5.below
        obtain ⟨y0, y1⟩ := two_at d5
        have y2 := V2.out W5 (B1.out.trans (J5.below.mono B1.out.size))
        have HB5 := hid (B1.out.trans (J5.below.mono B1.out.size))
        clear CE hmf c0 c1 J5 d5 hW4 m0 m1
        have harr : Tryz.prog.arrayLen 81 = 8 := by kernel_rfl
        have hal : (o : Int) ≤ 8 := by omega
        have hal2 : 0 ≤ (o : Int) := by omega
        go_wp2
        clear y0 y1 y2 harr
        go_loopw [8, 40] (fun cv iv wr => ∃ i : Nat, i ≤ o ∧ iv = .int .i64 i ∧ cv = .int .i64 (laC P (q : Int) np i : Nat) ∧ wr = W5) (fun _ iv _ => o - (intOf iv).toNat)
        case atStart => exact ⟨0, Nat.zero_le _, rfl, rfl, rfl⟩
        case round =>
          obtain ⟨i, hi, rfl, rfl, rfl⟩ := hrel
          by_cases hlt : i < o
          · have hii : (i : Int) < (o : Int) := by omega
            have z0 := J.out.cell i (by omega)
            have hle := laC_le P (q : Int) np i
            have hsc := laC_succ P (q : Int) np i
            have HSc := hid hsc
            obtain ⟨lc, hlc⟩ : ∃ t, laC P (q : Int) np i = t := ⟨_, rfl⟩
            obtain ⟨tb, htb⟩ : ∃ t, thB P (q : Int) np i = t := ⟨_, rfl⟩
            rw [hlc, htb] at hsc
            rw [hlc] at hle ⊢
            rw [htb] at z0
            have HSc2 := hid hsc
            clear hsc hlc htb HSc
            cases tb with
            | true =>
              go_wp2
              go_roundw
              case rel => exact ⟨i + 1, by omega, by go_num, by rw [HSc2.out]; rfl, by first | rfl | trivial⟩
              case measure => simp only [intOf]; omega
            | false =>
              go_wp2
              go_roundw
              case rel => exact ⟨i + 1, by omega, by go_num, by rw [HSc2.out]; rfl, by first | rfl | trivial⟩
              case measure => simp only [intOf]; omega
          · have hie : o = i := by omega
            subst hie
            have hjn : ¬ (o : Int) < (o : Int) := by omega
            go_wp2
            go_ret2
            exact ⟨by rw [← HLa.out]; rfl, HB5.out⟩
      · rw [if_neg (fun h => hhi h.2)] at hve
        subst hve
        have hl0 := HLv.out
        rw [if_neg (by decide)] at hl0
        subst hl0
        have hge : k ≥ (n : Int) := by omega
        clear hhi
        go_wp2
        go_ret2
        exact ⟨rfl, B1.out⟩
  · have hcb : (c != 0) = true := by simpa using h0
    have hve := HVc.out
    rw [if_neg h0] at hve
    subst hve
    have hl0 := HLv.out
    rw [if_neg h0] at hl0
    subst hl0
    clear h0
    go_wp2
    go_ret2
    exact ⟨rfl, B1.out⟩

theorem auditOwes : AuditOwes where
  blamed := auBlamed
  lacking := auLacking

end Go.Proofs.YtikchpffkhohlaaGreat
