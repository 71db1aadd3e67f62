/- Several texts of one proof, in their order. -/
import Derived.Test.YtfcpmpcfbhkacaaVb31

/- What package vote's each does: every choice is asked for, by the places, rising. -/
namespace Go.Proofs.Ytfcpmpcfbhkacaa

open Go.RowKit CurveMath
set_option linter.unusedVariables false

/-- slices.Clone of what was chosen -/
theorem clone_cho {wr : World} {lo n : Nat} {vc : Value} {c : List Nat} {N : Nat → Int} {V : Nat → Value} {L : Nat → Nat} {X : Nat → Nat → Int} (h : Cho wr lo vc c N V) (hc : Rise n c) (hl : c.length ≤ 8) (hV : ∀ j, j < n → IntSl wr wr.heap.size (V j) (L j) (X j)) :
    Calls Try.prog 35 #[vc] wr fun e w' => ∃ v', e = .returned v' ∧ OwnS wr w' v' c.length (tak N c) (tak V c) := by
  by_cases h0 : c.length = 0
  · have h1 : vc = .slice none 0 0 := by
      rcases h with ⟨_, e⟩ | ⟨g, cap, e, h3, h4, h5, h6⟩
      · exact e
      · omega
    subst h1
    have q25 : ∀ (w : World) (a : Option Addr) (n c : Nat), (binOp .eql 25 (.slice a n c) (.slice none 0 0)).run Try.prog w = .ok (.bool a.isNone) w := fun w a n c => Lib.run_eql_slice_nil w _ _ a n c 0 0 Try.underlying25
    rw [h0]
    go_enter Try.func35, Try.ntmps35
    go_wp2
    go_ret
    exact ⟨_, rfl, OwnS.nil _ _ _⟩
  · exact cloneS (h.shl hc hl hV) ⟨by omega, by omega⟩

section

variable {w : World} {d m s R n : Nat} {N : Nat → Int} {V : Nat → Value} {L : Nat → Nat} {X : Nat → Nat → Int} {a : Option Addr} {cp bb em : Nat}

/-- what trying comes to, from one choice's beginning on -/
def TryPost (w wr : World) (d m s R n : Nat) (N : Nat → Int) (X : Nat → Nat → Int) (lv : Value) (bb : Nat) (st : Option (List Nat)) (e : Ending) (w' : World) : Prop :=
  e = .returned (.tuple #[]) ∧ VInv w w' d m s R n N X lv bb st ∧ Kp bb (bb + 1) wr w'

/-- the lists of the shares stay -/
theorem ShSl.lists {w wr : World} {v : Value} (h : ShSl w w.heap.size v n N V L X) (hb : Below w.heap.size w wr) (j : Nat) (hj : j < n) : IntSl wr wr.heap.size (V j) (L j) (X j) := by
  obtain ⟨_, _, _, _, h2⟩ := h
  rcases h2 with h0 | ⟨_, _, _, _, h5⟩
  · omega
  · exact (h5 j hj).2.2.up hb

set_option maxHeartbeats 2000000 in
set_option maxRecDepth 10000 in
theorem try_ask (hS : Shares d m s R n N L X) (h : ShSl w w.heap.size (.slice a n cp) n N V L X) {c : List Nat} {wr : World} {vc : Value} {st : Option (List Nat)} (ar : Option Addr) (nr cr : Nat) (hl : c.length = d) (hc : Rise n c)
    (I : VInv w wr d m s R n N X (.slice a n cp) bb st) (E : EInv wr d em w.heap.size bb) (C : Cho wr (bb + 2) vc c N V) :
    Calls Try.prog 62 #[vc, .slice ar nr cr, .pointer (some ⟨em, 0, none⟩), .pointer (some ⟨em + 1, 0, none⟩), .pointer (some ⟨em + 2, 0, none⟩)] wr
      (TryPost w wr d m s R n N X (.slice a n cp) bb (stepV d s R n N X st c)) := by
  have hle := hS.le
  have hA := ask_any hS h I c hc hl vc (by have := C.shl hc (by omega) (h.lists I.below); rw [hl] at this; exact this)
  have HA := hid hA
  obtain ⟨avc, cvc, rfl⟩ := C.shape
  rw [hl] at HA
  rw [hl]
  have e1 := E.m
  have e2 := E.a
  unfold askF at e2
  clear hA C E I hle h hS
  go_enter Try.func62, Try.ntmps62
  go_wp2_with fail
  refine HA.out.mono ?_
  rintro e w1 ⟨rfl, h1, h2⟩
  have H1 := hid h1
  have H2 := hid h2
  clear h1 h2
  go_wp2
  refine bodyPost_ret (results_none rfl _ _ _) rfl ?_
  exact ⟨rfl, H1.out, H2.out⟩
set_option maxHeartbeats 4000000 in
set_option maxRecDepth 10000 in
theorem try_any (hS : Shares d m s R n N L X) (h : ShSl w w.heap.size (.slice a n cp) n N V L X) (r : Nat) : ∀ (c : List Nat) (i : Nat) (ws : World) (vc vr : Value) (st : Option (List Nat)), c.length + r = d → Rise i c → i ≤ n →
    VInv w ws d m s R n N X (.slice a n cp) bb st → EInv ws d em w.heap.size bb → Cho ws (bb + 2) vc c N V → ShSl w w.heap.size vr (n - i) (fun j => N (i + j)) (fun j => V (i + j)) (fun j => L (i + j)) (fun j => X (i + j)) →
    Calls Try.prog 62 #[vc, vr, .pointer (some ⟨em, 0, none⟩), .pointer (some ⟨em + 1, 0, none⟩), .pointer (some ⟨em + 2, 0, none⟩)] ws
      (TryPost w ws d m s R n N X (.slice a n cp) bb (((comb r (List.range' i (n - i))).map (c ++ ·)).foldl (stepV d s R n N X) st)) := by
  induction r with
  | zero =>
    intro c i ws vc vr st hl hc hi I E C hr
    rw [fold_all]
    obtain ⟨ar, cr, rfl, _, _⟩ := hr
    exact try_ask hS h ar _ cr (by omega) (hc.wide hi) I E C
  | succ r ih =>
    intro c i ws vc vr st hl hc hi I E C hr
    obtain ⟨ans, hans⟩ : ∃ ans, ((comb (r + 1) (List.range' i (n - i))).map (c ++ ·)).foldl (stepV d s R n N X) st = ans := ⟨_, rfl⟩
    rw [hans]
    have HAns := hid hans
    have HS := hid hS
    have HL := hid h
    have HI := hid I
    have HE := hid E
    have HC := hid C
    have HRc := hid hc
    have HRs := hid hr
    have HIH := hid ih
    have hle := hS.le
    have hd8 : d ≤ 8 := by omega
    obtain ⟨k, hk⟩ : ∃ k, n - i = k := ⟨_, rfl⟩
    have hkn : i + k = n := by omega
    obtain ⟨ar, cr, rfl, ⟨hcr, hbig⟩, hx⟩ := hr
    rw [hk] at HRs hcr hbig hx
    rw [hk]
    obtain ⟨avc, cvc, hvc⟩ := C.shape
    subst hvc
    obtain ⟨q, hq⟩ : ∃ q, c.length = q := ⟨_, rfl⟩
    have hqd : ¬ (q : Int) = (d : Int) := by omega
    rw [hq] at HC
    rw [hq]
    have e1 := E.m
    have lo1 := I.lo
    have hi1 := E.hi
    obtain ⟨ii, hii, hz0, hz1, hz2⟩ := info_parts Try.infoShare
    have HXr := hid hx
    have HQ := hid hq
    have HK := hid hk
    clear hans hS h I E C hc ih hx hq hk
    go_enter Try.func62, Try.ntmps62
    go_wp2
    go_loopw [18] (fun iv wr => ∃ (j : Nat) (sj : Option (List Nat)), j ≤ k ∧ iv = .int .i64 j ∧ Hid (VInv w wr d m s R n N X (.slice a n cp) bb sj) ∧ Hid (Kp bb (bb + 1) ws wr) ∧ Hid (((comb (r + 1) (List.range' (i + j) (k - j))).map (c ++ ·)).foldl (stepV d s R n N X) sj = ans)) (fun iv _ => k - (intOf iv).toNat)
    case atStart => exact ⟨0, st, Nat.zero_le _, rfl, HI, Kp.of_below (Below.refl _ _), by have := HAns.out; rw [HK.out] at this; exact this⟩
    case round =>
      obtain ⟨j, sj, hj, rfl, Ij, Kj, Fj⟩ := hrel
      by_cases hlt : j < k
      · have hji : (j : Int) < (k : Int) := by omega
        have hx5 : ∃ b off, ar = some ⟨b, off, none⟩ ∧ b < w.heap.size ∧ (w.cell? ⟨b, off + j * 2, none⟩ = some (.int .i64 (N (i + j))) ∧ w.cell? ⟨b, off + j * 2 + 1, none⟩ = some (V (i + j)) ∧ IntSl w w.heap.size (V (i + j)) (L (i + j)) (X (i + j))) := by
          rcases HXr.out with h0 | ⟨b, off, rfl, hb, h5⟩
          · omega
          · exact ⟨b, off, rfl, hb, h5 j hlt⟩
        obtain ⟨b, off, rfl, hb, x1, x2, x3⟩ := hx5
        obtain ⟨av, cv, hve, _, _⟩ := x3
        obtain ⟨lv, hlv⟩ : ∃ lv, L (i + j) = lv := ⟨_, rfl⟩
        rw [hlv] at hve
        obtain ⟨x, hxx⟩ : ∃ x, N (i + j) = x := ⟨_, rfl⟩
        rw [hxx] at x1
        have g1 : wr.cell? ⟨b, off + j * 2, none⟩ = some (.int .i64 x) := by rw [Ij.out.below.cell hb]; exact x1
        have g2 : wr.cell? ⟨b, off + j * 2 + 1, none⟩ = some (.slice av lv cv) := by rw [Ij.out.below.cell hb, x2, hve]
        have HVe := hid hve
        have HXx := hid hxx
        have hsl : ((j : Int) + 1) ≤ (cr : Int) := by omega
        clear x1 x2 hve hlv hxx
        have Ej := hid (HE.out.keep Kj.out)
        have Cj := hid (HC.out.keep Kj.out (by omega) (by omega))
        have hbA := below_alloc wr (.cells #[.int .i64 x, .slice av lv cv] 27)
        obtain ⟨W, hW⟩ : ∃ W, wr.alloc (.cells #[.int .i64 x, .slice av lv cv] 27) = W := ⟨_, rfl⟩
        rw [hW] at hbA
        have s0 : W.cell? ⟨wr.heap.size, 0, none⟩ = some (.int .i64 x) := by rw [← hW]; exact cell_at (heap_alloc_new _ _) rfl
        have s1 : W.cell? ⟨wr.heap.size, 1, none⟩ = some (.slice av lv cv) := by rw [← hW]; exact cell_at (heap_alloc_new _ _) rfl
        have IW := hid (Ij.out.up hbA)
        have hemz : em + 2 < wr.heap.size := cell_lt Ej.out.t
        have KW := hid (Kj.out.trans (Kp.of_below hbA))
        have EW := hid (Ej.out.keep (Kp.of_below hbA))
        have CW := hid (Cj.out.keep (Kp.of_below (b1 := bb) (b2 := bb + 1) hbA) (by omega) (by omega))
        have eT := EW.out.t
        unfold tryF at eT
        have hne : Nonempty (Of (Kp bb (bb + 1) W)) := ⟨⟨W, Kp.of_below (Below.refl _ _)⟩⟩
        have F3 : ∀ u : Of (Kp bb (bb + 1) W), u.val.cell? ⟨wr.heap.size, 0, none⟩ = some (.int .i64 x) := fun u => by rw [u.is.cell (cell_lt s0) (by show wr.heap.size ≠ bb; omega) (by show wr.heap.size ≠ bb + 1; omega)]; exact s0
        have F4 : ∀ u : Of (Kp bb (bb + 1) W), u.val.cell? ⟨wr.heap.size, 1, none⟩ = some (.slice av lv cv) := fun u => by rw [u.is.cell (cell_lt s1) (by show wr.heap.size ≠ bb; omega) (by show wr.heap.size ≠ bb + 1; omega)]; exact s1
        have F5 : ∀ u : Of (Kp bb (bb + 1) W), u.val.cell? ⟨em + 2, 0, none⟩ = some (.func (.func 62) #[] #[.pointer (some ⟨em, 0, none⟩), .pointer (some ⟨em + 1, 0, none⟩), .pointer (some ⟨em + 2, 0, none⟩)]) := fun u => by rw [u.is.cell (cell_lt eT) (by show em + 2 ≠ bb; omega) (by show em + 2 ≠ bb + 1; omega)]; exact eT
        clear hbA eT s0 s1
        go_wp2_with fail
        have HDr : Hid (Below W.heap.size W W.drew) := ⟨rfl, rfl, rfl, Nat.le_refl _, fun _ _ => rfl⟩
        have hws : wr.heap.size + 1 ≤ W.heap.size := by rw [← hW]; simp
        have HWs := hid hws
        clear hws
        obtain ⟨ra, hra⟩ : ∃ ra : Option Addr, (if cr = j + 1 then some ⟨b, off, none⟩ else some ⟨b, off + (j + 1) * 2, none⟩) = ra := ⟨_, rfl⟩
        have HRa := hid hra
        have HRt : Hid (ShSl w w.heap.size (.slice ra (k - (j + 1)) (cr - (j + 1))) (n - (i + j + 1)) (fun t => N (i + j + 1 + t)) (fun t => V (i + j + 1 + t)) (fun t => L (i + j + 1 + t)) (fun t => X (i + j + 1 + t))) := by
          rw [← hra]
          by_cases hz : cr = j + 1
          · rw [if_pos hz, show n - (i + j + 1) = 0 by omega, show k - (j + 1) = 0 by omega]
            exact ⟨_, _, rfl, ⟨Nat.zero_le _, by omega⟩, Or.inl rfl⟩
          · rw [if_neg hz]
            have h9 := HRs.out.drop (d := j + 1) (by omega)
            rw [show n - (i + j + 1) = k - (j + 1) by omega]
            have e9 : ∀ t, i + (j + 1 + t) = i + j + 1 + t := fun t => by omega
            simp only [e9] at h9
            exact h9
        clear hra
        refine region_fork (Kp bb (bb + 1) W) [0, 1, 3, 6, 7, 8, 9] 2 4 [([], 4), ([], 5), ([], 10)] [([], 2), ([], 5), ([], 10)] [] (by kernel_rfl) (by kernel_rfl) (Kp.of_below HDr.out) (by simp only [pickO, List.getElem?_cons_zero, List.getElem?_cons_succ]; exact rfl) (by simp only [pickO, List.getElem?_cons_zero, List.getElem?_cons_succ]; exact rfl) (by simp only [pickO, List.getElem?_cons_zero, List.getElem?_cons_succ]; exact rfl) ?_
        repeat (go_big_quiet_step (fail))
        refine wpQuiet_nil ?_
        rw [HRa.out]
        refine ⟨?_, ?_⟩
        · intro K hK
          go_wp2_with fail
          refine Calls.mono (clone_cho (n := n) (L := L) (X := X) (CW.out.keep (Kp.of_below (b1 := bb) (b2 := bb + 1) HDr.out) (by omega) (by omega)) (HRc.out.wide hi) (by omega) (HL.out.lists (IW.out.up HDr.out).below)) ?_
          rintro e w2 ⟨v', rfl, ho2⟩
          have HO2 := hid ho2
          have HB2 : Hid (Below W.heap.size W w2) := HDr.out.trans (ho2.2.mono HDr.out.size)
          clear ho2
          go_wp2
          refine ⟨rfl, hK _ _ (Kp.of_below HB2.out) ?_⟩
          clear hK K
          refine mixO_cons (lq := []) ?_ rfl
          refine wpQuiet_nil ?_
          intro K hK
          go_wp2
          have hb3 := below_alloc w2 (.cells #[.int .i64 x, .slice av lv cv] 27)
          refine ⟨rfl, hK _ _ (Kp.of_below (HB2.out.trans (hb3.mono HB2.out.size))) ?_⟩
          clear hK K
          have HO3 := hid (HO2.out.up hb3)
          have HCE := hid (cells_two w2 x (.slice av lv cv) 27)
          have HBB : Hid (Below W.heap.size W W.drew) := HDr
          clear hb3
          refine mixO_cons (lq := []) ?_ rfl
          refine wpQuiet_nil ?_
          intro K hK
          go_wp2_with (at_builtin; go_must (refine wpList_append_own _ rfl (.tmp 25) (.tmp 27) 25 rfl W.drew.heap.size 27 ii (.agg #[.int .i64 0, .slice none 0 0]) 2 32 Try.underlying25 hii hz0 hz1 hz2 rfl (by decide) _ _ _ rfl HO3.out.1 ⟨_, 0, none⟩ 1 1 [.int .i64 x, .slice av lv cv] rfl rfl HCE.out (by intro u hu; simp at hu; rcases hu with rfl | rfl <;> rfl) (by unfold maxLen; omega) (by omega) (by have := HO3.out.2.size; omega) ?_; intro v1 w4 ho4 hg4 _; have HO4 := hid ho4; have HG4 := hid hg4; clear ho4 hg4))
          have O4 : Hid (OwnS W.drew w4 v1 (c.length + 1) (tak N (c ++ [i + j])) (tak V (c ++ [i + j]))) := HO3.out.pushG HO4.out HG4.out (fun jj hjj => ⟨tak_old _ _ _ _ hjj, tak_old _ _ _ _ hjj⟩) (by rw [tak_new]; exact HXx.out) (by rw [tak_new]; exact HVe.out)
          have HB4 : Hid (Below W.heap.size W w4) := HBB.out.trans (O4.out.2.mono HBB.out.size)
          refine ⟨rfl, hK _ _ (Kp.of_below HB4.out) ?_⟩
          clear hK K
          refine mixO_cons (lq := []) ?_ rfl
          refine wpQuiet_nil ?_
          intro K hK
          go_wp2_with fail
          refine Calls.mono (HIH.out (c ++ [i + j]) (i + j + 1) w4 v1 _ sj (by rw [List.length_append]; simp; omega) (HRc.out.push (Nat.le_add_right i j)) (by omega) (IW.out.up HB4.out) (EW.out.keep (Kp.of_below HB4.out)) (Cho.of_own O4.out (Nat.le_trans (Nat.le_of_lt (by omega : bb + 2 < wr.heap.size + 1)) (Nat.le_trans HWs.out HBB.out.size))) HRt.out) ?_
          rintro e w5 ⟨rfl, h5, k5⟩
          have H5 := hid h5
          have K5 := hid ((Kp.of_below (b1 := bb) (b2 := bb + 1) HB4.out).trans k5)
          clear h5 k5
          go_wp2
          refine ⟨rfl, hK _ _ K5.out ?_⟩
          clear hK K
          refine mixO_nil (lq := []) ?_ rfl
          refine wpQuiet_nil ?_
          go_wp2
          go_roundw
          case rel =>
            refine ⟨j + 1, _, by omega, by go_num, H5, KW.out.trans K5.out, ?_⟩
            have hf := Fj.out
            rw [show k - j = (k - (j + 1)) + 1 by omega, fold_next] at hf
            rw [show n - (i + j + 1) = k - (j + 1) by omega]
            exact hf
          case measure => simp only [intOf]; omega
        · intro K hK
          go_wp2
          have hbn := below_alloc W (.cells #[.int .i64 x, .slice av lv cv] 27)
          have HBB : Hid (Below W.heap.size W (W.alloc (.cells #[.int .i64 x, .slice av lv cv] 27)).drew) := hbn.trans ⟨rfl, rfl, rfl, Nat.le_refl _, fun _ _ => rfl⟩
          refine ⟨rfl, hK _ _ (Kp.of_below HBB.out) ?_⟩
          clear hK K
          have HCn : Hid (∀ jj u, ([.int .i64 x, .slice av lv cv] : List Value)[jj]? = some u → (W.alloc (.cells #[.int .i64 x, .slice av lv cv] 27)).drew.cell? (Addr.add ⟨W.heap.size, 0, none⟩ jj) = some u) := cells_two W x (.slice av lv cv) 27
          have hsn : W.heap.size < (W.alloc (.cells #[.int .i64 x, .slice av lv cv] 27)).drew.heap.size := by show W.heap.size < (W.alloc (.cells #[.int .i64 x, .slice av lv cv] 27)).heap.size; simp
          generalize (W.alloc (.cells #[.int .i64 x, .slice av lv cv] 27)).drew = wA at *
          refine mixO_cons (lq := []) ?_ rfl
          refine wpQuiet_nil ?_
          intro K hK
          go_wp2_with fail
          refine Calls.mono (clone_cho (n := n) (L := L) (X := X) (CW.out.keep (Kp.of_below (b1 := bb) (b2 := bb + 1) HBB.out) (by omega) (by omega)) (HRc.out.wide hi) (by omega) (HL.out.lists (IW.out.up HBB.out).below)) ?_
          rintro e w3 ⟨v', rfl, ho2⟩
          have HO3 := hid ho2
          have HCE : Hid (∀ jj u, ([.int .i64 x, .slice av lv cv] : List Value)[jj]? = some u → w3.cell? (Addr.add ⟨W.heap.size, 0, none⟩ jj) = some u) := fun jj u hj => by
            rw [Addr.add_lit, ho2.2.cell (show W.heap.size < _ from hsn), ← Addr.add_lit]
            exact HCn.out jj u hj
          have HB3 : Hid (Below W.heap.size W w3) := HBB.out.trans (ho2.2.mono HBB.out.size)
          clear ho2
          go_wp2
          refine ⟨rfl, hK _ _ (Kp.of_below HB3.out) ?_⟩
          clear hK K
          refine mixO_cons (lq := []) ?_ rfl
          refine wpQuiet_nil ?_
          intro K hK
          go_wp2_with (at_builtin; go_must (refine wpList_append_own _ rfl (.tmp 25) (.tmp 27) 25 rfl wA.heap.size 27 ii (.agg #[.int .i64 0, .slice none 0 0]) 2 32 Try.underlying25 hii hz0 hz1 hz2 rfl (by decide) _ _ _ rfl HO3.out.1 ⟨_, 0, none⟩ 1 1 [.int .i64 x, .slice av lv cv] rfl rfl HCE.out (by intro u hu; simp at hu; rcases hu with rfl | rfl <;> rfl) (by unfold maxLen; omega) (by omega) (by have := HO3.out.2.size; omega) ?_; intro v1 w4 ho4 hg4 _; have HO4 := hid ho4; have HG4 := hid hg4; clear ho4 hg4))
          have O4 : Hid (OwnS wA w4 v1 (c.length + 1) (tak N (c ++ [i + j])) (tak V (c ++ [i + j]))) := HO3.out.pushG HO4.out HG4.out (fun jj hjj => ⟨tak_old _ _ _ _ hjj, tak_old _ _ _ _ hjj⟩) (by rw [tak_new]; exact HXx.out) (by rw [tak_new]; exact HVe.out)
          have HB4 : Hid (Below W.heap.size W w4) := HBB.out.trans (O4.out.2.mono HBB.out.size)
          refine ⟨rfl, hK _ _ (Kp.of_below HB4.out) ?_⟩
          clear hK K
          refine mixO_cons (lq := []) ?_ rfl
          refine wpQuiet_nil ?_
          intro K hK
          go_wp2_with fail
          refine Calls.mono (HIH.out (c ++ [i + j]) (i + j + 1) w4 v1 _ sj (by rw [List.length_append]; simp; omega) (HRc.out.push (Nat.le_add_right i j)) (by omega) (IW.out.up HB4.out) (EW.out.keep (Kp.of_below HB4.out)) (Cho.of_own O4.out (Nat.le_trans (Nat.le_of_lt (by omega : bb + 2 < wr.heap.size + 1)) (Nat.le_trans HWs.out HBB.out.size))) HRt.out) ?_
          rintro e w5 ⟨rfl, h5, k5⟩
          have H5 := hid h5
          have K5 := hid ((Kp.of_below (b1 := bb) (b2 := bb + 1) HB4.out).trans k5)
          clear h5 k5
          go_wp2
          refine ⟨rfl, hK _ _ K5.out ?_⟩
          clear hK K
          refine mixO_nil (lq := []) ?_ rfl
          refine wpQuiet_nil ?_
          go_wp2
          go_roundw
          case rel =>
            refine ⟨j + 1, _, by omega, by go_num, H5, KW.out.trans K5.out, ?_⟩
            have hf := Fj.out
            rw [show k - j = (k - (j + 1)) + 1 by omega, fold_next] at hf
            rw [show n - (i + j + 1) = k - (j + 1) by omega]
            exact hf
          case measure => simp only [intOf]; omega
      · have hje : j = k := by omega
        subst hje
        have hfin := Fj.out
        rw [Nat.sub_self, fold_none] at hfin
        have HFin := hid hfin
        clear hfin
        go_wp2
        go_end0
        exact ⟨rfl, by rw [← HFin.out]; exact Ij.out, Kj.out⟩

end

end Go.Proofs.Ytfcpmpcfbhkacaa
