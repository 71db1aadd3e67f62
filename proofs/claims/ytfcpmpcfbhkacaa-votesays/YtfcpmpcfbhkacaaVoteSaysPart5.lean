/- Several texts of one proof, in their order. -/
import Derived.Test.YtfcpmpcfbhkacaaVoteSaysPart4

/- What chapter 4's reference elects. -/
namespace Go.Proofs.Ytfcpmpcfbhkacaa

open Go.RowKit CurveMath
set_option linter.unusedVariables false

theorem bit_test : ∀ k : Nat, k < 257 → ∀ i : Nat, i < 8 → (bits BinOp.and IntKind.i64 ((k : Int) / 2 ^ i) 1 == 1) = k.testBit i := by decide +kernel

theorem own_form {w : World} {base : Nat} {e : TypeId} {v : Value} {n : Nat} {xs : List Value} (h : w.ownsRow base e 1 v n xs) : ∃ a c, v = .slice a n c := by
  obtain ⟨_, h2⟩ := h
  rcases h2 with ⟨h1, h0⟩ | ⟨g, cap, cur, h1, _⟩
  · exact ⟨none, 0, by rw [h0]; exact h1⟩
  · exact ⟨_, _, h1⟩

theorem cells_one (w : World) (v : Value) (T : TypeId) : ∀ j u, ([v] : List Value)[j]? = some u → (w.alloc (.cells #[v] T)).cell? (Addr.add ⟨w.heap.size, 0, none⟩ j) = some u := by
  intro j u hj
  rw [Addr.add_lit]
  match j, hj with
  | 0, hj => simp at hj; subst hj; exact cell_at (heap_alloc_new _ _) rfl

/-- a vote that is written number by number, in a block of its own -/
structure BkV (w0 wr : World) (x vs : Value) (l : List Int) : Prop where
  below : Below w0.heap.size w0 wr
  c : wr.heap[w0.heap.size]? = some (.cells #[x, vs] 78 (0, 0))
  own : wr.ownsRow (w0.heap.size + 1) 3 1 vs l.length (l.map (Value.int .i64))

section

variable {w0 wr w1 : World} {x vs v1 : Value} {y : Int} {l : List Int} {o : Obj}

theorem BkV.new (w0 : World) (x : Value) : BkV w0 (w0.alloc (.cells #[x, .slice none 0 0] 78)) x (.slice none 0 0) [] :=
  ⟨below_alloc _ _, heap_alloc_new _ _, World.ownsRow_nil _ _ _ _⟩

theorem BkV.lt (h : BkV w0 wr x vs l) : w0.heap.size < wr.heap.size := (Array.getElem?_eq_some_iff.1 h.c).1

theorem BkV.mid (h : BkV w0 wr x vs l) (hg : (wr.alloc o).grownBy w1 vs.ownBlock) : w1.heap[w0.heap.size]? = some (.cells #[x, vs] 78 (0, 0)) := by
  have hlt := h.lt
  rw [hg.block w0.heap.size (by simp; omega) (fun e => by have := (h.own.lt _ e.symm).1; omega), Below.heap_alloc _ _ _ hlt]
  exact h.c

theorem BkV.push (h : BkV w0 wr x vs l) (hg : (wr.alloc o).grownBy w1 vs.ownBlock) (ho : w1.ownsRow (w0.heap.size + 1) 3 1 v1 (l.length + 1) (l.map (Value.int .i64) ++ [.int .i64 y])) : BkV w0 (w1.setCell ⟨w0.heap.size, 1, none⟩ v1) x v1 (l ++ [y]) := by
  have hlt := h.lt
  have hm := h.mid hg
  have hbA : Below w0.heap.size w0 (wr.alloc o) := h.below.alloc h.below.size o
  refine ⟨(hbA.grown hg hbA.size (fun k hk => by have := (h.own.lt k hk).1; omega)).setCell (p := ⟨w0.heap.size, 1, none⟩) (Nat.le_refl _) _, ?_, ?_⟩
  · simp [World.setCell, Array.getElem?_modify, hm]
  · rw [List.length_append, List.map_append]
    exact ownsRow_setCell_below ho (a := ⟨w0.heap.size, 1, none⟩) (Nat.lt_succ_self _) _

theorem BkV.up {w' : World} (h : BkV w0 wr x vs l) (hb : Below wr.heap.size wr w') : BkV w0 w' x vs l :=
  ⟨h.below.trans (hb.mono h.below.size), by rw [hb.block _ h.lt]; exact h.c, owns_below h.own hb⟩

end

/-- the best vote so far -/
def EBest (base : Nat) (wr : World) (d s R n : Nat) (N : Nat → Int) (X : Nat → Nat → Int) (st : Option (List Nat)) (vb : Value) : Prop :=
  (st = none ∧ vb = .pointer none) ∨
  ∃ c bq vd vo, st = some c ∧ vb = .pointer (some ⟨bq, 0, none⟩) ∧ wr.heap[bq]? = some (.cells #[vd, vo] 78 (0, 0)) ∧ IntSl wr wr.heap.size vd s (conD d N X c) ∧ wr.ownsRow base 3 1 vo (badL d s R n N X (conD d N X c)).length ((badL d s R n N X (conD d N X c)).map (Value.int .i64)) ∧ Off vo vd ∧ vo.ownBlock ≠ some bq

theorem EBest.up {base : Nat} {wr w' : World} {d s R n : Nat} {N : Nat → Int} {X : Nat → Nat → Int} {st : Option (List Nat)} {vb : Value} (h : EBest base wr d s R n N X st vb) (hb : Below wr.heap.size wr w') : EBest base w' d s R n N X st vb := by
  rcases h with h | ⟨c, bq, vd, vo, h1, h2, h3, h4, h5, h6, h7⟩
  · exact Or.inl h
  · exact Or.inr ⟨c, bq, vd, vo, h1, h2, by rw [hb.block bq (Array.getElem?_eq_some_iff.1 h3).1]; exact h3, h4.up hb, owns_below h5 hb, h6, h7⟩

theorem pow_small : ∀ n, n ≤ 8 → wrap64 ((2 : Int) ^ n) = ((2 ^ n : Nat) : Int) := by decide +kernel

set_option maxHeartbeats 8000000 in
set_option maxRecDepth 10000 in
theorem elect_any (nd of sz : Int) (v : Value) (n : Nat) (N : Nat → Int) (V : Nat → Value) (L : Nat → Nat) (X : Nat → Nat → Int) (w : World) (h : ShSl w w.heap.size v n N V L X) :
    Calls Try.prog 31 #[planV nd of sz, v] w (MostPost w nd of sz n N L X) := by
  have hbx := below_alloc w (.cells #[.int .i64 nd, .int .i64 of, .int .i64 sz] 23)
  have HCs := hid (checkShares_any nd of sz v n N V L X _ (h.up hbx))
  have HSl := hid h
  have HBx := hid hbx
  obtain ⟨ad, cap, rfl, ⟨hcap, hbig⟩, hx⟩ := h
  clear hbx
  by_cases hc : checksE nd of sz n N L X = 0
  · rw [hc] at HCs
    obtain ⟨d, m, s, R, rfl, rfl, rfl, hS⟩ := checks_ok hc
    have HS := hid hS
    have HC := hid hc
    obtain ⟨a1, a2, a3⟩ := planOk_spec hS.plan
    have hle := hS.le
    have hn8 := hle.2
    have hRb := rowsN_bd a1 a3
    rw [hS.rows] at hRb
    have hRR : 1 ≤ R ∧ R ≤ 24 := by omega
    rcases hx with h0 | ⟨bl, ol, rfl, hbl, hx⟩
    · omega
    have HX := hid hx
    obtain ⟨ii, hii, hzz0, hzz1, hzz2⟩ := info_parts Try.infoInt
    obtain ⟨ji, hji, hyy0, hyy1, hyy2⟩ := info_parts Try.infoInts
    obtain ⟨is, his, hsz0, hsz1, hsz2⟩ := info_parts Try.infoShare
    clear hc hS hx hRb
    unfold planV
    go_enter Try.func31, Try.ntmps31
    go_wp2_with fail
    refine HCs.out.mono ?_
    rintro e w1 ⟨rfl, hb1⟩
    have p0 : w1.cell? ⟨w.heap.size, 0, none⟩ = some (.int .i64 (d : Int)) := by rw [hb1.cell (by simp)]; exact cell_at (heap_alloc_new _ _) rfl
    have p1 : w1.cell? ⟨w.heap.size, 1, none⟩ = some (.int .i64 (m : Int)) := by rw [hb1.cell (by simp)]; exact cell_at (heap_alloc_new _ _) rfl
    have p2 : w1.cell? ⟨w.heap.size, 2, none⟩ = some (.int .i64 (s : Int)) := by rw [hb1.cell (by simp)]; exact cell_at (heap_alloc_new _ _) rfl
    have KP : Hid (∀ w', Below w1.heap.size w1 w' → w'.cell? ⟨w.heap.size, 0, none⟩ = some (.int .i64 (d : Int)) ∧ w'.cell? ⟨w.heap.size, 1, none⟩ = some (.int .i64 (m : Int)) ∧ w'.cell? ⟨w.heap.size, 2, none⟩ = some (.int .i64 (s : Int))) := fun w' hb' =>
      ⟨by rw [hb'.cell (cell_lt p0)]; exact p0, by rw [hb'.cell (cell_lt p1)]; exact p1, by rw [hb'.cell (cell_lt p2)]; exact p2⟩
    have HB1 := hid (HBx.out.trans (hb1.mono HBx.out.size))
    clear hb1 p0 p1 p2 HCs
    have hpw : 2 ^ n ≤ 256 := Nat.pow_le_pow_right (by decide) hn8
    have hpi : wrap64 ((2 : Int) ^ n) = ((2 ^ n : Nat) : Int) := pow_small n hn8
    go_wp2
    simp only [hpi]
    obtain ⟨T, hT⟩ : ∃ T, 2 ^ n = T := ⟨_, rfl⟩
    have HT := hid hT
    rw [hT] at hpw
    simp only [hT]
    clear hpi hT
    go_loopw [9, 32] (fun vp iv wr => ∃ (k : Nat) (pv : Nat → Value), k ≤ T ∧ iv = .int .i64 k ∧ Hid (PInv w1 wr d vp (setsL d n k) pv)) (fun _ iv _ => T - (intOf iv).toNat)
    case atStart => exact ⟨0, fun _ => .slice none 0 0, Nat.zero_le _, rfl, PInv.nil _ _ _⟩
    case round =>
      obtain ⟨k, pv, hk, rfl, PI⟩ := hrel
      obtain ⟨w0, hw0⟩ : ∃ w0, w0 = wr := ⟨_, rfl⟩
      subst hw0
      by_cases hlt : k < T
      · have hki : (k : Int) < (T : Int) := by omega
        go_wp2
        go_loopw [11, 37] (fun va iv wz => ∃ i : Nat, i ≤ n ∧ iv = .int .i64 i ∧ Hid (OwnL w0 wz va ((bitsL i k).map fun (x : Nat) => (x : Int)))) (fun _ iv _ => n - (intOf iv).toNat)
        case atStart => exact ⟨0, Nat.zero_le _, rfl, OwnL.nil _⟩
        case round =>
          obtain ⟨i, hi, rfl, OA⟩ := hrel
          by_cases hin : i < n
          · have hini : (i : Int) < (n : Int) := by omega
            have hbt := bit_test k (by omega) i (by omega)
            have hsc := bitsL_succ i k
            have hll : ((bitsL i k).map fun (x : Nat) => (x : Int)).length ≤ 8 := by rw [List.length_map]; have := bitsL_len i k; omega
            have hw0l := OA.out.2.size
            cases htb : k.testBit i with
            | true =>
              rw [htb] at hbt
              rw [htb, if_pos rfl] at hsc
              have HSc := hid hsc
              clear hsc htb
              go_wp2_with (at_builtin; go_must (refine wpList_append_own _ rfl (.tmp 45) (.tmp 47) 24 rfl w0.heap.size 3 ii (.int .i64 0) 1 8 Try.underlying24 hii hzz0 hzz1 hzz2 rfl (by decide) _ _ _ rfl (World.ownsRow.alloc OA.out.1 _) ⟨_, 0, none⟩ 1 1 [.int .i64 (i : Int)] rfl rfl (newCell _ _ _) (oneCell _) (by unfold maxLen; omega) (by omega) (by simp; omega) ?_; intro v1 w6 ho6 hg6 _; have O6 := hid (OA.out.push ho6 hg6); clear ho6 hg6))
              go_roundw
              case rel =>
                refine ⟨i + 1, by omega, by go_num, ?_⟩
                rw [HSc.out, List.map_append]
                exact O6.out
              case measure => simp only [intOf]; omega
            | false =>
              rw [htb] at hbt
              rw [htb, if_neg (by decide), List.append_nil] at hsc
              have HSc := hid hsc
              clear hsc htb
              go_wp2
              go_roundw
              case rel =>
                refine ⟨i + 1, by omega, by go_num, ?_⟩
                rw [HSc.out]
                exact OA.out
              case measure => simp only [intOf]; omega
          · have hie : n = i := by omega
            subst hie
            obtain ⟨q0, q1, q2⟩ := KP.out wr (PI.out.below.trans (OA.out.2.mono PI.out.below.size))
            obtain ⟨ava, cva, hva⟩ := own_form OA.out.1
            rw [List.length_map] at hva
            subst hva
            have hsc := setsL_succ d n k
            have hsl : (setsL d n k).length ≤ k := by
              unfold setsL
              refine Nat.le_trans (List.length_filter_le _ _) ?_
              simp
            by_cases hdl : (bitsL n k).length = d
            · rw [if_pos hdl] at hsc
              have HSc := hid hsc
              have HDl := hid hdl
              rw [hdl]
              have hva1 : OwnL w0 wr (.slice ava d cva) ((bitsL n k).map fun (x : Nat) => (x : Int)) := by have := OA.out; rw [hdl] at this; exact this
              have HVa := hid hva1
              have PIw := hid (PI.out.up OA.out.2)
              have hsz1 := PIw.out.below.size
              clear hsc hdl hva1
              go_wp2_with (at_builtin; go_must (refine wpList_append_own_at _ rfl (.tmp 55) (.tmp 57) 74 rfl w1.heap.size 24 ji (.slice none 0 0) 1 24 Try.underlying74 hji hyy0 hyy1 hyy2 rfl (by decide) _ _ _ rfl (World.ownsRow.alloc PIw.out.own _) ⟨_, 0, none⟩ 1 1 [.slice ava d cva] rfl rfl (cells_one _ _ _) (by intro u hu; simp at hu; subst hu; rfl) (by unfold maxLen; omega) (by omega) (by simp; omega) ?_; intro v6 w6 ho6 hg6 _ hat6; have P6 := hid (PI.out.push ⟨by omega, by omega⟩ HDl.out HVa.out hg6 ho6 hat6); clear ho6 hg6 hat6))
              go_roundw
              case rel =>
                refine ⟨k + 1, fun j => if j = (setsL d n k).length then .slice ava d cva else pv j, by omega, by go_num, ?_⟩
                rw [HSc.out]
                exact P6.out
              case measure => simp only [intOf]; omega
            · rw [if_neg hdl, List.append_nil] at hsc
              have HSc := hid hsc
              have hdi : ¬ ((bitsL n k).length : Int) = (d : Int) := by omega
              have PIw := hid (PI.out.up OA.out.2)
              clear hsc
              go_wp2
              go_roundw
              case rel =>
                refine ⟨k + 1, pv, by omega, by go_num, ?_⟩
                rw [HSc.out]
                exact PIw.out
              case measure => simp only [intOf]; omega
      · have hke : T = k := by omega
        subst hke
        have hKd : ∃ t, comb d (List.range n) = t ∧ 1 ≤ t.length := by
          obtain ⟨t, ht⟩ := comb_range d 0 n hle.1
          exact ⟨_, rfl, by rw [List.range_eq_range', ht]; simp⟩
        have hperm := setsL_perm d n
        rw [HT.out] at hperm
        have hK1 : 1 ≤ (setsL d n T).length := by obtain ⟨t, e, h9⟩ := hKd; rw [hperm.length_eq, e]; exact h9
        have hK2 : (setsL d n T).length ≤ 1000 := by
          have : (setsL d n T).length ≤ T := by
            unfold setsL
            refine Nat.le_trans (List.length_filter_le _ _) ?_
            simp
          omega
        have hnd : (setsL d n T).Nodup := (hperm.nodup_iff).2 (by
          rw [List.range_eq_range', List.nodup_iff_pairwise_ne]
          exact (comb_sorted n d 0).imp fun h e => by rw [e, cmpL_self] at h; omega)
        have HSo := hid (sort_picks PI.out (by omega) hK1 hK2 (fun c hc => (setsL_good hc).2) hnd)
        clear hKd hperm hK1 hK2 hnd
        go_wp2_with fail
        refine HSo.out.mono ?_
        rintro e w2 ⟨rfl, hb2, l, gp, cp, qv, hlp, hls, hvp, hlc, hq⟩
        subst hvp
        have hT9 := HT.out
        rw [← hT9] at hlp
        have hl := sorted_comb hlp hls
        have HL := hid hl
        have HQ := hid hq
        have HB2 := hid hb2
        have hlb : l.length ≤ 1000 := by
          rw [hlp.length_eq]
          have : (setsL d n (2 ^ n)).length ≤ 2 ^ n := by
            unfold setsL
            refine Nat.le_trans (List.length_filter_le _ _) ?_
            simp
          omega
        have hgood : ∀ j, j < l.length → Rise n (l.getD j []) ∧ (l.getD j []).length = d := fun j hj => comb_good (by rw [← hl]; simp [List.getD_eq_getElem?_getD, hj])
        have HGd := hid hgood
        obtain ⟨ans, hans⟩ : ∃ ans, electV d s R n N X = ans := ⟨_, rfl⟩
        have HAns := hid hans
        have A0 : Hid (l.foldl (stepV d s R n N X) none = ans) := by rw [hl]; exact hans
        clear hlp hls hT9 hl hq hb2 HSo hgood hans
        go_wp2
        go_loopw [8, 64] (fun vb iv wr => ∃ (j : Nat) (st : Option (List Nat)), j ≤ l.length ∧ iv = .int .i64 j ∧ Hid (Below w2.heap.size w2 wr) ∧ Hid (EBest w2.heap.size wr d s R n N X st vb) ∧ Hid ((l.drop j).foldl (stepV d s R n N X) st = ans)) (fun _ iv _ => l.length - (intOf iv).toNat)
        case atStart => exact ⟨0, none, Nat.zero_le _, rfl, Below.refl _ _, Or.inl ⟨rfl, rfl⟩, A0⟩
        case round =>
          obtain ⟨j, st, hj, rfl, HQB, EB, HF⟩ := hrel
          obtain ⟨w0, hw0⟩ : ∃ w0, w0 = wr := ⟨_, rfl⟩
          subst hw0
          by_cases hjl : j < l.length
          · have hji : (j : Int) < (l.length : Int) := by omega
            obtain ⟨hcR, hcl⟩ := HGd.out j hjl
            obtain ⟨q1, q2⟩ := HQ.out j hjl
            obtain ⟨c, hcc⟩ : ∃ c, l.getD j [] = c := ⟨_, rfl⟩
            rw [hcc] at hcR hcl q2
            have hnext : (l.drop (j + 1)).foldl (stepV d s R n N X) (stepV d s R n N X st c) = ans := by
              have h9 := HF.out
              rw [List.drop_eq_getElem_cons hjl, List.foldl_cons] at h9
              have e9 : l[j] = c := by rw [← hcc]; simp [List.getD_eq_getElem?_getD, hjl]
              rw [e9] at h9
              exact h9
            have HNx := hid hnext
            have HCr := hid hcR
            have HCl := hid hcl
            have q1' : w0.cell? ⟨gp, j, none⟩ = some (qv j) := by rw [HQB.out.cell (cell_lt q1)]; exact q1
            have HQ2 := hid (q2.up HQB.out)
            obtain ⟨aq, cq, hqe, _, hqc⟩ := q2.up HQB.out
            rw [hqe] at q1'
            rcases hqc with h0 | ⟨bq, oq, rfl, hbq, hqc⟩
            · omega
            have HQc := hid hqc
            have HB10 := hid (HB2.out.trans (HQB.out.mono HB2.out.size))
            have HBw0 := hid (HB1.out.trans (HB10.out.mono HB1.out.size))
            clear hcR hcl q1 q2 hqe hqc hnext hcc
            go_wp2
            go_loopw [15, 70] (fun vs iv wz => ∃ i : Nat, i ≤ d ∧ iv = .int .i64 i ∧ Hid (OwnS w0 wz vs i (tak N c) (tak V c))) (fun _ iv _ => d - (intOf iv).toNat)
            case atStart => exact ⟨0, Nat.zero_le _, rfl, OwnS.nil _ _ _⟩
            case round =>
              obtain ⟨i, hi, rfl, OS⟩ := hrel
              by_cases hid' : i < d
              · have hidi : (i : Int) < (d : Int) := by omega
                have ec : wr.cell? ⟨bq, oq + i, none⟩ = some (.int .i64 ((c.getD i 0 : Nat) : Int)) := by rw [OS.out.2.cell hbq]; exact HQc.out i hid'
                have hcn : c.getD i 0 < n := HCr.out.lt (by rw [HCl.out]; exact hid')
                obtain ⟨q, hq9⟩ : ∃ q, c.getD i 0 = q := ⟨_, rfl⟩
                rw [hq9] at ec hcn
                have HQq := hid hq9
                have hqi : (q : Int) < (n : Int) := by omega
                obtain ⟨x1, x2, x3⟩ := HX.out q hcn
                have HBwr := hid (HBw0.out.trans (OS.out.2.mono HBw0.out.size))
                obtain ⟨av, cv, hve, _, _⟩ := x3
                obtain ⟨x, hxx⟩ : ∃ x, N q = x := ⟨_, rfl⟩
                rw [hxx] at x1
                have g1 : wr.cell? ⟨bl, ol + q * 2, none⟩ = some (.int .i64 x) := by rw [HBwr.out.cell hbl]; exact x1
                have g2 : wr.cell? ⟨bl, ol + q * 2 + 1, none⟩ = some (.slice av (L q) cv) := by rw [HBwr.out.cell hbl, x2, hve]
                have HVe := hid hve
                have HXx := hid hxx
                have hos := OS.out.2.size
                clear hq9 x1 x2 hve hxx
                go_wp2_with (at_builtin; go_must (refine wpList_append_own _ rfl (.tmp 74) (.tmp 79) 25 rfl w0.heap.size 27 is (.agg #[.int .i64 0, .slice none 0 0]) 2 32 Try.underlying25 his hsz0 hsz1 hsz2 rfl (by decide) _ _ _ rfl (World.ownsRow.alloc OS.out.1 _) ⟨_, 0, none⟩ 1 1 [.int .i64 x, .slice av (L q) cv] rfl rfl (cells_two _ _ _ _) (by intro u hu; simp at hu; rcases hu with rfl | rfl <;> rfl) (by unfold maxLen; omega) (by omega) (by simp; omega) ?_; intro v6 w6 ho6 hg6 _; have O6 : Hid (OwnS w0 w6 v6 (i + 1) (tak N c) (tak V c)) := (OS.out.pushS ho6 hg6 (fun jj hjj => ⟨rfl, rfl⟩) (by show N (c.getD i 0) = x; rw [HQq.out]; exact HXx.out) (by show V (c.getD i 0) = _; rw [HQq.out]; exact HVe.out)); clear ho6 hg6))
                go_roundw
                case rel => exact ⟨i + 1, by omega, by go_num, O6⟩
                case measure => simp only [intOf]; omega
              · have hie : d = i := by omega
                subst hie
                obtain ⟨asv, csv, hsv⟩ := OS.out.shape
                subst hsv
                have HB1r := hid (HB10.out.trans (OS.out.2.mono HB10.out.size))
                have HBwr := hid (HB1.out.trans (HB1r.out.mono HB1.out.size))
                obtain ⟨p0, p1, p2⟩ := KP.out wr HB1r.out
                have hSt := HS.out.take HCr.out HCl.out
                have hshl : ShSl wr wr.heap.size (.slice asv d csv) d (tak N c) (tak V c) (tak L c) (tak X c) := OS.out.shl (by omega) (fun jj hjj => HSl.out.lists HBwr.out _ (HCr.out.lt (by rw [HCl.out]; exact hjj)))
                have HMd := hid (made_any d m s d asv csv (tak N c) (tak V c) (tak L c) (tak X c) wr hSt.plan hSt.rows (Nat.le_refl _) (fun jj hjj => hSt.len jj hjj) hSt.good hshl)
                clear hSt hshl
                go_wp2_with fail
                refine Calls.mono HMd.out ?_
                rintro e w3 ⟨hb3, hmd⟩
                have HB3 := hid (OS.out.2.trans (hb3.mono OS.out.2.size))
                clear p0 p1 p2 HMd hb3
                rcases hmd with ⟨hm, vd, rfl, hvd⟩ | ⟨hm, rfl⟩
                · have HM : Hid (mkB d s R N X c = true) := hm
                  have HVd : Hid (IntSl w3 w3.heap.size vd s (conD d N X c)) := hvd
                  obtain ⟨avd, cvd, hve, _, _⟩ := hvd
                  subst hve
                  clear hm
                  go_wp2
                  go_loopw [94] (fun iv wz => ∃ (i : Nat) (vs : Value), i ≤ n ∧ iv = .int .i64 i ∧ Hid (BkV w3 wz (.slice avd s cvd) vs (badL d s R i N X (conD d N X c)))) (fun iv _ => n - (intOf iv).toNat)
                  case atStart => exact ⟨0, _, Nat.zero_le _, rfl, BkV.new _ _⟩
                  case round =>
                    obtain ⟨i, vs, hi, rfl, BK⟩ := hrel
                    have HB13 := hid (HB10.out.trans ((HB3.out.trans (BK.out.below.mono HB3.out.size)).mono HB10.out.size))
                    have HBw3 := hid (HB1.out.trans (HB13.out.mono HB1.out.size))
                    obtain ⟨avs, cvs, hvs⟩ := own_form BK.out.own
                    subst hvs
                    by_cases hin : i < n
                    · have hini : (i : Int) < (n : Int) := by omega
                      obtain ⟨x1, x2, x3⟩ := HX.out i hin
                      have HI3 : Hid (∀ w', Below w.heap.size w w' → IntSl w' w'.heap.size (V i) (L i) (X i)) := fun w' hb' => x3.up hb'
                      obtain ⟨av, cv, hve, _, _⟩ := x3
                      rw [hve] at HI3
                      obtain ⟨ν, hν⟩ : ∃ ν : Nat, N i = ν := ⟨(N i).toNat, by have := HS.out.who i hin; omega⟩
                      have hνb : ν ≤ 30 := by have := HS.out.who i hin; omega
                      have g1 : wr.cell? ⟨bl, ol + i * 2, none⟩ = some (.int .i64 (ν : Int)) := by rw [HBw3.out.cell hbl, ← hν]; exact x1
                      have g2 : wr.cell? ⟨bl, ol + i * 2 + 1, none⟩ = some (.slice av (L i) cv) := by rw [HBw3.out.cell hbl, x2, hve]
                      have HN := hid hν
                      clear x1 x2 hve hν
                      have hbA := below_alloc wr (.cells #[.int .i64 (ν : Int), .slice av (L i) cv] 27)
                      obtain ⟨W, hW⟩ : ∃ W, wr.alloc (.cells #[.int .i64 (ν : Int), .slice av (L i) cv] 27) = W := ⟨_, rfl⟩
                      rw [hW] at hbA
                      have s0 : W.cell? ⟨wr.heap.size, 0, none⟩ = some (.int .i64 (ν : Int)) := by rw [← hW]; exact cell_at (heap_alloc_new _ _) rfl
                      have s1 : W.cell? ⟨wr.heap.size, 1, none⟩ = some (.slice av (L i) cv) := by rw [← hW]; exact cell_at (heap_alloc_new _ _) rfl
                      have BKW := hid (BK.out.up hbA)
                      have HBwW := hid (HBw3.out.trans (hbA.mono HBw3.out.size))
                      have HB1W := hid (HB13.out.trans (hbA.mono HB13.out.size))
                      have hne : Nonempty (Of (Below W.heap.size W)) := ⟨⟨W, Below.refl _ _⟩⟩
                      have K2 : ∀ u : Of (Below W.heap.size W), Below w1.heap.size w1 u.val := fun u => HB1W.out.trans (u.is.mono HB1W.out.size)
                      have F0 : ∀ u : Of (Below W.heap.size W), u.val.cell? ⟨w.heap.size, 0, none⟩ = some (.int .i64 (d : Int)) := fun u => (KP.out u.val (K2 u)).1
                      have F1 : ∀ u : Of (Below W.heap.size W), u.val.cell? ⟨w.heap.size, 1, none⟩ = some (.int .i64 (m : Int)) := fun u => (KP.out u.val (K2 u)).2.1
                      have F2 : ∀ u : Of (Below W.heap.size W), u.val.cell? ⟨w.heap.size, 2, none⟩ = some (.int .i64 (s : Int)) := fun u => (KP.out u.val (K2 u)).2.2
                      have F3 : ∀ u : Of (Below W.heap.size W), u.val.cell? ⟨wr.heap.size, 0, none⟩ = some (.int .i64 (ν : Int)) := fun u => by rw [u.is.cell (cell_lt s0)]; exact s0
                      have F4 : ∀ u : Of (Below W.heap.size W), u.val.cell? ⟨wr.heap.size, 1, none⟩ = some (.slice av (L i) cv) := fun u => by rw [u.is.cell (cell_lt s1)]; exact s1
                      clear hbA K2
                      go_wp2_with fail
                      have HDr : Hid (Below W.heap.size W W.drew) := ⟨rfl, rfl, rfl, Nat.le_refl _, fun _ _ => rfl⟩
                      refine region_mixed (Below W.heap.size W) [([0, 1, 2, 3, 4], 5), ([], 6)] [7] (by kernel_rfl) (by kernel_rfl) HDr.out ?_
                      refine mixO_cons ?_
                      repeat (go_big_quiet_step (fail))
                      refine wpQuiet_nil ?_
                      intro K hK
                      go_wp2_with fail
                      refine Calls.mono (shareOf_any d m s (s : Int) avd cvd (conD d N X c) ν W.drew HS.out.plan (fun jj _ => by unfold conD joinD; exact crv_num _ _ _ _) (by omega) hνb HS.out.rows ((HVd.out.up BKW.out.below).up HDr.out)) ?_
                      rintro e w5 ⟨Vn, rfl, hvn, hb5, _⟩
                      have HB5 := hid (HDr.out.trans (hb5.mono HDr.out.size))
                      have HVn := hid hvn
                      clear hb5 hvn
                      unfold shareV
                      go_wp2
                      refine ⟨rfl, hK _ _ HB5.out ?_⟩
                      clear hK K
                      refine mixO_cons (lq := []) ?_ rfl
                      refine wpQuiet_nil ?_
                      intro K hK
                      go_wp2_with fail
                      refine Calls.mono (sameShare_any (ν : Int) (ν : Int) _ _ (L i) R (X i) _ w5 (HI3.out w5 (HBwW.out.trans (HB5.out.mono HBwW.out.size))) HVn.out) ?_
                      rintro e w6 ⟨rfl, hb6⟩
                      have HB6 := hid (HB5.out.trans (hb6.mono HB5.out.size))
                      have hsm := sameB_al HS.out (conD d N X c) i ν hin HN.out
                      rw [HN.out] at hsm
                      rw [hsm]
                      have BK6 := hid (BKW.out.up HB6.out)
                      have hll := badL_len d s R i N X (conD d N X c)
                      have hsc := badL_succ d s R i N X (conD d N X c)
                      rw [HN.out] at hsc
                      have HSc := hid hsc
                      clear hb6 hsm hsc
                      cases hdj : alB d s R N X (conD d N X c) i with
                      | true =>
                        go_wp2
                        refine ⟨rfl, hK _ _ HB6.out ?_⟩
                        clear hK K
                        refine mixO_nil ?_
                        repeat (go_big_quiet_step (fail))
                        refine wpQuiet_nil ?_
                        go_wp2
                        go_roundw
                        case rel =>
                          refine ⟨i + 1, .slice avs (badL d s R i N X (conD d N X c)).length cvs, by omega, by go_num, ?_⟩
                          have h9 := HSc.out
                          rw [if_pos hdj, List.append_nil] at h9
                          rw [h9]
                          exact BK6.out
                        case measure => simp only [intOf]; omega
                      | false =>
                        go_wp2
                        refine ⟨rfl, hK _ _ HB6.out ?_⟩
                        clear hK K
                        refine mixO_nil ?_
                        repeat (go_big_quiet_step (fail))
                        refine wpQuiet_nil ?_
                        have s6 : w6.cell? ⟨wr.heap.size, 0, none⟩ = some (.int .i64 (ν : Int)) := by rw [HB6.out.cell (cell_lt s0)]; exact s0
                        have b6 : w6.cell? ⟨w3.heap.size, 1, none⟩ = some (.slice avs (badL d s R i N X (conD d N X c)).length cvs) := cell_at BK6.out.c rfl
                        have l6 := BK6.out.lt
                        clear F0 F1 F2 F3 F4 hne
                        go_wp2_with (at_builtin; go_must (refine wpList_append_own _ rfl (.tmp 107) (.tmp 110) 24 rfl (w3.heap.size + 1) 3 ii (.int .i64 0) 1 8 Try.underlying24 hii hzz0 hzz1 hzz2 rfl (by decide) _ _ _ rfl (World.ownsRow.alloc BK6.out.own _) ⟨_, 0, none⟩ 1 1 [.int .i64 (ν : Int)] rfl rfl (newCell _ _ _) (oneCell _) (by unfold maxLen; omega) (by omega) (by simp; omega) ?_; intro v7 w7 ho7 hg7 _; obtain ⟨a7, c7, hs7⟩ := own_form ho7; subst hs7; have B7 := hid (BK6.out.push hg7 ho7); have m1 : w7.cell? ⟨w3.heap.size, 1, none⟩ = some (.slice avs (badL d s R i N X (conD d N X c)).length cvs) := cell_at (BK6.out.mid hg7) rfl; have m2 : w7.frozen? ⟨w3.heap.size, 1, none⟩ = false := frozen_at (BK6.out.mid hg7); clear ho7 hg7))
                        go_roundw
                        case rel =>
                          refine ⟨i + 1, .slice a7 ((badL d s R i N X (conD d N X c)).length + 1) c7, by omega, by go_num, ?_⟩
                          have h9 := HSc.out
                          rw [if_neg (by rw [hdj]; decide)] at h9
                          rw [h9]
                          exact B7.out
                        case measure => simp only [intOf]; omega
                    · have hie : n = i := by omega
                      subst hie
                      have b1 : wr.cell? ⟨w3.heap.size, 1, none⟩ = some (.slice avs (badL d s R n N X (conD d N X c)).length cvs) := cell_at BK.out.c rfl
                      have HB0r := hid (HB3.out.trans (BK.out.below.mono HB3.out.size))
                      have EBr := EB.out.up HB0r.out
                      have HNew : Hid (EBest w2.heap.size wr d s R n N X (some c) (.pointer (some ⟨w3.heap.size, 0, none⟩))) := by
                        have hs1 : 1 ≤ s := by omega
                        refine Or.inr ⟨c, w3.heap.size, _, _, rfl, rfl, BK.out.c, HVd.out.up BK.out.below, owns_base BK.out.own (by have := HQB.out.size; have := HB3.out.size; omega), fun ad1 nn cc e e2 => ?_, fun e => ?_⟩
                        · have h1 := (BK.out.own.lt ad1.block e2.symm).1
                          have h2 := HVd.out
                          rw [e] at h2
                          obtain ⟨ad2, cap2, e3, _, h3⟩ := h2
                          injection e3 with e4
                          rcases h3 with h3 | ⟨b9, off9, e5, h4, _⟩
                          · omega
                          · rw [← e4] at e5
                            injection e5 with e5
                            rw [e5] at h1
                            have h6 : w3.heap.size + 1 ≤ b9 := h1
                            omega
                        · have := (BK.out.own.lt _ e).1
                          omega
                      obtain ⟨lc, hlc9⟩ : ∃ lc, (badL d s R n N X (conD d N X c)).length = lc := ⟨_, rfl⟩
                      have HLc := hid hlc9
                      rw [hlc9] at b1
                      have hl8 : lc ≤ 8 := by have := badL_len d s R n N X (conD d N X c); omega
                      rcases EBr with ⟨hst, hvb⟩ | ⟨cb, bq2, vd2, vo2, hst, hvb, h3, h4, h5, h6, h7⟩
                      · subst hvb
                        have hs2 : stepV d s R n N X st c = some c := by unfold stepV; rw [if_pos HM.out, hst]
                        have HS2 := hid hs2
                        clear hst hs2 hlc9
                        go_wp2_with fail
                        go_quiet (fail)
                        go_wp2
                        go_roundw
                        case rel =>
                          have hdr : Below wr.heap.size wr (wr.drewN nq) := ⟨rfl, rfl, rfl, Nat.le_refl _, fun _ _ => rfl⟩
                          exact ⟨j + 1, some c, by omega, by go_num, HQB.out.trans ((HB0r.out.trans (hdr.mono HB0r.out.size)).mono HQB.out.size), HNew.out.up hdr, by have := HNx.out; rw [HS2.out] at this; exact this⟩
                        case measure => simp only [intOf]; omega
                      · subst hvb
                        obtain ⟨av2, cv2, hv2⟩ := own_form h5
                        subst hv2
                        have b2 : wr.cell? ⟨bq2, 1, none⟩ = some (.slice av2 (badL d s R n N X (conD d N X cb)).length cv2) := cell_at h3 rfl
                        have HOld : Hid (EBest w2.heap.size wr d s R n N X (some cb) (.pointer (some ⟨bq2, 0, none⟩))) := Or.inr ⟨cb, bq2, _, _, rfl, rfl, h3, h4, h5, h6, h7⟩
                        obtain ⟨l2, hl29⟩ : ∃ l2, (badL d s R n N X (conD d N X cb)).length = l2 := ⟨_, rfl⟩
                        rw [hl29] at b2
                        have hl28 : l2 ≤ 8 := by have := badL_len d s R n N X (conD d N X cb); omega
                        by_cases hll2 : lc < l2
                        · have hs2 : stepV d s R n N X st c = some c := by unfold stepV; rw [if_pos HM.out, hst]; simp only [hlc9, hl29, hll2, if_true]
                          have HS2 := hid hs2
                          have hli : (lc : Int) < (l2 : Int) := by omega
                          clear hst hs2 h3 h4 h5 h6 h7 hlc9 hl29
                          go_wp2_with fail
                          go_quiet (fail)
                          go_wp2
                          go_roundw
                          case rel =>
                            have hdr : Below wr.heap.size wr (wr.drewN nq) := ⟨rfl, rfl, rfl, Nat.le_refl _, fun _ _ => rfl⟩
                            exact ⟨j + 1, some c, by omega, by go_num, HQB.out.trans ((HB0r.out.trans (hdr.mono HB0r.out.size)).mono HQB.out.size), HNew.out.up hdr, by have := HNx.out; rw [HS2.out] at this; exact this⟩
                          case measure => simp only [intOf]; omega
                        · have hs2 : stepV d s R n N X st c = some cb := by unfold stepV; rw [if_pos HM.out, hst]; simp only [hlc9, hl29, hll2, if_false]
                          have HS2 := hid hs2
                          have hli : ¬ (lc : Int) < (l2 : Int) := by omega
                          clear hst hs2 h3 h4 h5 h6 h7 hlc9 hl29
                          go_wp2_with fail
                          go_quiet (fail)
                          go_wp2
                          go_roundw
                          case rel =>
                            have hdr : Below wr.heap.size wr (wr.drewN nq) := ⟨rfl, rfl, rfl, Nat.le_refl _, fun _ _ => rfl⟩
                            exact ⟨j + 1, some cb, by omega, by go_num, HQB.out.trans ((HB0r.out.trans (hdr.mono HB0r.out.size)).mono HQB.out.size), HOld.out.up hdr, by have := HNx.out; rw [HS2.out] at this; exact this⟩
                          case measure => simp only [intOf]; omega
                · have hst : stepV d s R n N X st c = st := by unfold stepV; rw [if_neg (by show ¬ madeB d s R (tak N c) (tak X c) = true; rw [hm]; decide)]
                  have HSt := hid hst
                  clear hm hst
                  go_wp2
                  go_roundw
                  case rel => exact ⟨j + 1, st, by omega, by go_num, HQB.out.trans (HB3.out.mono HQB.out.size), EB.out.up HB3.out, by have := HNx.out; rw [HSt.out] at this; exact this⟩
                  case measure => simp only [intOf]; omega
          · have hje : l.length = j := by omega
            have hfin : st = ans := by
              have h9 := HF.out
              rw [← hje, List.drop_length, List.foldl_nil] at h9
              exact h9
            have HBq := hid (HB1.out.trans ((HB2.out.trans (HQB.out.mono HB2.out.size)).mono HB1.out.size))
            have hjl2 : ¬ (j : Int) < (l.length : Int) := by omega
            have hwb : w.heap.size ≤ w2.heap.size := Nat.le_trans HB1.out.size HB2.out.size
            rcases EB.out with ⟨hst, hvb⟩ | ⟨cb, bq2, vd2, vo2, hst, hvb, h3, h4, h5, h6, h7⟩
            · subst hvb
              have hE : mostE (d : Int) (m : Int) (s : Int) n N L X = 9 := by
                unfold mostE mostC
                rw [if_pos HC.out, Int.toNat_natCast, Int.toNat_natCast, HS.out.rows, HAns.out, ← hfin, hst]
                rfl
              have HE9 := hid hE
              clear hE hst hfin hje
              go_wp2
              go_ret3
              exact most_err HBq.out HE9.out (by decide) none 0
            · subst hvb
              have hC : mostC (d : Int) (s : Int) n N X = some cb := by
                unfold mostC
                rw [Int.toNat_natCast, Int.toNat_natCast, HS.out.rows, HAns.out, ← hfin, hst]
              have hE : mostE (d : Int) (m : Int) (s : Int) n N L X = 0 := by
                unfold mostE
                rw [if_pos HC.out, hC]
                rfl
              have hD : mostD (d : Int) (s : Int) n N X = conD d N X cb := by
                unfold mostD
                rw [hC, Int.toNat_natCast]
                rfl
              have hB : mostB (d : Int) (m : Int) (s : Int) n N L X = srt (badL d s R n N X (conD d N X cb)) := by
                unfold mostB
                rw [if_pos hE, hD, Int.toNat_natCast, Int.toNat_natCast, HS.out.rows]
              have HEE := hid hE
              have HDD := hid hD
              have HBB := hid hB
              obtain ⟨av2, cv2, hv2⟩ := own_form h5
              subst hv2
              have hbl2 := badL_len d s R n N X (conD d N X cb)
              have HSo := hid (sort_row h5 (by omega))
              have c0 : w0.cell? ⟨bq2, 0, none⟩ = some vd2 := cell_at h3 rfl
              have c1 : w0.cell? ⟨bq2, 1, none⟩ = some (.slice av2 (badL d s R n N X (conD d N X cb)).length cv2) := cell_at h3 rfl
              have H4 := hid h4
              obtain ⟨avd2, cvd2, hvd2, _, _⟩ := h4
              subst hvd2
              have H6 := hid h6
              have hne7 : some bq2 ≠ (Value.slice av2 (badL d s R n N X (conD d N X cb)).length cv2).ownBlock := fun e => h7 e.symm
              have HN7 := hid hne7
              have HLo : Hid (∀ k9, (Value.slice av2 (badL d s R n N X (conD d N X cb)).length cv2).ownBlock = some k9 → w2.heap.size ≤ k9) := fun k9 e => (h5.lt k9 e).1
              clear hE hD hB hC hst hfin h3 h5 h6 h7 hne7 hje
              go_wp2_with fail
              refine Calls.mono HSo.out ?_
              rintro e w4 ⟨rfl, ho4, hg4⟩
              have t0 : w4.cell? ⟨bq2, 0, none⟩ = some (.slice avd2 s cvd2) := hg4.cell c0 HN7.out
              have t1 : w4.cell? ⟨bq2, 1, none⟩ = some (.slice av2 (badL d s R n N X (conD d N X cb)).length cv2) := hg4.cell c1 HN7.out
              have HVd4 := hid (H4.out.grown hg4 H6.out)
              have HOs := hid (own_isl ho4 (by rw [srt_len]; omega))
              have HBw4 := hid (HBq.out.grown hg4 HBq.out.size (fun k9 hk9 => Nat.le_trans hwb (HLo.out k9 hk9)))
              clear ho4 hg4 c0 c1 HSo
              go_wp2_with fail
              go_quiet (fail)
              go_wp2
              have hdr : Below w4.heap.size w4 (w4.drewN nq) := ⟨rfl, rfl, rfl, Nat.le_refl _, fun _ _ => rfl⟩
              go_ret3
              refine ⟨HBw4.out.trans (hdr.mono HBw4.out.size), _, _, s, by rw [HEE.out]; rfl, by rw [HEE.out, if_pos rfl], ?_, ?_⟩
              · rw [HDD.out]; exact HVd4.out.up hdr
              · rw [HBB.out]
                have h9 := HOs.out.up hdr
                rw [srt_len] at h9 ⊢
                exact h9
  · have hne : (checksE nd of sz n N L X != 0) = true := by simpa using hc
    have hE : mostE nd of sz n N L X = checksE nd of sz n N L X := by unfold mostE; rw [if_neg hc]
    generalize checksE nd of sz n N L X = c at *
    have HE := hid hE
    have HC := hid hc
    clear hE hc hx
    unfold planV
    go_enter Try.func31, Try.ntmps31
    go_wp2_with (go_at_call 45; go_must (refine HCs.out.mono ?_; rintro e w1 ⟨rfl, hb1⟩; have HB1 := hid (HBx.out.trans (hb1.mono HBx.out.size)); clear hb1))
    go_ret3
    exact most_err HB1.out HE.out HC.out none 0

end Go.Proofs.Ytfcpmpcfbhkacaa
