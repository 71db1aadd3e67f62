/- Several texts of one proof, in their order. -/
import Derived.Test.YtcpgojhacfckhaeGreatSum19
import Derived.Test.YtcpgojhacfckhaeGreatSum11
import Derived.Shelf.SlLaysF
import Derived.Shelf.SlSortCmp.NoneTotal
import Derived.Test.YtcpgojhacfckhaeGreatProg
import Derived.Test.YtcpgojhacfckhaeGreatSum0
import Derived.Maps.Own
import Derived.Maps.OwnOps
import Derived.Maps.OwnSet

namespace Go.Proofs.YtcpgojhacfckhaeGreat

open Go.RowKit
set_option linter.unusedVariables false

structure ThInv (w wr : World) (vb vl : Value) (P : Ps) (UV : Nat → Nat → Value) (l s : List (Nat × Nat)) (vo : Value) : Prop where
  below : Below w.heap.size w wr
  box : wr.heap[w.heap.size]? = some (.cells #[vb, vl] 27 (0, 0))
  seen : ∃ cs : Array Value, wr.heap[w.heap.size + 1]? = some (.cells cs 74 (0, 0)) ∧ cs.size = 8 ∧ ∀ q, q < 8 → cs[q]? = some (.bool (seenN P s q))
  row : wr.ownsRow (w.heap.size + 2) 53 2 vo l.length (flatS l.length (nL P l) (vaL UV l))

section

variable {w wr w' : World} {vb vl : Value} {P : Ps} {UV : Nat → Nat → Value} {l s : List (Nat × Nat)} {vo : Value}

theorem ThInv.up (h : ThInv w wr vb vl P UV l s vo) (hb : Below wr.heap.size wr w') : ThInv w w' vb vl P UV l s vo := by
  obtain ⟨cs, h1, h2, h3⟩ := h.seen
  exact ⟨h.below.trans (hb.mono h.below.size), stayB h.box hb, ⟨cs, stayB h1 hb, h2, h3⟩, owns_below h.row hb⟩

theorem ThInv.mark (h : ThInv w wr vb vl P UV l s vo) {k i q : Nat} (hq : q < 8) (hN : (P.t k).N i = (q : Int)) : ThInv w (wr.setCell ⟨w.heap.size + 1, q, none⟩ (.bool true)) vb vl P UV l (s ++ [(k, i)]) vo := by
  obtain ⟨cs, h1, h2, h3⟩ := h.seen
  refine ⟨h.below.setCell (p := ⟨w.heap.size + 1, q, none⟩) (by show w.heap.size ≤ w.heap.size + 1; omega) _, ?_, ⟨cs.set! q (.bool true), ?_, by simpa using h2, fun x hx => ?_⟩, ?_⟩
  · rw [Below.heap_setCell _ _ _ _ (by show w.heap.size ≠ w.heap.size + 1; omega)]; exact h.box
  · simp [World.setCell, Array.getElem?_modify, h1]
  · rw [seenN_snoc, hN]
    by_cases e : x = q
    · subst e
      simp [h2, hx]
    · have e2 : ¬ (q : Int) = (x : Int) := by omega
      rw [decide_eq_false e2, Bool.or_false, ← h3 x hx]
      simp [Ne.symm e]
  · exact ownsRow_setCell_below h.row (by show w.heap.size + 1 < w.heap.size + 2; omega) _

theorem ThInv.push (h : ThInv w wr vb vl P UV l s vo) {k i : Nat} {v1 : Value} {o : Obj} (ho : w'.ownsRow (w.heap.size + 2) 53 2 v1 (l.length + 1) (flatS l.length (nL P l) (vaL UV l) ++ [.int .i64 ((P.t k).N i), UV k i])) (hg : (wr.alloc o).grownBy w' vo.ownBlock) : ThInv w w' vb vl P UV (l ++ [(k, i)]) s v1 := by
  have hA := h.up (below_alloc wr o)
  obtain ⟨cs, h1, h2, h3⟩ := hA.seen
  refine ⟨hA.below.grown hg hA.below.size (fun g hgg => Nat.le_trans (by omega) (hA.row.lt g hgg).1), ?_, ⟨cs, ?_, h2, h3⟩, ?_⟩
  · rw [hg.block _ (Array.getElem?_eq_some_iff.1 hA.box).1 (row_ne hA.row hA.box (by decide))]; exact hA.box
  · rw [hg.block _ (Array.getElem?_eq_some_iff.1 h1).1 (row_ne hA.row h1 (by decide))]; exact h1
  · rw [flatS_snoc, List.length_append]; exact ho

end

set_option maxHeartbeats 8000000 in
set_option maxRecDepth 10000 in
theorem there_any (vb vl : Value) (np : Nat) (KV : Nat → Value) (UV : Nat → Nat → Value) (P : Ps) (ver : Int) (w : World) (hvb : ∃ a n c, vb = .slice a n c) (hl : PsSl w w.heap.size vl np KV UV P) (hn : np ≤ 8) (hm : ∀ k, k < np → P.m k ≤ 20) (hN : ∀ k i, k < np → i < P.m k → 0 ≤ (P.t k).N i ∧ (P.t k).N i < 8) :
    Calls Tryz.prog 35 #[meshV vb vl, .int .i64 ver] w fun e w' => Below w.heap.size w w' ∧ ∃ vo, e = .returned vo ∧ ShSl w' w'.heap.size vo (thereL P ver np).length (nL P (thereL P ver np)) (vaL UV (thereL P ver np)) (lL P (thereL P ver np)) (xL P (thereL P ver np)) := by
  obtain ⟨ab, nb, cb, rfl⟩ := hvb
  have HL := hid hl
  have HM := hid hm
  have HN := hid hN
  obtain ⟨al, cl, rfl, _, _⟩ := hl
  obtain ⟨ii, hii, hz0, hz1, hz2⟩ := info_parts Tryz.infoShare
  have hb0 := ((Below.refl w.heap.size w).alloc (Nat.le_refl _) (.cells #[.slice ab nb cb, .slice al np cl] 27)).alloc (by simp) (.cells #[.bool false, .bool false, .bool false, .bool false, .bool false, .bool false, .bool false, .bool false] 74)
  have k0 := heap_two_old w (.cells #[.slice ab nb cb, .slice al np cl] 27) (.cells #[.bool false, .bool false, .bool false, .bool false, .bool false, .bool false, .bool false, .bool false] 74)
  have k1 := heap_two_new w (.cells #[.slice ab nb cb, .slice al np cl] 27) (.cells #[.bool false, .bool false, .bool false, .bool false, .bool false, .bool false, .bool false, .bool false] 74)
  have J0 : Hid (ThInv w _ (.slice ab nb cb) (.slice al np cl) P UV (thAll P ver 0) (thAll P ver 0) (.slice none 0 0)) := ⟨hb0, k0, ⟨_, k1, rfl, fun q hq => by
    match q, hq with
    | 0, _ => rfl
    | 1, _ => rfl
    | 2, _ => rfl
    | 3, _ => rfl
    | 4, _ => rfl
    | 5, _ => rfl
    | 6, _ => rfl
    | 7, _ => rfl⟩, World.ownsRow_nil _ _ _ _⟩
  have c1 := (two_at k0).2
  have HLen : Hid (∀ f, f ≤ np → (thAll P ver f).length ≤ 8) := fun f hf => once_len (thAll_ok P ver np f hf).once (fun x hx => by
    obtain ⟨h1, h2, _⟩ := (thAll_ok P ver np f hf).at_ x hx
    exact HN.out x.1 x.2 h1 h2)
  have HLen2 : Hid (∀ k f, k < np → f ≤ P.m k → (thRow P ver k (thAll P ver k) f).length ≤ 8) := fun k f hk hf => once_len ((thAll_ok P ver np k (by omega)).row hk f hf).once (fun x hx => by
    obtain ⟨h1, h2, _⟩ := ((thAll_ok P ver np k (by omega)).row hk f hf).at_ x hx
    exact HN.out x.1 x.2 h1 h2)
  clear hb0 k0 k1 hm hN
  unfold meshV thereL
  go_enter Tryz.func35, Tryz.ntmps35
  go_wp2
  clear c1
  go_loopw [5, 14] (fun vo kv wr => ∃ k : Nat, k ≤ np ∧ kv = .int .i64 k ∧ Hid (ThInv w wr (.slice ab nb cb) (.slice al np cl) P UV (thAll P ver k) (thAll P ver k) vo)) (fun _ kv _ => np - (intOf kv).toNat)
  case atStart => exact ⟨0, Nat.zero_le _, rfl, J0⟩
  case round =>
    obtain ⟨k, hk, rfl, J⟩ := hrel
    by_cases hlt : k < np
    · have hki : (k : Int) < (np : Int) := by omega
      obtain ⟨bl, off, rfl, hbl, g0, g1, g2, g3⟩ := (HL.out.up J.out.below).at hlt
      have G3 := hid g3
      obtain ⟨ak, ck, hke, _, _⟩ := g3
      rw [hke] at g2 G3
      have hbA := below_alloc wr (.cells #[.bool (P.th k), .int .i64 (P.rm k), .slice ak (P.m k) ck] 47)
      have kp := heap_alloc_new wr (.cells #[.bool (P.th k), .int .i64 (P.rm k), .slice ak (P.m k) ck] 47)
      have JA := hid (J.out.up hbA)
      have KP := hid kp
      have HKe : Hid (∀ u, Below w.heap.size w u → KeSl u u.heap.size (.slice ak (P.m k) ck) (P.m k) (UV k) (P.t k)) := fun u hbu => by
        obtain ⟨_, _, _, _, _, _, _, h3⟩ := (HL.out.up hbu).at hlt
        rw [hke] at h3
        exact h3
      have hm20 := HM.out k hlt
      go_wp2
      obtain ⟨W1, hW1⟩ : ∃ u, wr.alloc (.cells #[.bool (P.th k), .int .i64 (P.rm k), .slice ak (P.m k) ck] 47) = u := ⟨_, rfl⟩
      rw [hW1] at JA KP ⊢
      obtain ⟨bp, hbp⟩ : ∃ g, wr.heap.size = g := ⟨_, rfl⟩
      rw [hbp] at KP ⊢
      clear g0 g1 g2 hbA kp hke hW1 hbp hbl J G3
      obtain ⟨w0, hw0⟩ : ∃ w0, wr = w0 := ⟨_, rfl⟩
      subst hw0
      go_loopw [5, 21] (fun vo iv wz => ∃ i : Nat, i ≤ P.m k ∧ iv = .int .i64 i ∧ Hid (ThInv w wz (.slice ab nb cb) (.slice (some ⟨bl, off, none⟩) np cl) P UV (thRow P ver k (thAll P ver k) i) (thRow P ver k (thAll P ver k) i) vo) ∧ Hid (wz.heap[bp]? = some (.cells #[.bool (P.th k), .int .i64 (P.rm k), .slice ak (P.m k) ck] 47 (0, 0)))) (fun _ iv _ => P.m k - (intOf iv).toNat)
      case atStart => exact ⟨0, Nat.zero_le _, rfl, JA, KP⟩
      case round =>
        obtain ⟨i, hi, rfl, JZ, KZ⟩ := hrel
        by_cases hil : i < P.m k
        · have hii2 : (i : Int) < (P.m k : Int) := by omega
          obtain ⟨b2, o2, rfl, _, x0, x1, x2, x3⟩ := (HKe.out wr JZ.out.below).at hil
          obtain ⟨au, cu, hue, _, _⟩ := x3
          rw [hue] at x2
          have hbB := below_alloc wr (.cells #[.int .i64 ((P.t k).V i), .int .i64 ((P.t k).N i), .slice au ((P.t k).L i) cu] 55)
          have JB := hid (JZ.out.up hbB)
          have KB := hid (stayB KZ.out hbB)
          obtain ⟨p0, p1, p2⟩ := three_at KB.out
          have hNq := HN.out k i hlt hil
          have hst := thRow_succ P ver k (thAll P ver k) i
          have hln := HLen2.out k i hlt (by omega)
          obtain ⟨l, hl9⟩ : ∃ l, thRow P ver k (thAll P ver k) i = l := ⟨_, rfl⟩
          rw [hl9] at hst JB hln
          obtain ⟨q, hq⟩ : ∃ q : Nat, (P.t k).N i = q := ⟨((P.t k).N i).toNat, by omega⟩
          have hq8 : q < 8 := by omega
          have hqi : (q : Int) < 8 := by omega
          obtain ⟨cs, s1, s2, s3⟩ := JB.out.seen
          have sc := cell_at (i := q) s1 (s3 q hq8)
          have sf := frozen_at (i := q) s1
          unfold thStep isTh at hst
          rw [hq] at hst x1 JB KB p0 p1 p2 sc sf
          obtain ⟨x, hxx⟩ : ∃ x, (P.t k).V i = x := ⟨_, rfl⟩
          rw [hxx] at hst x0 JB KB p0 p1 p2 sc sf
          obtain ⟨sn, hsn⟩ : ∃ b, seenN P l (q : Int) = b := ⟨_, rfl⟩
          rw [hsn] at hst sc
          obtain ⟨tk, htk⟩ : ∃ b, P.th k = b := ⟨_, rfl⟩
          rw [htk] at hst p0
          have HQ := hid hq
          have HU := hid hue
          clear hbB s1 s2 s3 hxx hsn hue hl9 hq htk
          cases tk with
          | false =>
            rw [Bool.false_and, Bool.false_and, if_neg (by decide)] at hst
            have HSt := hid hst
            clear hst
            go_wp2
            go_roundw
            case rel => exact ⟨i + 1, by omega, by go_num, by rw [HSt.out]; exact JB.out, KB⟩
            case measure => simp only [intOf]; omega
          | true =>
            rw [Bool.true_and] at hst
            by_cases hxv : x = ver
            · have hxb : (x == ver) = true := by rw [beq_iff_eq]; exact hxv
              rw [decide_eq_true hxv, Bool.true_and] at hst
              clear hxv
              cases sn with
              | true =>
                rw [Bool.not_true, if_neg (by decide)] at hst
                have HSt := hid hst
                clear hst
                go_wp2
                go_roundw
                case rel => exact ⟨i + 1, by omega, by go_num, by rw [HSt.out]; exact JB.out, KB⟩
                case measure => simp only [intOf]; omega
              | false =>
                rw [Bool.not_false, if_pos rfl] at hst
                have HSt := hid hst
                clear hst
                have hsl : w.heap.size + 1 < wr.heap.size := by
                  obtain ⟨cs, s1, _⟩ := JZ.out.seen
                  exact (Array.getElem?_eq_some_iff.1 s1).1
                have jc := JB.out.mark hq8 HQ.out
                have y0 := heap_alloc_new wr (.cells #[.int .i64 x, .int .i64 (q : Int), .slice au ((P.t k).L i) cu] 55)
                have y1 : ((wr.alloc (.cells #[.int .i64 x, .int .i64 (q : Int), .slice au ((P.t k).L i) cu] 55)).setCell ⟨w.heap.size + 1, q, none⟩ (.bool true)).heap[wr.heap.size]? = _ := (Below.heap_setCell _ _ _ _ (by show wr.heap.size ≠ w.heap.size + 1; omega)).trans y0
                have hpl : bp < wr.heap.size := (Array.getElem?_eq_some_iff.1 KZ.out).1
                have hpn : bp ≠ w.heap.size + 1 := fun e => by
                  obtain ⟨cs, s1, _⟩ := JZ.out.seen
                  have h9 := KZ.out
                  rw [e, s1] at h9
                  injection h9 with h9
                  injection h9 with _ h9 _
                  exact absurd h9 (by decide)
                have y2 : ((wr.alloc (.cells #[.int .i64 x, .int .i64 (q : Int), .slice au ((P.t k).L i) cu] 55)).setCell ⟨w.heap.size + 1, q, none⟩ (.bool true)).heap[bp]? = _ := (Below.heap_setCell _ _ _ _ hpn).trans KB.out
                obtain ⟨WC, hWC⟩ : ∃ u, (wr.alloc (.cells #[.int .i64 x, .int .i64 (q : Int), .slice au ((P.t k).L i) cu] 55)).setCell ⟨w.heap.size + 1, q, none⟩ (.bool true) = u := ⟨_, rfl⟩
                rw [hWC] at jc y1 y2
                have JC := hid jc
                have Y2 := hid y2
                obtain ⟨z0, z1, z2⟩ := three_at y1
                have hge : w.heap.size + 2 ≤ WC.heap.size := by
                  obtain ⟨cs, s1, _⟩ := JC.out.seen
                  have := (Array.getElem?_eq_some_iff.1 s1).1
                  omega
                clear jc y0 y1 y2
                go_wp2_with (at_builtin; go_must (refine wpList_append_own _ rfl (.tmp 45) (.tmp 48) 64 rfl (w.heap.size + 2) 53 ii (.agg #[.int .i64 0, .slice none 0 0]) 2 32 Tryz.underlying64 hii hz0 hz1 hz2 rfl (by decide) _ _ _ rfl (World.ownsRow.alloc JC.out.row _) ⟨_, 0, none⟩ 1 1 [.int .i64 (q : Int), .slice au ((P.t k).L i) cu] rfl rfl (cells_pr _ _ _ _) (by intro u hu; simp at hu; rcases hu with rfl | rfl <;> rfl) (by unfold maxLen; omega) (by omega) (by simp; omega) ?_; intro v1 w6 ho6 hg6 _; have HO6 := hid ho6; have HG6 := hid hg6; clear ho6 hg6))
                have hd : (P.t k).N i = (q : Int) := HQ.out
                have J6 := hid (JC.out.push (k := k) (i := i) (by rw [hd, HU.out]; exact HO6.out) HG6.out)
                have jA := JC.out.up (below_alloc WC (.cells #[.int .i64 (q : Int), .slice au ((P.t k).L i) cu] 53))
                have K6 : Hid (w6.heap[bp]? = some (.cells #[.bool (P.th k), .int .i64 (P.rm k), .slice (some ⟨b2, o2, none⟩) (P.m k) ck] 47 (0, 0))) := by
                  have h8 := stayB Y2.out (below_alloc WC (.cells #[.int .i64 (q : Int), .slice au ((P.t k).L i) cu] 53))
                  show _ = _
                  rw [HG6.out.block _ (Array.getElem?_eq_some_iff.1 h8).1 (row_ne jA.row h8 (by decide))]
                  exact h8
                clear HO6 HG6 jA hd
                go_roundw
                case rel => exact ⟨i + 1, by omega, by go_num, by rw [HSt.out]; exact J6.out, K6⟩
                case measure => simp only [intOf]; omega
            · have hxb : (x == ver) = false := by rw [beq_eq_false_iff_ne]; exact hxv
              rw [decide_eq_false hxv, Bool.false_and, if_neg (by decide)] at hst
              have HSt := hid hst
              clear hst hxv
              go_wp2
              go_roundw
              case rel => exact ⟨i + 1, by omega, by go_num, by rw [HSt.out]; exact JB.out, KB⟩
              case measure => simp only [intOf]; omega
        · have hie : P.m k = i := by omega
          have hil2 : ¬ (i : Int) < (P.m k : Int) := by omega
          have hal : thAll P ver (k + 1) = thRow P ver k (thAll P ver k) i := by rw [thAll_succ, hie]
          have HAl := hid hal
          clear hal
          go_wp2
          go_roundw
          case rel => exact ⟨k + 1, by omega, by go_num, by rw [HAl.out]; exact JZ.out⟩
          case measure => simp only [intOf]; omega
    · have hke : np = k := by omega
      subst hke
      have hlen := HLen.out np (Nat.le_refl _)
      have hsl : ShSl wr wr.heap.size u5 (thAll P ver np).length (nL P (thAll P ver np)) (vaL UV (thAll P ver np)) (lL P (thAll P ver np)) (xL P (thAll P ver np)) := by
        refine OwnS.shl (w0 := w) ⟨owns_base J.out.row (by omega), J.out.below⟩ (by omega) fun j hj => ?_
        obtain ⟨h1, h2, _⟩ := (thAll_ok P ver np np (Nat.le_refl _)).at_ ((thAll P ver np).getD j (0, 0)) (by rw [List.getD_eq_getElem?_getD, List.getElem?_eq_getElem hj]; exact List.getElem_mem hj)
        exact (HL.out.up J.out.below).ints h1 h2
      have HS := hid hsl
      clear hsl
      go_wp2
      go_ret
      exact ⟨J.out.below, _, rfl, HS.out⟩

end Go.Proofs.YtcpgojhacfckhaeGreat

namespace Go.Proofs

open Go.Shelf
def Tryz.sortLists_ren : Go.Shelf.Ren := ⟨fun | 6 => 76 | 15 => 114 | 14 => 113 | 28 => 138 | 29 => 139 | 20 => 130 | 21 => 131 | 22 => 132 | 23 => 133 | 24 => 134 | 25 => 135 | 26 => 136 | 27 => 137 | 46 => 157 | 47 => 158 | 48 => 159 | 49 => 160 | 50 => 161 | 57 => 177 | n => n, fun | 22 => 111 | 24 => 28 | 25 => 113 | 3 => 3 | 39 => 142 | 0 => 0 | 53 => 160 | 55 => 162 | 4 => 4 | 46 => 153 | 45 => 152 | 50 => 157 | 5 => 5 | 9 => 9 | 66 => 174 | 70 => 178 | 76 => 187 | 77 => 188 | n => n, fun | n => n⟩
theorem Tryz.sortLists : Go.Proofs.SlLaysF.n6 Tryz.prog Tryz.sortLists_ren := {
  mixed := by kernel_rfl
  f6 := ⟨Tryz.f76.name, by decide, Tryz.func76.trans (congrArg some (by kernel_rfl))⟩
  f14 := ⟨Tryz.f113.name, by decide, Tryz.func113.trans (congrArg some (by kernel_rfl))⟩
  f15 := Tryz.func114.trans (congrArg some (by kernel_rfl))
  f20 := ⟨Tryz.f130.name, by decide, Tryz.func130.trans (congrArg some (by kernel_rfl))⟩
  f21 := ⟨Tryz.f131.name, by decide, Tryz.func131.trans (congrArg some (by kernel_rfl))⟩
  f22 := ⟨Tryz.f132.name, by decide, Tryz.func132.trans (congrArg some (by kernel_rfl))⟩
  f23 := ⟨Tryz.f133.name, by decide, Tryz.func133.trans (congrArg some (by kernel_rfl))⟩
  f24 := ⟨Tryz.f134.name, by decide, Tryz.func134.trans (congrArg some (by kernel_rfl))⟩
  f25 := ⟨Tryz.f135.name, by decide, Tryz.func135.trans (congrArg some (by kernel_rfl))⟩
  f26 := ⟨Tryz.f136.name, by decide, Tryz.func136.trans (congrArg some (by kernel_rfl))⟩
  f27 := ⟨Tryz.f137.name, by decide, Tryz.func137.trans (congrArg some (by kernel_rfl))⟩
  f28 := Tryz.func138.trans (congrArg some (by kernel_rfl))
  f29 := Tryz.func139.trans (congrArg some (by kernel_rfl))
  f46 := ⟨Tryz.f157.name, by decide, Tryz.func157.trans (congrArg some (by kernel_rfl))⟩
  f47 := Tryz.func158.trans (congrArg some (by kernel_rfl))
  f48 := Tryz.func159.trans (congrArg some (by kernel_rfl))
  f49 := ⟨Tryz.f160.name, by decide, Tryz.func160.trans (congrArg some (by kernel_rfl))⟩
  f50 := ⟨Tryz.f161.name, by decide, Tryz.func161.trans (congrArg some (by kernel_rfl))⟩
  f57 := ⟨Tryz.f177.name, by decide, Tryz.func177.trans (congrArg some (by kernel_rfl))⟩
  t0 := Tryz.underlying0
  a0 := Tryz.isAgg0
  z0 := Tryz.sizeOf0
  v0 := Tryz.zeroValue0
  t3 := Tryz.underlying3
  a3 := Tryz.isAgg3
  z3 := Tryz.sizeOf3
  v3 := Tryz.zeroValue3
  t4 := Tryz.underlying4
  a4 := Tryz.isAgg4
  z4 := Tryz.sizeOf4
  v4 := Tryz.zeroValue4
  t5 := Tryz.underlying5
  a5 := Tryz.isAgg5
  z5 := Tryz.sizeOf5
  v5 := Tryz.zeroValue5
  t9 := Tryz.underlying9
  a9 := Tryz.isAgg9
  z9 := Tryz.sizeOf9
  v9 := Tryz.zeroValue9
  t22 := Tryz.underlying111
  a22 := Tryz.isAgg111
  z22 := Tryz.sizeOf111
  v22 := Tryz.zeroValue111
  a24 := Tryz.isAgg28
  z24 := Tryz.sizeOf28
  t25 := Tryz.underlying113
  a25 := Tryz.isAgg113
  z25 := Tryz.sizeOf113
  v25 := Tryz.zeroValue113
  t39 := Tryz.underlying142
  a39 := Tryz.isAgg142
  z39 := Tryz.sizeOf142
  v39 := Tryz.zeroValue142
  t45 := Tryz.underlying152
  a45 := Tryz.isAgg152
  z45 := Tryz.sizeOf152
  v45 := Tryz.zeroValue152
  t46 := Tryz.underlying153
  a46 := Tryz.isAgg153
  z46 := Tryz.sizeOf153
  v46 := Tryz.zeroValue153
  t50 := Tryz.underlying157
  a50 := Tryz.isAgg157
  z50 := Tryz.sizeOf157
  v50 := Tryz.zeroValue157
  t53 := Tryz.underlying160
  a53 := Tryz.isAgg160
  z53 := Tryz.sizeOf160
  v53 := Tryz.zeroValue160
  t55 := Tryz.underlying162
  a55 := Tryz.isAgg162
  z55 := Tryz.sizeOf162
  v55 := Tryz.zeroValue162
  t66 := Tryz.underlying174
  a66 := Tryz.isAgg174
  z66 := Tryz.sizeOf174
  v66 := Tryz.zeroValue174
  t70 := Tryz.underlying178
  a70 := Tryz.isAgg178
  z70 := Tryz.sizeOf178
  v70 := Tryz.zeroValue178
  t76 := Tryz.underlying187
  a76 := Tryz.isAgg187
  z76 := Tryz.sizeOf187
  v76 := Tryz.zeroValue187
  t77 := Tryz.underlying188
  a77 := Tryz.isAgg188
  z77 := Tryz.sizeOf188
  v77 := Tryz.zeroValue188 }

end Go.Proofs

namespace Go.Proofs.YtcpgojhacfckhaeGreat

open Go.RowKit CurveMath
set_option linter.unusedVariables false

end Go.Proofs.YtcpgojhacfckhaeGreat

namespace Go.Proofs.YtcpgojhacfckhaeGreat

open Go.RowKit Go.Maps
set_option linter.unusedVariables false

def setX {H : Type} (u : DataW H) (X : Nat → Int) (k : Nat) : DataW H := setOf u ((List.range k).map fun j => Lit.int .i64 (X j))

theorem setX_zero {H : Type} (u : DataW H) (X : Nat → Int) : setX u X 0 = .map [] := rfl

theorem setX_succ {H : Type} (u : DataW H) (X : Nat → Int) (k : Nat) : setX u X (k + 1) = (setX u X k).put (.int .i64 (X k)) u := by
  unfold setX
  rw [List.range_succ, List.map_append]
  exact setOf_snoc u _ _

theorem isMap_setX {H : Type} (u : DataW H) (X : Nat → Int) (k : Nat) : IsMap (setX u X k) := by
  induction k with
  | zero => rw [setX_zero]; exact isMap_empty
  | succ k ih => rw [setX_succ]; exact ih.put _ _

theorem hasB_succ (X : Nat → Int) (k : Nat) (v : Int) (h : X k ≠ v) : hasB X (k + 1) v = hasB X k v := by
  rw [Bool.eq_iff_iff, hasB_iff, hasB_iff]
  constructor
  · rintro ⟨j, hj, e⟩
    by_cases hjk : j = k
    · subst hjk; exact absurd e h
    · exact ⟨j, by omega, e⟩
  · rintro ⟨j, hj, e⟩; exact ⟨j, by omega, e⟩

theorem atKey_setX {H : Type} (u : DataW H) (X : Nat → Int) (k : Nat) (v : Int) (z : DataW H) : (setX u X k).atKey (.int .i64 v) z = if hasB X k v = true then u else z := by
  induction k with
  | zero => rfl
  | succ k ih =>
    rw [setX_succ]
    by_cases h : X k = v
    · subst h
      rw [atKey_put_same (isMap_setX u X k) (by simp [WideAt.IsKeyLit]), if_pos ((hasB_iff X (k + 1) (X k)).2 ⟨k, by omega, rfl⟩)]
    · rw [atKey_put_other (fun e => h (by injection e with _ e2; exact e2.symm)), ih, hasB_succ X k v h]

end Go.Proofs.YtcpgojhacfckhaeGreat
