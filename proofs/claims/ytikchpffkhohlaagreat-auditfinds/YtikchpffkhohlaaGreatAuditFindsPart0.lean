/- Several texts of one proof, in their order. -/
import Derived.Test.YtikchpffkhohlaaGreatASum29
import Derived.Test.YtikchpffkhohlaaGreatASum13
import Derived.Test.YtikchpffkhohlaaGreatASum14

namespace Go.Proofs.YtikchpffkhohlaaGreat

open Go.RowKit CurveMath
set_option linter.unusedVariables false

theorem offV_N {r u : Value} {L bu ou n c : Nat} (h : OffV r u L) (hL : 1 ≤ L) (hu : u = .slice (some ⟨bu, ou, none⟩) n c) : ∀ a m c', r = .slice (some a) m c' → a.block ≠ bu :=
  fun a m c' e => h.resolve_left (by omega) a m c' ⟨bu, ou, none⟩ n c e hu

theorem offV_n {r u : Value} {L m bu ou n c : Nat} (h : m = 0 ∨ OffV r u L) (hL : 1 ≤ L) (hu : u = .slice (some ⟨bu, ou, none⟩) n c) : OffN bu r m :=
  h.imp id fun h => offV_N h hL hu

theorem isl_self {w : World} {B bu ou c L : Nat} {X : Nat → Int} (h : IntSl w B (.slice (some ⟨bu, ou, none⟩) L c) L X) (hL : 1 ≤ L) (y : Int) : IntSl (w.setCell ⟨bu, ou, none⟩ (.int .i64 y)) B (.slice (some ⟨bu, ou, none⟩) L c) L (fun r => if r = 0 then y else X r) := by
  obtain ⟨ad, cap, e, h0, h2⟩ := h
  injection e with e1 _ e3
  subst e1 e3
  refine ⟨_, _, rfl, h0, ?_⟩
  rcases h2 with h2 | ⟨b, off, e, h4, h5⟩
  · omega
  · injection e with e
    injection e with e1 e2
    subst e1 e2
    refine Or.inr ⟨bu, ou, rfl, h4, fun j hj => ?_⟩
    by_cases hj0 : j = 0
    · subst hj0
      show _ = some (Value.int .i64 y)
      exact cell_set_same (h5 0 (by omega)) _
    · show _ = some (Value.int .i64 (if j = 0 then y else X j))
      rw [if_neg hj0, cell_set_lit (Or.inr (by omega))]
      exact h5 j hj

theorem ke_map {w w' : World} {B : Nat} {v : Value} {m : Nat} {U : Nat → Value} {t t' : Kt} (h : KeSl w B v m U t) (hV : ∀ j, j < m → t'.V j = t.V j ∧ t'.N j = t.N j) (hc : 1 ≤ m → ∀ a n c, v = .slice (some a) n c → ∀ o, w'.cell? ⟨a.block, o, none⟩ = w.cell? ⟨a.block, o, none⟩)
    (hi : ∀ j, j < m → IntSl w B (U j) (t.L j) (t.X j) → IntSl w' B (U j) (t'.L j) (t'.X j)) : KeSl w' B v m U t' := by
  obtain ⟨ad, cap, rfl, h0, h2⟩ := h
  refine ⟨ad, cap, rfl, h0, ?_⟩
  rcases h2 with h2 | ⟨bl, off, rfl, h4, h5⟩
  · exact Or.inl h2
  · refine Or.inr ⟨bl, off, rfl, h4, fun j hj => ?_⟩
    obtain ⟨g1, g2, g3, g4⟩ := h5 j hj
    have hk := hc (by omega) _ _ _ rfl
    rw [(hV j hj).1, (hV j hj).2]
    exact ⟨by rw [hk]; exact g1, by rw [hk]; exact g2, by rw [hk]; exact g3, hi j hj g4⟩

structure FdInv (w : World) (gx base : Nat) (wr : World) (ab : Option Addr) (n cb : Nat) (PV : Nat → Value) (b : Bk) (al : Option Addr) (np cl : Nat) (KV : Nat → Value) (UV : Nat → Nat → Value) (P : Ps) (vw : Value) (l : List Int) : Prop where
  below : Below w.heap.size w wr
  wg : w.heap.size ≤ gx
  gb : gx < base
  bs : base ≤ wr.heap.size
  box : wr.heap[gx]? = some (.cells #[.slice ab n cb, .slice al np cl] 27 (0, 0))
  ve : VeSl wr base (.slice ab n cb) n PV b
  ps : PsSl wr base (.slice al np cl) np KV UV P
  fr : ∀ k i, k < np → i < P.m k → 1 ≤ (P.t k).L i → ∀ ad m c, UV k i = .slice (some ad) m c → w.heap.size ≤ ad.block ∧ ad.block < gx ∧ ∀ o, wr.frozen? ⟨ad.block, o, none⟩ = false
  own : wr.ownsRow base 3 1 vw l.length (l.map (Value.int .i64))

section

variable {w : World} {gx base : Nat} {wr w' : World} {ab : Option Addr} {n cb : Nat} {PV : Nat → Value} {b : Bk} {al : Option Addr} {np cl : Nat} {KV : Nat → Value} {UV : Nat → Nat → Value} {P P' : Ps} {vw v1 : Value} {l l1 : List Int}

theorem FdInv.upB (h : FdInv w gx base wr ab n cb PV b al np cl KV UV P vw l) (hb : Below base wr w') (ho : w'.ownsRow base 3 1 v1 l1.length (l1.map (Value.int .i64))) : FdInv w gx base w' ab n cb PV b al np cl KV UV P v1 l1 := by
  have hwg := h.wg
  have hgb := h.gb
  exact ⟨h.below.trans (hb.mono (by omega)), h.wg, h.gb, Nat.le_trans h.bs hb.size, by rw [hb.block _ h.gb]; exact h.box, h.ve.below hb, h.ps.below hb,
    fun k i hk hi hL ad m c e => by
      obtain ⟨h1, h2, h3⟩ := h.fr k i hk hi hL ad m c e
      exact ⟨h1, h2, fun o => by rw [← h3 o]; exact World.frozen?_of_block (hb.block _ (by show ad.block < base; omega))⟩, ho⟩

theorem FdInv.up (h : FdInv w gx base wr ab n cb PV b al np cl KV UV P vw l) (hb : Below wr.heap.size wr w') : FdInv w gx base w' ab n cb PV b al np cl KV UV P vw l :=
  h.upB (hb.mono h.bs) (owns_below h.own hb)

theorem FdInv.grow (h : FdInv w gx base wr ab n cb PV b al np cl KV UV P vw l) (hg : wr.grownBy w' vw.ownBlock) (ho : w'.ownsRow base 3 1 v1 l1.length (l1.map (Value.int .i64))) : FdInv w gx base w' ab n cb PV b al np cl KV UV P v1 l1 :=
  h.upB (Below.grown (Below.refl base wr) hg h.bs (fun k hk => (h.own.lt k hk).1)) ho

theorem FdInv.ms (h : FdInv w gx base wr ab n cb PV b al np cl KV UV P vw l) : MsAt wr gx ab n cb PV b al np cl KV UV P := ⟨h.box, h.ve.mono h.bs, h.ps.mono h.bs⟩

theorem FdInv.bend (h : FdInv w gx base wr ab n cb PV b al np cl KV UV P vw l) {ver : Int} (hp : MPart (.slice ab n cb) n PV b (.slice al np cl) np KV UV P ver (fun _ => True)) {k i : Nat} (hk : k < np) (hi : i < P.m k) (hV : (P.t k).V i = ver) (h1 : ∀ j, j < P.m k → (P.t k).V j = ver → j = i)
    {bu ou cu : Nat} (hu : UV k i = .slice (some ⟨bu, ou, none⟩) ((P.t k).L i) cu) (hL : 1 ≤ (P.t k).L i) (y : Int)
    (e : P'.th = P.th ∧ P'.rm = P.rm ∧ P'.m = P.m) (et : ∀ q, q < np → (P'.t q).V = (P.t q).V ∧ (P'.t q).N = (P.t q).N ∧ (P'.t q).L = (P.t q).L) (eX : ∀ q j r, q < np → j < P.m q → (P'.t q).X j r = if q = k ∧ j = i ∧ r = 0 then y else (P.t q).X j r) :
    FdInv w gx base (wr.setCell ⟨bu, ou, none⟩ (.int .i64 y)) ab n cb PV b al np cl KV UV P' vw l := by
  obtain ⟨o1, o2, o3, o4, o5⟩ := hp k hk trivial i hi hV
  obtain ⟨f1, f2, f3⟩ := h.fr k i hk hi hL _ _ _ hu
  replace f1 : w.heap.size ≤ bu := f1
  replace f2 : bu < gx := f2
  have hgb := h.gb
  have hbs := h.bs
  have hz : (wr.setCell ⟨bu, ou, none⟩ (.int .i64 y)).heap.size = wr.heap.size := by simp [World.setCell]
  refine ⟨h.below.setCell (p := ⟨bu, ou, none⟩) f1 _, h.wg, h.gb, by rw [hz]; exact hbs, ?_, ?_, ?_, fun q j hq hj hL9 ad m c e9 => ?_, ownsRow_setCell_below h.own (a := ⟨bu, ou, none⟩) (by show bu < base; omega) _⟩
  · rw [Below.heap_setCell _ _ _ _ (by show gx ≠ bu; omega)]; exact h.box
  · obtain ⟨ad, cap, e9, h0, h2⟩ := h.ve
    refine ⟨ad, cap, e9, h0, ?_⟩
    rcases h2 with h2 | ⟨bl, off, rfl, h4, h5⟩
    · exact Or.inl h2
    · have hbl : bl ≠ bu := offV_N o1 hL hu _ _ _ e9
      refine Or.inr ⟨bl, off, rfl, h4, fun j hj => ?_⟩
      obtain ⟨x0, x1, x2, x3, x4⟩ := h5 j hj
      exact ⟨by rw [cell_set_lit (Or.inl hbl)]; exact x0, by rw [cell_set_lit (Or.inl hbl)]; exact x1, by rw [cell_set_lit (Or.inl hbl)]; exact x2, by rw [cell_set_lit (Or.inl hbl)]; exact x3, isl_setN x4 (offV_n (o2 j hj) hL hu) _ _⟩
  · obtain ⟨ad, cap, e9, h0, h2⟩ := h.ps
    refine ⟨ad, cap, e9, h0, ?_⟩
    rcases h2 with h2 | ⟨bl, off, rfl, h4, h5⟩
    · exact Or.inl h2
    · have hbl : bl ≠ bu := offV_N o3 hL hu _ _ _ e9
      refine Or.inr ⟨bl, off, rfl, h4, fun q hq => ?_⟩
      obtain ⟨x0, x1, x2, x3⟩ := h5 q hq
      obtain ⟨t1, t2, t3⟩ := et q hq
      rw [e.1, e.2.1, e.2.2]
      refine ⟨by rw [cell_set_lit (Or.inl hbl)]; exact x0, by rw [cell_set_lit (Or.inl hbl)]; exact x1, by rw [cell_set_lit (Or.inl hbl)]; exact x2, ke_map x3 (fun j _ => by rw [t1, t2]; exact ⟨rfl, rfl⟩) (fun hm a m c e8 o => ?_) (fun j hj hl => ?_)⟩
      · exact cell_set_lit (Or.inl ((offV_n (o4 q hq) hL hu).resolve_left (by omega) a m c e8)) _
      · rw [t3]
        by_cases hs : q = k ∧ j = i
        · obtain ⟨rfl, rfl⟩ := hs
          rw [hu] at hl ⊢
          refine (isl_self hl hL y).congr fun r hr => ?_
          rw [eX q j r hq hj]
          by_cases hr0 : r = 0
          · rw [if_pos hr0, if_pos ⟨rfl, rfl, hr0⟩]
          · rw [if_neg hr0, if_neg (fun h => hr0 h.2.2)]
        · have hne : q ≠ k ∨ (P.t q).V j ≠ ver := by
            by_cases hqk : q = k
            · subst hqk
              exact Or.inr fun hv => hs ⟨rfl, h1 j hj hv⟩
            · exact Or.inl hqk
          refine (isl_setN hl (offV_n (o5 q j hq hj hne) hL hu) _ _).congr fun r hr => ?_
          rw [eX q j r hq hj, if_neg (fun h => hs ⟨h.1, h.2.1⟩)]
  · rw [e.2.2] at hj
    rw [(et q hq).2.2] at hL9
    obtain ⟨g1, g2, g3⟩ := h.fr q j hq hj hL9 ad m c e9
    exact ⟨g1, g2, fun o => by rw [frozen_setN]; exact g3 o⟩

theorem MPart.congr {ver : Int} {vb vl : Value} {G : Nat → Prop} (h : MPart vb n PV b vl np KV UV P ver G) (em : P'.m = P.m) (et : ∀ q, q < np → (P'.t q).V = (P.t q).V ∧ (P'.t q).L = (P.t q).L) : MPart vb n PV b vl np KV UV P' ver G := by
  intro q hq hG i hi hV
  rw [em] at hi
  rw [(et q hq).1] at hV
  obtain ⟨o1, o2, o3, o4, o5⟩ := h q hq hG i hi hV
  rw [(et q hq).2]
  refine ⟨o1, o2, o3, fun k hk => by rw [em]; exact o4 k hk, fun k i' hk hi' hne => ?_⟩
  rw [em] at hi'
  rw [(et k hk).1] at hne
  rw [(et k hk).2]
  exact o5 k i' hk hi' hne

end

theorem bent_more {P : Ps} {ver : Int} {W : List Nat} {c : Int} {k : Nat} (hk : k ∉ W) : ∀ q j r, ((bentP P ver (W ++ [k]) c).t q).X j r = if q = k ∧ j = atK P ver k ∧ r = 0 then ((P.t k).X (atK P ver k) 0 + c) % 31 else ((bentP P ver W c).t q).X j r := by
  intro q j r
  rw [bent_X, bent_X]
  by_cases hq : q = k
  · subst hq
    by_cases h : j = atK P ver q ∧ r = 0
    · rw [if_pos ⟨by simp, h.1, h.2⟩, if_pos ⟨rfl, h.1, h.2⟩, h.1]
    · rw [if_neg (fun h9 => h h9.2), if_neg (fun h9 => h h9.2), if_neg (fun h9 => h h9.2)]
  · have e : (q ∈ W ++ [k]) = (q ∈ W) := propext (by simp [hq])
    simp only [e]
    exact (if_neg (fun h9 => hq h9.1)).symm

end Go.Proofs.YtikchpffkhohlaaGreat
