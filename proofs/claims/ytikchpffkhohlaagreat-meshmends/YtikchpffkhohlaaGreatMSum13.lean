/- Several texts of one proof, in their order. -/
import Derived.Test.YtikchpffkhohlaaGreatMSum12
import Derived.Test.YtikchpffkhohlaaGreatMSum4

namespace Go.Proofs.YtikchpffkhohlaaGreat

open Go.RowKit CurveMath
set_option linter.unusedVariables false

theorem KeSl.agree {w : World} {B : Nat} {v : Value} {m : Nat} {UV : Nat → Value} {t t' : Kt} (h : KeSl w B v m UV t) (e : ∀ i, i < m → t.V i = t'.V i ∧ t.N i = t'.N i ∧ t.L i = t'.L i ∧ ∀ r, r < t.L i → t.X i r = t'.X i r) : KeSl w B v m UV t' := by
  obtain ⟨ad, cap, rfl, h0, h2⟩ := h
  refine ⟨ad, cap, rfl, h0, ?_⟩
  rcases h2 with h2 | ⟨b, off, rfl, h4, h5⟩
  · exact Or.inl h2
  · refine Or.inr ⟨b, off, rfl, h4, fun j hj => ?_⟩
    obtain ⟨x0, x1, x2, x3⟩ := h5 j hj
    obtain ⟨e0, e1, e2, e3⟩ := e j hj
    rw [← e0, ← e1, ← e2]
    exact ⟨x0, x1, x2, x3.congr e3⟩

theorem PsSl.agree {w : World} {B : Nat} {v : Value} {np : Nat} {KV : Nat → Value} {UV : Nat → Nat → Value} {P P' : Ps} (h : PsSl w B v np KV UV P)
    (e : ∀ k, k < np → P.th k = P'.th k ∧ P.rm k = P'.rm k ∧ P.m k = P'.m k ∧ ∀ i, i < P.m k → (P.t k).V i = (P'.t k).V i ∧ (P.t k).N i = (P'.t k).N i ∧ (P.t k).L i = (P'.t k).L i ∧ ∀ r, r < (P.t k).L i → (P.t k).X i r = (P'.t k).X i r) : PsSl w B v np KV UV P' := by
  obtain ⟨ad, cap, rfl, h0, h2⟩ := h
  refine ⟨ad, cap, rfl, h0, ?_⟩
  rcases h2 with h2 | ⟨b, off, rfl, h4, h5⟩
  · exact Or.inl h2
  · refine Or.inr ⟨b, off, rfl, h4, fun j hj => ?_⟩
    obtain ⟨x0, x1, x2, x3⟩ := h5 j hj
    obtain ⟨e0, e1, e2, e3⟩ := e j hj
    rw [← e0, ← e1, ← e2]
    exact ⟨x0, x1, x2, x3.agree e3⟩

theorem w_agree : ∀ k, k < 5 → (saveP 0 5 (freshP wX) 2 4 3 wD).th k = (wP true 7).th k ∧ (saveP 0 5 (freshP wX) 2 4 3 wD).rm k = (wP true 7).rm k ∧ (saveP 0 5 (freshP wX) 2 4 3 wD).m k = (wP true 7).m k ∧ ∀ i, i < (saveP 0 5 (freshP wX) 2 4 3 wD).m k →
    ((saveP 0 5 (freshP wX) 2 4 3 wD).t k).V i = ((wP true 7).t k).V i ∧ ((saveP 0 5 (freshP wX) 2 4 3 wD).t k).N i = ((wP true 7).t k).N i ∧ ((saveP 0 5 (freshP wX) 2 4 3 wD).t k).L i = ((wP true 7).t k).L i ∧ ∀ r, r < ((saveP 0 5 (freshP wX) 2 4 3 wD).t k).L i → ((saveP 0 5 (freshP wX) 2 4 3 wD).t k).X i r = ((wP true 7).t k).X i r := by decide +kernel

theorem ve_bool {w : World} {B g o : Nat} {v : Value} {n : Nat} {PV : Nat → Value} {b : Bk} {x : Bool} (h : VeSl w B v n PV b) (hc : w.cell? ⟨g, o, none⟩ = some (.bool x)) (u : Value) : VeSl (w.setCell ⟨g, o, none⟩ u) B v n PV b := by
  obtain ⟨ad, cap, rfl, h0, h2⟩ := h
  refine ⟨ad, cap, rfl, h0, ?_⟩
  rcases h2 with h2 | ⟨bl, off, rfl, h4, h5⟩
  · exact Or.inl h2
  · refine Or.inr ⟨bl, off, rfl, h4, fun j hj => ?_⟩
    obtain ⟨x0, x1, x2, x3, x4⟩ := h5 j hj
    have key : ∀ i z, w.cell? ⟨bl, i, none⟩ = some z → z ≠ .bool x → (w.setCell ⟨g, o, none⟩ u).cell? ⟨bl, i, none⟩ = some z := fun i z hz hne => by
      rw [cell_set_lit]
      · exact hz
      · by_cases e1 : bl = g
        · right; intro e2; rw [e1, e2, hc] at hz; injection hz with hz; exact hne hz.symm
        · exact Or.inl e1
    refine ⟨key _ _ x0 (fun e => ?_), key _ _ x1 (fun e => by cases e), key _ _ x2 (fun e => by cases e), key _ _ x3 (fun e => by cases e), isl_bool x4 hc u⟩
    obtain ⟨a, c, e2, _⟩ := x4
    rw [e2] at e
    cases e

theorem ps_there {w : World} {bl off cap : Nat} {np q : Nat} {KV : Nat → Value} {UV : Nat → Nat → Value} {P P' : Ps} (h : PsSl w w.heap.size (.slice (some ⟨bl, off, none⟩) np cap) np KV UV P) (hq : q < np) (t : Bool) (e : ∀ k, k < np → P'.th k = (if k = q then t else P.th k) ∧ P'.rm k = P.rm k ∧ P'.m k = P.m k ∧ P'.t k = P.t k) :
    PsSl (w.setCell ⟨bl, off + q * 3, none⟩ (.bool t)) (w.setCell ⟨bl, off + q * 3, none⟩ (.bool t)).heap.size (.slice (some ⟨bl, off, none⟩) np cap) np KV UV P' := by
  have hz : (w.setCell ⟨bl, off + q * 3, none⟩ (.bool t)).heap.size = w.heap.size := by simp [World.setCell]
  rw [hz]
  obtain ⟨bl', off', e1, _, hc, _, _, _⟩ := h.at hq
  injection e1 with e1
  injection e1 with e1 e2
  subst e1 e2
  obtain ⟨ad, cap', he, h0, h2⟩ := h
  injection he with he1 _ he3
  subst he1 he3
  refine ⟨_, cap, rfl, h0, ?_⟩
  rcases h2 with h2 | ⟨b, off', e1, h4, h5⟩
  · omega
  · injection e1 with e1
    injection e1 with e1 e2
    subst e1 e2
    refine Or.inr ⟨bl, off, rfl, h4, fun j hj => ?_⟩
    obtain ⟨x0, x1, x2, x3⟩ := h5 j hj
    obtain ⟨g1, g2, g3, g4⟩ := e j hj
    rw [g1, g2, g3, g4]
    refine ⟨?_, by rw [cell_set_lit (Or.inr (by omega))]; exact x1, by rw [cell_set_lit (Or.inr (by omega))]; exact x2, kel_bool x3 hc _⟩
    by_cases ej : j = q
    · subst ej; rw [if_pos rfl]; exact cell_set_same x0 _
    · rw [if_neg ej, cell_set_lit (Or.inr (by omega))]; exact x0

theorem isl_ne {w : World} {B g o : Nat} {v : Value} {m : Nat} {X : Nat → Int} {a : Int} (h : IntSl w B v m X) (hc : w.cell? ⟨g, o, none⟩ = some (.int .i64 a)) (hX : ∀ j, j < m → X j ≠ a) (u : Value) : IntSl (w.setCell ⟨g, o, none⟩ u) B v m X := by
  obtain ⟨ad, cap, rfl, h0, h2⟩ := h
  refine ⟨ad, cap, rfl, h0, ?_⟩
  rcases h2 with h2 | ⟨b, off, rfl, h4, h5⟩
  · exact Or.inl h2
  · refine Or.inr ⟨b, off, rfl, h4, fun j hj => ?_⟩
    have h6 := h5 j hj
    rw [cell_set_lit]
    · exact h6
    · by_cases e1 : b = g
      · right
        intro e2
        rw [e1, e2, hc] at h6
        injection h6 with h6
        injection h6 with _ h6
        exact hX j hj h6.symm
      · exact Or.inl e1

theorem isl_head {w : World} {B g o c : Nat} {m : Nat} {X X' : Nat → Int} {z : Int} (h : IntSl w B (.slice (some ⟨g, o, none⟩) m c) m X) (hm : 1 ≤ m) (h0 : X' 0 = z) (hX : ∀ j, j < m → j ≠ 0 → X' j = X j) : IntSl (w.setCell ⟨g, o, none⟩ (.int .i64 z)) B (.slice (some ⟨g, o, none⟩) m c) m X' := by
  obtain ⟨ad, cap, he, h1, h2⟩ := h
  injection he with he1 _ he3
  subst he1 he3
  refine ⟨_, c, rfl, h1, ?_⟩
  rcases h2 with h2 | ⟨b, off, e1, h4, h5⟩
  · omega
  · injection e1 with e1
    injection e1 with e1 e2
    subst e1 e2
    refine Or.inr ⟨g, o, rfl, h4, fun j hj => ?_⟩
    by_cases ej : j = 0
    · subst ej; rw [h0]; exact cell_set_same (h5 0 hm) _
    · rw [hX j hj ej, cell_set_lit (Or.inr (by omega))]; exact h5 j hj

theorem ve_ne {w : World} {B g o : Nat} {v : Value} {n : Nat} {PV : Nat → Value} {b : Bk} {a : Int} (h : VeSl w B v n PV b) (hc : w.cell? ⟨g, o, none⟩ = some (.int .i64 a)) (hX : ∀ j, j < n → b.nd j ≠ a ∧ b.of j ≠ a ∧ b.sz j ≠ a ∧ ∀ i, i < b.PL j → b.PX j i ≠ a) (u : Value) : VeSl (w.setCell ⟨g, o, none⟩ u) B v n PV b := by
  obtain ⟨ad, cap, rfl, h0, h2⟩ := h
  refine ⟨ad, cap, rfl, h0, ?_⟩
  rcases h2 with h2 | ⟨bl, off, rfl, h4, h5⟩
  · exact Or.inl h2
  · refine Or.inr ⟨bl, off, rfl, h4, fun j hj => ?_⟩
    obtain ⟨x0, x1, x2, x3, x4⟩ := h5 j hj
    obtain ⟨y1, y2, y3, y4⟩ := hX j hj
    have key : ∀ i z, w.cell? ⟨bl, i, none⟩ = some z → z ≠ .int .i64 a → (w.setCell ⟨g, o, none⟩ u).cell? ⟨bl, i, none⟩ = some z := fun i z hz hne => by
      rw [cell_set_lit]
      · exact hz
      · by_cases e1 : bl = g
        · right; intro e2; rw [e1, e2, hc] at hz; injection hz with hz; exact hne hz.symm
        · exact Or.inl e1
    refine ⟨key _ _ x0 (fun e => ?_), key _ _ x1 (fun e => by injection e with _ e; exact y1 e), key _ _ x2 (fun e => by injection e with _ e; exact y2 e), key _ _ x3 (fun e => by injection e with _ e; exact y3 e), isl_ne x4 hc y4 u⟩
    obtain ⟨a', c, e2, _⟩ := x4
    rw [e2] at e
    cases e

theorem ps_ne {w : World} {B g o : Nat} {v : Value} {np : Nat} {KV : Nat → Value} {UV : Nat → Nat → Value} {P P' : Ps} {a : Int} {u : Value} (h : PsSl w B v np KV UV P) (hc : w.cell? ⟨g, o, none⟩ = some (.int .i64 a))
    (e : ∀ k, k < np → P'.th k = P.th k ∧ P'.rm k = P.rm k ∧ P'.m k = P.m k ∧ P.rm k ≠ a ∧ ∀ i, i < P.m k → ((P'.t k).V i = (P.t k).V i ∧ (P'.t k).N i = (P.t k).N i) ∧ (P.t k).V i ≠ a ∧ (P.t k).N i ≠ a)
    (hx : ∀ k, k < np → ∀ i, i < P.m k → IntSl (w.setCell ⟨g, o, none⟩ u) B (UV k i) ((P'.t k).L i) ((P'.t k).X i)) : PsSl (w.setCell ⟨g, o, none⟩ u) B v np KV UV P' := by
  have key : ∀ b i z, w.cell? ⟨b, i, none⟩ = some z → z ≠ .int .i64 a → (w.setCell ⟨g, o, none⟩ u).cell? ⟨b, i, none⟩ = some z := fun b i z hz hne => by
    rw [cell_set_lit]
    · exact hz
    · by_cases e1 : b = g
      · right; intro e2; rw [e1, e2, hc] at hz; injection hz with hz; exact hne hz.symm
      · exact Or.inl e1
  obtain ⟨ad, cap, rfl, h0, h2⟩ := h
  refine ⟨ad, cap, rfl, h0, ?_⟩
  rcases h2 with h2 | ⟨bl, off, rfl, h4, h5⟩
  · exact Or.inl h2
  · refine Or.inr ⟨bl, off, rfl, h4, fun k hk => ?_⟩
    obtain ⟨x0, x1, x2, x3⟩ := h5 k hk
    obtain ⟨y1, y2, y3, y4, y5⟩ := e k hk
    rw [y1, y2, y3]
    refine ⟨key _ _ _ x0 (fun e => by cases e), key _ _ _ x1 (fun e => by injection e with _ e; exact y4 e), key _ _ _ x2 (fun e => ?_), ?_⟩
    · obtain ⟨a', c, e2, _⟩ := x3
      rw [e2] at e
      cases e
    · obtain ⟨ad', cap', he, g0, g2⟩ := x3
      refine ⟨ad', cap', he, g0, ?_⟩
      rcases g2 with g2 | ⟨b2, o2, rfl, g4, g5⟩
      · exact Or.inl g2
      · refine Or.inr ⟨b2, o2, rfl, g4, fun i hi => ?_⟩
        obtain ⟨z0, z1, z2, z3⟩ := g5 i hi
        obtain ⟨⟨t0, t1⟩, t2, t3⟩ := y5 i hi
        rw [t0, t1]
        refine ⟨key _ _ _ z0 (fun e => by injection e with _ e; exact t2 e), key _ _ _ z1 (fun e => by injection e with _ e; exact t3 e), key _ _ _ z2 (fun e => ?_), hx k hk i hi⟩
        obtain ⟨a', c, e2, _⟩ := z3
        rw [e2] at e
        cases e

theorem NewP.set {B : Nat} {w : World} {vl : Value} {np : Nat} {KV : Nat → Value} {UV : Nat → Nat → Value} {P P' : Ps} (h : NewP B w vl np KV UV P) (e : ∀ k, k < np → P'.m k = P.m k ∧ ∀ i, i < P.m k → (P'.t k).L i = (P.t k).L i) (a : Addr) (u : Value) : NewP B (w.setCell a u) vl np KV UV P' :=
  ⟨h.1.set a u, fun k hk => ⟨(h.2 k hk).1.set a u, fun i hi => by
    rw [(e k hk).1] at hi
    rw [(e k hk).2 i hi]
    exact ((h.2 k hk).2 i hi).imp id fun h => h.set a u⟩⟩

theorem NewP.up {B : Nat} {w w' : World} {vl : Value} {np : Nat} {KV : Nat → Value} {UV : Nat → Nat → Value} {P : Ps} (h : NewP B w vl np KV UV P) (hb : Below w.heap.size w w') : NewP B w' vl np KV UV P :=
  ⟨h.1.up hb, fun k hk => ⟨(h.2 k hk).1.up hb, fun i hi => ((h.2 k hk).2 i hi).imp id fun h => h.up hb⟩⟩

theorem NewP.mono {B B' : Nat} {w : World} {vl : Value} {np : Nat} {KV : Nat → Value} {UV : Nat → Nat → Value} {P : Ps} (h : NewP B w vl np KV UV P) (hb : B' ≤ B) : NewP B' w vl np KV UV P :=
  ⟨h.1.mono hb, fun k hk => ⟨(h.2 k hk).1.mono hb, fun i hi => ((h.2 k hk).2 i hi).imp id fun h => h.mono hb⟩⟩

end Go.Proofs.YtikchpffkhohlaaGreat

namespace Go.Proofs.YtikchpffkhohlaaGreat

open Go.RowKit CurveMath
set_option linter.unusedVariables false

theorem mesh_openN {w : World} {er : Int} {n : Nat} {b : Bk} {np : Nat} {P : Ps} {e : Ending} {w' : World} (h : MeshPostN w er n b np P e w') :
    Below w.heap.size w w' ∧ ∃ (ab : Option Addr) (n' cb : Nat) (PV : Nat → Value) (al : Option Addr) (np' cl : Nat) (KV : Nat → Value) (UV : Nat → Nat → Value), e = .returned (.tuple #[.agg #[.slice ab n' cb, .slice al np' cl], .int .i64 er]) ∧
      n' = (if er = 0 then n else 0) ∧ np' = (if er = 0 then np else 0) ∧ VeSl w' w'.heap.size (.slice ab n' cb) n' PV b ∧ PsSl w' w'.heap.size (.slice al np' cl) np' KV UV P ∧ NewP w.heap.size w' (.slice al np' cl) np' KV UV P := by
  obtain ⟨h1, vb, vl, n', np', PV, KV, UV, rfl, h3, h4, h5, h6, h7, _⟩ := h
  have h5' := h5
  have h6' := h6
  obtain ⟨ab, cb, rfl, _, _⟩ := h5'
  obtain ⟨al, cl, rfl, _, _⟩ := h6'
  exact ⟨h1, ab, n', cb, PV, al, np', cl, KV, UV, rfl, h3, h4, h5, h6, h7⟩

theorem isl_five {w : World} {g : Nat} {T : TypeId} (h : w.heap[g]? = some (.cells #[.int .i64 2, .int .i64 2, .int .i64 2, .int .i64 2, .int .i64 2] T (0, 0))) : IntSl w w.heap.size (.slice (some ⟨g, 0, none⟩) 5 5) 5 wX :=
  ⟨_, _, rfl, ⟨Nat.le_refl _, by omega⟩, Or.inr ⟨g, 0, rfl, (Array.getElem?_eq_some_iff.1 h).1, fun j hj => by
    match j, hj with
    | 0, _ => exact cell_at h rfl
    | 1, _ => exact cell_at h rfl
    | 2, _ => exact cell_at h rfl
    | 3, _ => exact cell_at h rfl
    | 4, _ => exact cell_at h rfl⟩⟩

theorem isl_579 {w : World} {g : Nat} {T : TypeId} (h : w.heap[g]? = some (.cells #[.int .i64 5, .int .i64 7, .int .i64 9] T (0, 0))) : IntSl w w.heap.size (.slice (some ⟨g, 0, none⟩) 3 3) 3 wD :=
  ⟨_, _, rfl, ⟨Nat.le_refl _, by omega⟩, Or.inr ⟨g, 0, rfl, (Array.getElem?_eq_some_iff.1 h).1, fun j hj => by
    match j, hj with
    | 0, _ => exact cell_at h rfl
    | 1, _ => exact cell_at h rfl
    | 2, _ => exact cell_at h rfl⟩⟩

def BegunPost (w : World) (e : Ending) (w' : World) : Prop :=
  Below w.heap.size w w' ∧ ∃ (ab : Option Addr) (cb : Nat) (PV : Nat → Value) (al : Option Addr) (cl : Nat) (KV : Nat → Value) (UV : Nat → Nat → Value), e = .returned (.tuple #[.agg #[.slice ab 1 cb, .slice al 5 cl], .int .i64 0]) ∧
    VeSl w' w'.heap.size (.slice ab 1 cb) 1 PV wB ∧ PsSl w' w'.heap.size (.slice al 5 cl) 5 KV UV (wP true 7) ∧ NewP w.heap.size w' (.slice al 5 cl) 5 KV UV (wP true 7)

set_option maxHeartbeats 4000000 in
set_option maxRecDepth 10000 in
theorem begun_any (hO : MeshCore) (w : World) : Calls Tryz.prog 53 #[] w (BegunPost w) := by
  have HO := hid hO
  have hb0 := ((Below.refl w.heap.size w).alloc (Nat.le_refl _) (.cells #[.slice none 0 0, .slice none 0 0] 27)).alloc (by simp) (.cells #[.int .i64 2, .int .i64 2, .int .i64 2, .int .i64 2, .int .i64 2] 3)
  have k1 := heap_two_old w (.cells #[.slice none 0 0, .slice none 0 0] 27) (.cells #[.int .i64 2, .int .i64 2, .int .i64 2, .int .i64 2, .int .i64 2] 3)
  have k2 := heap_two_new w (.cells #[.slice none 0 0, .slice none 0 0] 27) (.cells #[.int .i64 2, .int .i64 2, .int .i64 2, .int .i64 2, .int .i64 2] 3)
  obtain ⟨W0, hW0⟩ : ∃ W, (w.alloc (.cells #[.slice none 0 0, .slice none 0 0] 27)).alloc (.cells #[.int .i64 2, .int .i64 2, .int .i64 2, .int .i64 2, .int .i64 2] 3) = W := ⟨_, rfl⟩
  rw [hW0] at hb0 k1 k2
  have CK := hid (HO.out.new _ 5 wX W0 (isl_five k2) (by omega))
  rw [w_new] at CK
  have B0 := hid hb0
  have K1 := hid k1
  clear hb0 k1 k2 hO
  go_enter Tryz.func53, Tryz.ntmps53
  go_wp2_with fail
  refine Calls.mono CK.out ?_
  rintro e W1 hM
  obtain ⟨hb1, ab, n1, cb, PV, al, np1, cl, KV, UV, rfl, hn1, hp1, hv1, hl1, _⟩ := mesh_openN hM
  rw [if_pos rfl] at hn1 hp1
  subst hn1 hp1
  have hbM := below_alloc W1 (.cells #[.slice ab 0 cb, .slice al 5 cl] 27)
  have hx := MsAt.box hv1 hl1
  obtain ⟨V1, hV1⟩ : ∃ v, World.alloc W1 (.cells #[.slice ab 0 cb, .slice al 5 cl] 27) = v := ⟨_, rfl⟩
  rw [hV1] at hbM hx
  have hbD := below_alloc V1 (.cells #[.int .i64 5, .int .i64 7, .int .i64 9] 3)
  have kd := heap_alloc_new V1 (.cells #[.int .i64 5, .int .i64 7, .int .i64 9] 3)
  obtain ⟨V2, hV2⟩ : ∃ v, World.alloc V1 (.cells #[.int .i64 5, .int .i64 7, .int .i64 9] 3) = v := ⟨_, rfl⟩
  rw [hV2] at hbD kd
  have hb12 := hb1.trans ((hbM.trans (hbD.mono hbM.size)).mono hb1.size)
  have B2 := hid (B0.out.trans (hb12.mono B0.out.size))
  have K1 := hid (stayB K1.out hb12)
  have X1 := hid (hx.up hbD)
  have CS := hid (HO.out.save _ 0 PV noB _ 5 KV UV (freshP wX) _ 3 wD (.slice none 0 0) 0 w0 2 4 V2 X1.out.2.1 X1.out.2.2 (isl_579 kd) ⟨none, 0, rfl, ⟨Nat.le_refl _, by omega⟩, Or.inl rfl⟩)
  rw [w_save] at CS
  unfold meshV at CS
  obtain ⟨c0, c1⟩ := hx.cells
  clear hM hb1 hbM hbD hb12 hx kd hv1 hl1 CK
  go_wp2_with fail
  refine Calls.mono CS.out ?_
  rintro e W3 hM
  obtain ⟨hb3, ab3, n3, cb3, PV3, al3, np3, cl3, KV3, UV3, rfl, hn3, hp3, hv3, hl3, hN3⟩ := mesh_openN hM
  rw [if_pos rfl] at hn3 hp3
  subst hn3 hp3
  have B3 := hid (B2.out.trans (hb3.mono B2.out.size))
  have o3 := stayB K1.out hb3
  have HO3 := hid o3
  have HV3 := hid hv3
  have HL3 := hid hl3
  have HN3 := hid hN3
  obtain ⟨r1, r2⟩ := two_at o3
  have f1 := frozen_at (i := 0) o3
  have f2 := frozen_at (i := 1) o3
  clear hM hb3 o3 hv3 hl3 hN3 CS c0 c1
  go_wp2
  refine bodyPost_ret (results_cell2 rfl _ _ w.heap.size 27 #[.slice ab3 1 cb3, .slice al3 5 cl3] (0, 0) _ rfl (put2_whole HO3.out _ _) Tryz.underlying27 rfl (by kernel_rfl)) rfl ?_
  have hag : ∀ k, k < 5 → (wP true 7).m k = (saveP 0 5 (freshP wX) 2 4 3 wD).m k ∧ ∀ i, i < (saveP 0 5 (freshP wX) 2 4 3 wD).m k → ((wP true 7).t k).L i = ((saveP 0 5 (freshP wX) 2 4 3 wD).t k).L i := fun k hk => ⟨(w_agree k hk).2.2.1.symm, fun i hi => ((w_agree k hk).2.2.2 i hi).2.2.1.symm⟩
  exact ⟨put2_below B3.out (Nat.le_refl _), ab3, cb3, PV3, al3, cl3, KV3, UV3, rfl, ve_put2 HO3.out HV3.out _, (ps_put2 HO3.out HL3.out _ _).agree w_agree, ((HN3.out.mono B2.out.size).set (P' := saveP 0 5 (freshP wX) 2 4 3 wD) (fun k hk => ⟨rfl, fun i hi => rfl⟩) _ _).set hag _ _⟩

end Go.Proofs.YtikchpffkhohlaaGreat

namespace Go.Proofs.YtikchpffkhohlaaGreat

open Go.RowKit CurveMath
set_option linter.unusedVariables false

theorem eqB_self (n : Nat) (X : Nat → Int) : eqB n n X X = true := decide_eq_true ⟨rfl, fun _ _ => rfl⟩

theorem bookB_self (n : Nat) (b : Bk) : bookB n n b b = true := by
  have h : ∀ f k, restB b b f k = true := by
    intro f
    induction f with
    | zero => intro k; rfl
    | succ f ih =>
      intro k
      simp only [restB]
      rw [ih, Bool.and_true]
      unfold verB
      rw [eqB_self]
      simp
  unfold bookB
  rw [h, decide_eq_true rfl]
  rfl

theorem meshB_self (n : Nat) (b : Bk) (np : Nat) (P : Ps) : meshB n n b b np np P P = true := by
  unfold meshB peersB
  rw [bookB_self, restP_refl, decide_eq_true rfl]
  rfl

theorem drewN_up (w : World) (k : Nat) : Below w.heap.size w (w.drewN k) := ⟨rfl, rfl, rfl, Nat.le_refl _, fun _ _ => rfl⟩

end Go.Proofs.YtikchpffkhohlaaGreat

namespace Go.Proofs.YtikchpffkhohlaaGreat

open Go.RowKit CurveMath
set_option linter.unusedVariables false

structure WvAt (B : Nat) (w : World) (g1 : Nat) (ab : Option Addr) (cb : Nat) (PV : Nat → Value) (bl off cl : Nat) (KV : Nat → Value) (UV : Nat → Nat → Value) (bk ok ck bu ou cu : Nat) (t0 : Bool) (x : Int) : Prop where
  box : MsAt w g1 ab 1 cb PV wB (some ⟨bl, off, none⟩) 5 cl KV UV (wP t0 x)
  new : NewP B w (.slice (some ⟨bl, off, none⟩) 5 cl) 5 KV UV (wP t0 x)
  k1 : KV 1 = .slice (some ⟨bk, ok, none⟩) 1 ck
  u1 : UV 1 0 = .slice (some ⟨bu, ou, none⟩) 2 cu
  ne1 : bl ≠ g1
  ne2 : bu ≠ g1

section

variable {B : Nat} {w w' : World} {g1 : Nat} {ab : Option Addr} {cb : Nat} {PV : Nat → Value} {bl off cl : Nat} {KV : Nat → Value} {UV : Nat → Nat → Value} {bk ok ck bu ou cu : Nat} {t0 : Bool} {x : Int}

theorem WvAt.up (h : WvAt B w g1 ab cb PV bl off cl KV UV bk ok ck bu ou cu t0 x) (hb : Below w.heap.size w w') : WvAt B w' g1 ab cb PV bl off cl KV UV bk ok ck bu ou cu t0 x :=
  ⟨h.box.up hb, h.new.up hb, h.k1, h.u1, h.ne1, h.ne2⟩

theorem WvAt.cells (h : WvAt B w g1 ab cb PV bl off cl KV UV bk ok ck bu ou cu t0 x) : (w.cell? ⟨g1, 0, none⟩ = some (.slice ab 1 cb) ∧ w.cell? ⟨g1, 1, none⟩ = some (.slice (some ⟨bl, off, none⟩) 5 cl)) ∧ (w.cell? ⟨bl, off, none⟩ = some (.bool t0) ∧ w.frozen? ⟨bl, off, none⟩ = false) ∧
    w.cell? ⟨bl, off + 3 + 2, none⟩ = some (.slice (some ⟨bk, ok, none⟩) 1 ck) ∧ w.cell? ⟨bk, ok + 1 + 1, none⟩ = some (.slice (some ⟨bu, ou, none⟩) 2 cu) ∧ (w.cell? ⟨bu, ou, none⟩ = some (.int .i64 x) ∧ w.frozen? ⟨bu, ou, none⟩ = false) := by
  obtain ⟨bl', off', e, _, c0, _, _, _⟩ := h.box.2.2.at (i := 0) (by omega)
  injection e with e
  injection e with e1 e2
  subst e1 e2
  obtain ⟨bl', off', e, _, _, _, c2, ke⟩ := h.box.2.2.at (i := 1) (by omega)
  injection e with e
  injection e with e1 e2
  subst e1 e2
  rw [h.k1] at c2 ke
  obtain ⟨ad, cap, e, _, h2⟩ := ke
  injection e with e1 _ _
  rcases h2 with h2 | ⟨b2, o2, e3, _, h5⟩
  · exact absurd h2 (by show ¬ (1 : Nat) = 0; decide)
  · rw [← e1] at e3
    injection e3 with e3
    injection e3 with e4 e5
    subst e4 e5
    obtain ⟨_, _, d2, d3⟩ := h5 0 (by show (0 : Nat) < 1; decide)
    rw [h.u1] at d2 d3
    have hd3 := d3
    obtain ⟨ad', cap', e', _, g2⟩ := hd3
    injection e' with e1' _ _
    have hx0 : w.cell? ⟨bu, ou, none⟩ = some (.int .i64 x) := by
      rcases g2 with g2 | ⟨b3, o3, e3', _, g5⟩
      · exact absurd g2 (by show ¬ (2 : Nat) = 0; decide)
      · rw [← e1'] at e3'
        injection e3' with e3'
        injection e3' with e4 e5
        subst e4 e5
        have g6 := g5 0 (by show (0 : Nat) < 2; decide)
        exact g6
    have hfr := ((h.new.2 1 (by omega)).2 0 (by show (0 : Nat) < 1; decide)).resolve_left (by show ¬ (2 : Nat) = 0; decide)
    rw [h.u1] at hfr
    refine ⟨h.box.cells, ⟨?_, (h.new.1 _ _ _ rfl).2.2 off⟩, ?_, ?_, hx0, (hfr _ _ _ rfl).2.2 ou⟩
    · have h9 : w.cell? ⟨bl, off + 0 * 3, none⟩ = some (.bool t0) := c0
      rw [Nat.zero_mul, Nat.add_zero] at h9
      exact h9
    · have h9 : w.cell? ⟨bl, off + 1 * 3 + 2, none⟩ = some (.slice (some ⟨bk, ok, none⟩) 1 ck) := c2
      rw [Nat.one_mul] at h9
      exact h9
    · have h9 : w.cell? ⟨bk, ok + 0 * 3 + 2, none⟩ = some (.slice (some ⟨bu, ou, none⟩) 2 cu) := d2
      rw [Nat.zero_mul, Nat.add_zero] at h9
      exact h9

theorem wv_book : ∀ a : Int, a = 7 ∨ a = 8 → ∀ j, j < 1 → wB.nd j ≠ a ∧ wB.of j ≠ a ∧ wB.sz j ≠ a ∧ ∀ i, i < wB.PL j → wB.PX j i ≠ a := by
  intro a ha j hj
  obtain rfl : j = 0 := by omega
  rcases ha with rfl | rfl <;> refine ⟨by decide, by decide, by decide, fun i hi => absurd hi ?_⟩ <;> exact Nat.not_lt_zero _

theorem WvAt.goes (h : WvAt B w g1 ab cb PV bl off cl KV UV bk ok ck bu ou cu t0 x) : WvAt B (w.setCell ⟨bl, off, none⟩ (.bool false)) g1 ab cb PV bl off cl KV UV bk ok ck bu ou cu false x := by
  have hc := h.cells.2.1.1
  have hz : (w.setCell ⟨bl, off, none⟩ (.bool false)).heap.size = w.heap.size := by simp [World.setCell]
  have hp := ps_there (P' := wP false x) h.box.2.2 (q := 0) (by omega) false (fun k hk => ⟨by simp only [wP]; by_cases e : k = 0 <;> simp [e], rfl, rfl, rfl⟩)
  rw [Nat.zero_mul, Nat.add_zero] at hp
  refine ⟨⟨?_, ?_, hp⟩, h.new.set (fun k hk => ⟨rfl, fun i hi => rfl⟩) _ _, h.k1, h.u1, h.ne1, h.ne2⟩
  · rw [Below.heap_setCell _ _ _ _ (by show g1 ≠ bl; exact fun e => h.ne1 e.symm)]; exact h.box.1
  · rw [hz]; exact ve_bool h.box.2.1 hc _

theorem WvAt.bends (h : WvAt B w g1 ab cb PV bl off cl KV UV bk ok ck bu ou cu t0 x) (hx : x = 7 ∨ x = 8) (z : Int) : WvAt B (w.setCell ⟨bu, ou, none⟩ (.int .i64 z)) g1 ab cb PV bl off cl KV UV bk ok ck bu ou cu t0 z := by
  have hc := h.cells.2.2.2.2.1
  have hz : (w.setCell ⟨bu, ou, none⟩ (.int .i64 z)).heap.size = w.heap.size := by simp [World.setCell]
  refine ⟨⟨?_, ?_, ?_⟩, h.new.set (fun k hk => ⟨rfl, fun i hi => rfl⟩) _ _, h.k1, h.u1, h.ne1, h.ne2⟩
  · rw [Below.heap_setCell _ _ _ _ (by show g1 ≠ bu; exact fun e => h.ne2 e.symm)]; exact h.box.1
  · rw [hz]; exact ve_ne h.box.2.1 hc (wv_book x hx) _
  · rw [hz]
    refine ps_ne (P' := wP t0 z) h.box.2.2 hc (fun k hk => ⟨rfl, rfl, rfl, by rcases hx with rfl | rfl <;> simp [wP], fun i hi => ⟨⟨rfl, rfl⟩, by rcases hx with rfl | rfl <;> simp [wP], by rcases hx with rfl | rfl <;> simp [wP] <;> omega⟩⟩) (fun k hk i hi => ?_)
    obtain ⟨_, _, _, _, _, _, _, ke⟩ := h.box.2.2.at hk
    obtain ⟨_, _, _, _, h2⟩ := ke
    rcases h2 with h2 | ⟨_, _, _, _, h5⟩
    · omega
    have h6 := (h5 i hi).2.2.2
    by_cases e : k = 1
    · subst e
      obtain rfl : i = 0 := by have : (wP t0 x).m 1 = 1 := rfl; omega
      rw [h.u1] at h6 ⊢
      exact isl_head (X' := ((wP t0 z).t 1).X 0) h6 (by show (1 : Nat) ≤ 2; decide) rfl (fun j hj hne => by simp [wP, hne])
    · have hX : ((wP t0 z).t k).X i = ((wP t0 x).t k).X i := by simp [wP, e]
      have hL : ((wP t0 z).t k).L i = ((wP t0 x).t k).L i := rfl
      rw [hX, hL]
      refine isl_ne h6 hc (fun j hj => ?_) _
      have hj2 : j < 2 := hj
      have hk4 : k < 4 := by
        rcases Nat.lt_or_ge k 4 with h9 | h9
        · exact h9
        · have : (wP t0 x).m k = 0 := by simp [wP]; omega
          omega
      have hval : ((wP t0 x).t k).X i j = ([[(5 : Int), 9], [7, 0], [9, 22], [11, 13]].getD k []).getD j 0 := by simp [wP, e]
      rw [hval]
      have key : ∀ k, k < 4 → k ≠ 1 → ∀ j, j < 2 → ([[(5 : Int), 9], [7, 0], [9, 22], [11, 13]].getD k []).getD j 0 ≠ 7 ∧ ([[(5 : Int), 9], [7, 0], [9, 22], [11, 13]].getD k []).getD j 0 ≠ 8 := by decide
      rcases hx with rfl | rfl
      · exact (key k hk4 e j hj2).1
      · exact (key k hk4 e j hj2).2

end

end Go.Proofs.YtikchpffkhohlaaGreat

namespace Go.Proofs.YtikchpffkhohlaaGreat

open Go.RowKit CurveMath
set_option linter.unusedVariables false

theorem w_sz : wB.sz (0 : Int).toNat = 3 := by decide

set_option maxHeartbeats 8000000 in
set_option maxRecDepth 10000 in
theorem woven_any (hO : MeshOwes) (w : World) : Calls Tryz.prog 18 #[] w fun e w' => e = .returned (.bool true) ∧ Below w.heap.size w w' := by
  have HO := hid hO
  clear hO
  go_enter Tryz.func18, Tryz.ntmps18
  go_wp2_with fail
  refine Calls.mono (begun_any HO.out.toMeshCore w) ?_
  rintro e W1 ⟨hb1, ab, cb, PV, al, cl, KV, UV, rfl, hv1, hl1, hN1⟩
  have hbM := below_alloc W1 (.cells #[.slice ab 1 cb, .slice al 5 cl] 27)
  have hx := MsAt.box hv1 hl1
  obtain ⟨bl, off, hal, hbl, _, _, _, _⟩ := hl1.at (i := 0) (by omega)
  obtain ⟨bl', off', hal', _, _, _, _, ke⟩ := hl1.at (i := 1) (by omega)
  subst hal
  injection hal' with hal'
  injection hal' with e1 e2
  subst e1 e2
  obtain ⟨ak, ck, hke, _, hk1⟩ := ke
  rcases hk1 with hk1 | ⟨bk, ok, rfl, hbk, hk1⟩
  · exact absurd hk1 (by show ¬ (1 : Nat) = 0; decide)
  obtain ⟨au, cu, hue, _, hu1⟩ := (hk1 0 (by show (0 : Nat) < 1; decide)).2.2.2
  rcases hu1 with hu1 | ⟨bu, ou, rfl, hbu, hu1⟩
  · exact absurd hu1 (by show ¬ (2 : Nat) = 0; decide)
  obtain ⟨V1, hV1⟩ : ∃ v, World.alloc W1 (.cells #[.slice ab 1 cb, .slice (some ⟨bl, off, none⟩) 5 cl] 27) = v := ⟨_, rfl⟩
  rw [hV1] at hbM hx
  obtain ⟨g1, hg1⟩ : ∃ g, W1.heap.size = g := ⟨_, rfl⟩
  have A1 : Hid (WvAt w.heap.size V1 g1 ab cb PV bl off cl KV UV bk ok ck bu ou cu true 7) := ⟨by rw [← hg1]; exact hx, hN1.up hbM, hke, hue, by omega, by omega⟩
  have B1 := hid (hb1.trans (hbM.mono hb1.size))
  have hlo : w.heap.size ≤ bl := (hN1.1 _ _ _ rfl).1
  have hlo2 : w.heap.size ≤ bu := by
    have h9 := ((hN1.2 1 (by omega)).2 0 (by show (0 : Nat) < 1; decide)).resolve_left (by show ¬ (2 : Nat) = 0; decide)
    rw [hue] at h9
    exact (h9 _ _ _ rfl).1
  have HLo := hid hlo
  have HLo2 := hid hlo2
  obtain ⟨⟨c0, c1⟩, ⟨t0, f0⟩, u2, v2, ⟨x0, fx⟩⟩ := A1.out.cells
  have A2 := hid A1.out.goes
  have B2 := hid (B1.out.setCell (p := ⟨bl, off, none⟩) (by show w.heap.size ≤ bl; exact HLo.out) (.bool false))
  obtain ⟨V2, hV2⟩ : ∃ v, V1.setCell ⟨bl, off, none⟩ (.bool false) = v := ⟨_, rfl⟩
  rw [hV2] at A2 B2
  obtain ⟨⟨d0, d1⟩, _, d2, e2, ⟨y0, fy⟩⟩ := A2.out.cells
  have A3 := hid (A2.out.bends (Or.inl rfl) 8)
  have B3 := hid (B2.out.setCell (p := ⟨bu, ou, none⟩) (by show w.heap.size ≤ bu; exact HLo2.out) (.int .i64 8))
  obtain ⟨V3, hV3⟩ : ∃ v, V2.setCell ⟨bu, ou, none⟩ (.int .i64 8) = v := ⟨_, rfl⟩
  rw [hV3] at A3 B3
  obtain ⟨⟨i0, i1⟩, _⟩ := A3.out.cells
  have CK := hid (HO.out.restore _ 1 PV wB _ 5 KV UV (wP false 8) 0 V3 A3.out.box.2.1 A3.out.box.2.2)
  unfold meshV at CK
  clear hbM hx hb1 hv1 hl1 hN1 hk1 hu1 hbl hbk hbu hlo hlo2 hke hue
  go_wp2_with fail
  refine Calls.mono CK.out ?_
  rintro e u4 hM
  obtain ⟨hb, ra1, rm1, rc1, sa1, sc1, rfl, hrm1, _, hs1⟩ := rest_open hM
  rw [w_e8, w_b8]
  have A4 := hid (A3.out.up hb)
  have B4 := hid (B3.out.trans (hb.mono B3.out.size))
  clear hM hb CK hrm1 hs1 c0 c1 t0 f0 u2 v2 x0 fx d0 d1 d2 e2 y0 fy i0 i1 hV1 hV2 hV3 A1 A2 A3 B1 B2 B3
  obtain ⟨⟨c0, c1⟩, _, u2, v2, ⟨x0, fx⟩⟩ := A4.out.cells
  have A5 := hid (A4.out.bends (Or.inr rfl) 7)
  have B5 := hid (B4.out.setCell (p := ⟨bu, ou, none⟩) (by show w.heap.size ≤ bu; exact HLo2.out) (.int .i64 7))
  obtain ⟨V5, hV5⟩ : ∃ v, u4.setCell ⟨bu, ou, none⟩ (.int .i64 7) = v := ⟨_, rfl⟩
  rw [hV5] at A5 B5
  obtain ⟨⟨d0, d1⟩, _⟩ := A5.out.cells
  have CK := hid (HO.out.restore _ 1 PV wB _ 5 KV UV (wP false 7) 0 V5 A5.out.box.2.1 A5.out.box.2.2)
  unfold meshV at CK
  go_wp2_with fail
  refine Calls.mono CK.out ?_
  rintro e u6 hM
  obtain ⟨hb, ra2, rm2, rc2, sa2, sc2, rfl, hrm2, hr2, hs2⟩ := rest_open hM
  rw [w_e7, w_b7]
  rw [w_e7, if_pos rfl, w_sz] at hrm2
  obtain rfl : rm2 = 3 := by omega
  have A6 := hid (A5.out.up hb)
  have B6 := hid (B5.out.trans (hb.mono B5.out.size))
  have R6 := hid hr2
  clear hM hb CK hrm2 hr2 hs2 c0 c1 u2 v2 x0 fx d0 d1 hV5 A4 A5 B4 B5
  obtain ⟨⟨c0, c1⟩, _⟩ := A6.out.cells
  have CK := hid (HO.out.repair _ 1 PV wB _ 5 KV UV (wP false 7) 0 u6 A6.out.box.2.1 A6.out.box.2.2)
  rw [w_mend] at CK
  unfold meshV at CK
  go_wp2_with fail
  refine Calls.mono CK.out ?_
  rintro e u7 hM
  obtain ⟨hb, ab7, n7, cb7, PV7, al7, np7, cl7, KV7, UV7, rfl, hn7, hp7, hv7, hl7⟩ := mesh_open hM.old
  rw [if_pos rfl] at hn7 hp7
  subst hn7 hp7
  have hb2 := below_alloc u7 (.cells #[.slice ab7 1 cb7, .slice al7 5 cl7] 27)
  have hx := MsAt.box hv7 hl7
  obtain ⟨V7, hV7⟩ : ∃ v, World.alloc u7 (.cells #[.slice ab7 1 cb7, .slice al7 5 cl7] 27) = v := ⟨_, rfl⟩
  rw [hV7] at hb2 hx
  replace hb := hb.trans (hb2.mono hb.size)
  have A7 := hid (A6.out.up hb)
  have B7 := hid (B6.out.trans (hb.mono B6.out.size))
  have R7 := hid (R6.out.up hb)
  obtain ⟨g7, hg7⟩ : ∃ g, u7.heap.size = g := ⟨_, rfl⟩
  rw [hg7] at hx
  have X7 := hid hx
  clear hM hb hb2 hx hv7 hl7 CK c0 c1 A6 B6 R6
  obtain ⟨⟨c0, c1⟩, _⟩ := A7.out.cells
  have CK := hid (HO.out.restore _ 1 PV wB _ 5 KV UV (wP false 7) 1 V7 A7.out.box.2.1 A7.out.box.2.2)
  unfold meshV at CK
  go_wp2_with fail
  refine Calls.mono CK.out ?_
  rintro e u8 hM
  obtain ⟨hb, ra3, rm3, rc3, sa3, sc3, rfl, hrm3, _, hs3⟩ := rest_open hM
  rw [w_none]
  have B8 := hid (B7.out.trans (hb.mono B7.out.size))
  have R8 := hid (R7.out.up hb)
  have X8 := hid (X7.out.up hb)
  clear hM hb CK hrm3 hs3 c0 c1 A7 B7 R7 X7 hV7
  have hbD := below_alloc u8 (.cells #[.int .i64 5, .int .i64 7, .int .i64 9] 3)
  have kd := heap_alloc_new u8 (.cells #[.int .i64 5, .int .i64 7, .int .i64 9] 3)
  obtain ⟨V8, hV8⟩ : ∃ v, World.alloc u8 (.cells #[.int .i64 5, .int .i64 7, .int .i64 9] 3) = v := ⟨_, rfl⟩
  rw [hV8] at hbD kd
  have CK := hid (equal_isl (R8.out.up hbD) (isl_579 kd))
  rw [w_d7] at CK
  have B9 := hid (B8.out.trans (hbD.mono B8.out.size))
  have X9 := hid (X8.out.up hbD)
  clear hbD kd
  go_wp2_with fail
  refine Calls.mono CK.out ?_
  rintro e y1 ⟨rfl, j1, hy1⟩
  have hb : Below V8.heap.size V8 y1 := by rw [hy1]; exact drewN_up _ _
  have B10 := hid (B9.out.trans (hb.mono B9.out.size))
  have X10 := hid (X9.out.up hb)
  clear hb hy1 CK hV8 B8 B9 X8 X9 R8
  obtain ⟨c0, c1⟩ := X10.out.cells
  obtain ⟨b9, o9, hal9, _, _, _, q2, ke⟩ := X10.out.2.2.at (i := 4) (by omega)
  subst hal9
  obtain ⟨ak9, ck9, hke9, _, hk9⟩ := ke
  rw [hke9, w_m4.1] at q2
  rw [w_m4.1] at hk9
  rcases hk9 with hk9 | ⟨bk9, ok9, rfl, _, hk9⟩
  · exact absurd hk9 (by decide)
  have q3 := (hk9 0 (by decide)).2.1
  rw [w_m4.2] at q3
  simp only [Nat.zero_mul, Nat.add_zero] at q3
  have q2' : y1.cell? ⟨b9, o9 + 12 + 2, none⟩ = some (.slice (some ⟨bk9, ok9, none⟩) 1 ck9) := q2
  have CK := hid (HO.out.check _ 1 PV7 wB _ 5 KV7 UV7 (mendP wB 5 (wP false 7) 0) y1 X10.out.2.1 X10.out.2.2)
  rw [w_mok] at CK
  unfold meshV at CK
  clear q2 hk9
  go_wp2_with fail
  refine Calls.mono CK.out ?_
  rintro e y2 ⟨rfl, hb⟩
  have B11 := hid (B10.out.trans (hb.mono B10.out.size))
  have X11 := hid (X10.out.up hb)
  clear hb CK c0 c1 q2' q3 B10 X10
  obtain ⟨c0, c1⟩ := X11.out.cells
  have CK := hid (HO.out.same y2 _ _ _ _ _ _ _ _ _ _ _ _ _ _ wB wB (mendP wB 5 (wP false 7) 0) (mendP wB 5 (wP false 7) 0) X11.out.2.1 X11.out.2.2 X11.out.2.1 X11.out.2.2)
  rw [meshB_self] at CK
  unfold meshV at CK
  go_wp2_with fail
  refine Calls.mono CK.out ?_
  rintro e y3 ⟨rfl, hb⟩
  have B12 := hid (B11.out.trans (hb.mono B11.out.size))
  clear hb CK c0 c1
  go_wp2
  go_ret
  exact ⟨rfl, B12.out⟩

end Go.Proofs.YtikchpffkhohlaaGreat

namespace Go.Proofs.YtikchpffkhohlaaGreat

open Go.RowKit
set_option linter.unusedVariables false

theorem peFindF (bx : Nat) (ver V N : Int) (uv : Value) (w : World) (hx : w.cell? ⟨bx, 0, none⟩ = some (.int .i64 ver)) (hu : ∃ a l c, uv = .slice a l c) :
    Calls Tryz.prog 60 #[keptV V N uv, .pointer (some ⟨bx, 0, none⟩)] w fun e w' => e = .returned (.bool (decide (V = ver))) ∧ Below w.heap.size w w' := by
  obtain ⟨a, l, c, rfl⟩ := hu
  have hb := below_alloc w (.cells #[.int .i64 V, .int .i64 N, .slice a l c] 55)
  have HB := hid hb
  have c1 : (w.alloc (.cells #[.int .i64 V, .int .i64 N, .slice a l c] 55)).cell? ⟨bx, 0, none⟩ = some (.int .i64 ver) := by rw [hb.cell (cell_lt hx)]; exact hx
  clear hb
  have he : (V == ver) = decide (V = ver) := by by_cases h : V = ver <;> simp [h]
  unfold keptV
  go_enter Tryz.func60, Tryz.ntmps60
  go_wp2
  go_ret
  exact ⟨by first | rfl | rw [← he], HB.out⟩

set_option maxHeartbeats 1000000 in
theorem peIndex (bx : Nat) (ver : Int) (v : Value) (m : Nat) (UV : Nat → Value) (t : Kt) (w : World) (h : KeSl w w.heap.size v m UV t) (hx : w.cell? ⟨bx, 0, none⟩ = some (.int .i64 ver)) :
    Calls Tryz.prog 59 #[v, .func (.func 60) #[] #[.pointer (some ⟨bx, 0, none⟩)]] w fun e w' => e = .returned (.int .i64 (fstAt t.V ver m 0)) ∧ Below w.heap.size w w' := by
  obtain ⟨ad, cap, rfl, ⟨hc, hr⟩, hk⟩ := h
  obtain ⟨ans, hans⟩ : ∃ a, fstAt t.V ver m 0 = a := ⟨_, rfl⟩
  rw [hans]
  have HA := hid hans
  have HX := hid hk
  have HBx := hid hx
  clear hans hk hx
  go_enter Tryz.func59, Tryz.ntmps59
  go_wp2
  go_loopw [8] (fun iv wr => ∃ i : Nat, i ≤ m ∧ iv = .int .i64 i ∧ Hid (Below w.heap.size w wr) ∧ Hid (fstAt t.V ver (m - i) i = ans)) (fun iv _ => m - (intOf iv).toNat)
  case atStart => exact ⟨0, Nat.zero_le _, rfl, Below.refl _ _, HA⟩
  case round =>
    obtain ⟨i, hi, rfl, HB, HS⟩ := hrel
    by_cases hlt : i < m
    · have hii : (i : Int) < (m : Int) := by omega
      rcases HX.out with h0 | ⟨b1, o1, rfl, hb1, hk⟩
      · omega
      obtain ⟨x0, x1, x2, x3⟩ := hk i hlt
      obtain ⟨au, cu, hue, _, _⟩ := x3
      rw [hue] at x2
      have g0 : wr.cell? ⟨b1, o1 + i * 3, none⟩ = some (.int .i64 (t.V i)) := by rw [HB.out.cell hb1]; exact x0
      have g1 : wr.cell? ⟨b1, o1 + i * 3 + 1, none⟩ = some (.int .i64 (t.N i)) := by rw [HB.out.cell hb1]; exact x1
      have g2 : wr.cell? ⟨b1, o1 + i * 3 + 2, none⟩ = some (.slice au (t.L i) cu) := by rw [HB.out.cell hb1]; exact x2
      have hstep := HS.out
      rw [show m - i = (m - (i + 1)) + 1 by omega] at hstep
      simp only [fstAt] at hstep
      obtain ⟨x, hxx⟩ : ∃ x, t.V i = x := ⟨_, rfl⟩
      rw [hxx] at g0 hstep
      have HC := hid (peFindF bx ver x (t.N i) (.slice au (t.L i) cu) wr (by rw [HB.out.cell (cell_lt HBx.out)]; exact HBx.out) ⟨_, _, _, rfl⟩)
      unfold keptV at HC
      clear x0 x1 x2 hk hue hxx
      by_cases hv : ver = x
      · rw [if_pos hv] at hstep
        rw [decide_eq_true hv.symm] at HC
        have HF := hid hstep
        clear hstep hv
        go_wp2_with fail
        refine Calls.mono HC.out ?_
        rintro e w2 ⟨rfl, hb2⟩
        have HB2 := hid (HB.out.trans (hb2.mono HB.out.size))
        clear hb2
        go_wp2
        go_ret
        exact ⟨by rw [← HF.out]; rfl, HB2.out⟩
      · rw [if_neg hv] at hstep
        rw [decide_eq_false (fun h => hv h.symm)] at HC
        have HF := hid hstep
        clear hstep hv
        go_wp2_with fail
        refine Calls.mono HC.out ?_
        rintro e w2 ⟨rfl, hb2⟩
        have HB2 := hid (HB.out.trans (hb2.mono HB.out.size))
        clear hb2
        go_wp2
        go_roundw
        case rel => exact ⟨i + 1, by omega, by go_num, HB2, HF⟩
        case measure => simp only [intOf]; omega
    · have hie : m = i := by omega
      subst hie
      have hst := HS.out
      rw [Nat.sub_self] at hst
      have HFin : Hid ((-1 : Int) = ans) := hst
      clear hst
      go_wp2
      go_ret
      exact ⟨by rw [← HFin.out]; rfl, HB.out⟩

theorem peFind (th : Bool) (room : Int) (v : Value) (m : Nat) (UV : Nat → Value) (t : Kt) (ver : Int) (w : World) (h : KeSl w w.heap.size v m UV t) :
    Calls Tryz.prog 25 #[peerV th room v, .int .i64 ver] w fun e w' => e = .returned (.int .i64 (fstAt t.V ver m 0)) ∧ Below w.heap.size w w' := by
  have hb := ((Below.refl w.heap.size w).alloc (Nat.le_refl _) (.cells #[.bool th, .int .i64 room, v] 47)).alloc (by simp) (.cells #[.int .i64 ver] 3)
  have k2 := heap_two_new w (.cells #[.bool th, .int .i64 room, v] 47) (.cells #[.int .i64 ver] 3)
  have HI := hid (peIndex (w.heap.size + 1) ver v m UV t _ (h.up hb) (cell_at k2 rfl))
  have HB := hid hb
  obtain ⟨ad, cap, rfl, _, _⟩ := h
  clear hb k2
  generalize fstAt t.V ver m 0 = ans at *
  have hmf : ∀ (fn : Fn) (first cap : Array Value) (w : World), (Instr.makeFunc fn first cap).run Tryz.prog w = .ok (.func fn first cap) w := fun _ _ _ _ => rfl
  unfold peerV
  go_enter Tryz.func25, Tryz.ntmps25
  go_wp2_with fail
  refine Calls.mono HI.out ?_
  rintro e w2 ⟨rfl, hb2⟩
  have HB2 := hid (HB.out.trans (hb2.mono HB.out.size))
  clear hb2
  go_wp2
  go_ret
  exact ⟨rfl, HB2.out⟩

end Go.Proofs.YtikchpffkhohlaaGreat
