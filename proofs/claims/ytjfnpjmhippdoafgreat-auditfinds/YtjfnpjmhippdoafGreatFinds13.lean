/- Several texts of one proof, in their order. -/
import Derived.Test.YtjfnpjmhippdoafGreatFinds12
import Derived.Test.YtjfnpjmhippdoafGreatFinds11
import Derived.Test.YtjfnpjmhippdoafGreatFinds6
import Derived.Test.YtjfnpjmhippdoafGreatFinds10
import Derived.Test.YtjfnpjmhippdoafGreatFinds7

/- The closed fact of chapter 9's laws: what its writes leave; the mesh it begins with. -/
namespace Go.Proofs.YtjfnpjmhippdoafGreat

open Go.RowKit CurveMath
set_option linter.unusedVariables false

theorem KeSl.agree {w : World} {B : Nat} {v : Value} {m : Nat} {UV : Nat → Value} {t t' : Kt} (h : KeSl w B v m UV t) (e : ∀ i, i < m → t.V i = t'.V i ∧ t.N i = t'.N i ∧ t.L i = t'.L i ∧ ∀ r, r < t.L i → t.X i r = t'.X i r) : KeSl w B v m UV t' := by
  obtain ⟨ad, cap, rfl, h0, h2⟩ := h
  refine ⟨ad, cap, rfl, h0, ?_⟩
  rcases h2 with h2 | ⟨b, off, rfl, h4, h5⟩
  · exact Or.inl h2
  · refine Or.inr ⟨b, off, rfl, h4, fun j hj => ?_⟩
    obtain ⟨x0, x1, x2, x3⟩ := h5 j hj
    obtain ⟨e0, e1, e2, e3⟩ := e j hj
    rw [← e0, ← e1, ← e2]
    exact ⟨x0, x1, x2, x3.congr e3⟩

theorem PsSl.agree {w : World} {B : Nat} {v : Value} {np : Nat} {KV : Nat → Value} {UV : Nat → Nat → Value} {P P' : Ps} (h : PsSl w B v np KV UV P)
    (e : ∀ k, k < np → P.th k = P'.th k ∧ P.rm k = P'.rm k ∧ P.m k = P'.m k ∧ ∀ i, i < P.m k → (P.t k).V i = (P'.t k).V i ∧ (P.t k).N i = (P'.t k).N i ∧ (P.t k).L i = (P'.t k).L i ∧ ∀ r, r < (P.t k).L i → (P.t k).X i r = (P'.t k).X i r) : PsSl w B v np KV UV P' := by
  obtain ⟨ad, cap, rfl, h0, h2⟩ := h
  refine ⟨ad, cap, rfl, h0, ?_⟩
  rcases h2 with h2 | ⟨b, off, rfl, h4, h5⟩
  · exact Or.inl h2
  · refine Or.inr ⟨b, off, rfl, h4, fun j hj => ?_⟩
    obtain ⟨x0, x1, x2, x3⟩ := h5 j hj
    obtain ⟨e0, e1, e2, e3⟩ := e j hj
    rw [← e0, ← e1, ← e2]
    exact ⟨x0, x1, x2, x3.agree e3⟩

theorem w_agree : ∀ k, k < 5 → (saveP 0 5 (freshP wX) 2 4 3 wD).th k = (wP true 7).th k ∧ (saveP 0 5 (freshP wX) 2 4 3 wD).rm k = (wP true 7).rm k ∧ (saveP 0 5 (freshP wX) 2 4 3 wD).m k = (wP true 7).m k ∧ ∀ i, i < (saveP 0 5 (freshP wX) 2 4 3 wD).m k →
    ((saveP 0 5 (freshP wX) 2 4 3 wD).t k).V i = ((wP true 7).t k).V i ∧ ((saveP 0 5 (freshP wX) 2 4 3 wD).t k).N i = ((wP true 7).t k).N i ∧ ((saveP 0 5 (freshP wX) 2 4 3 wD).t k).L i = ((wP true 7).t k).L i ∧ ∀ r, r < ((saveP 0 5 (freshP wX) 2 4 3 wD).t k).L i → ((saveP 0 5 (freshP wX) 2 4 3 wD).t k).X i r = ((wP true 7).t k).X i r := by decide +kernel

/-- no version holds a bool -/
theorem ve_bool {w : World} {B g o : Nat} {v : Value} {n : Nat} {PV : Nat → Value} {b : Bk} {x : Bool} (h : VeSl w B v n PV b) (hc : w.cell? ⟨g, o, none⟩ = some (.bool x)) (u : Value) : VeSl (w.setCell ⟨g, o, none⟩ u) B v n PV b := by
  obtain ⟨ad, cap, rfl, h0, h2⟩ := h
  refine ⟨ad, cap, rfl, h0, ?_⟩
  rcases h2 with h2 | ⟨bl, off, rfl, h4, h5⟩
  · exact Or.inl h2
  · refine Or.inr ⟨bl, off, rfl, h4, fun j hj => ?_⟩
    obtain ⟨x0, x1, x2, x3, x4⟩ := h5 j hj
    have key : ∀ i z, w.cell? ⟨bl, i, none⟩ = some z → z ≠ .bool x → (w.setCell ⟨g, o, none⟩ u).cell? ⟨bl, i, none⟩ = some z := fun i z hz hne => by
      rw [cell_set_lit]
      · exact hz
      · by_cases e1 : bl = g
        · right; intro e2; rw [e1, e2, hc] at hz; injection hz with hz; exact hne hz.symm
        · exact Or.inl e1
    refine ⟨key _ _ x0 (fun e => ?_), key _ _ x1 (fun e => by cases e), key _ _ x2 (fun e => by cases e), key _ _ x3 (fun e => by cases e), isl_bool x4 hc u⟩
    obtain ⟨a, c, e2, _⟩ := x4
    rw [e2] at e
    cases e

/-- one peer goes, or comes -/
theorem ps_there {w : World} {bl off cap : Nat} {np q : Nat} {KV : Nat → Value} {UV : Nat → Nat → Value} {P P' : Ps} (h : PsSl w w.heap.size (.slice (some ⟨bl, off, none⟩) np cap) np KV UV P) (hq : q < np) (t : Bool) (e : ∀ k, k < np → P'.th k = (if k = q then t else P.th k) ∧ P'.rm k = P.rm k ∧ P'.m k = P.m k ∧ P'.t k = P.t k) :
    PsSl (w.setCell ⟨bl, off + q * 3, none⟩ (.bool t)) (w.setCell ⟨bl, off + q * 3, none⟩ (.bool t)).heap.size (.slice (some ⟨bl, off, none⟩) np cap) np KV UV P' := by
  have hz : (w.setCell ⟨bl, off + q * 3, none⟩ (.bool t)).heap.size = w.heap.size := by simp [World.setCell]
  rw [hz]
  obtain ⟨bl', off', e1, _, hc, _, _, _⟩ := h.at hq
  injection e1 with e1
  injection e1 with e1 e2
  subst e1 e2
  obtain ⟨ad, cap', he, h0, h2⟩ := h
  injection he with he1 _ he3
  subst he1 he3
  refine ⟨_, cap, rfl, h0, ?_⟩
  rcases h2 with h2 | ⟨b, off', e1, h4, h5⟩
  · omega
  · injection e1 with e1
    injection e1 with e1 e2
    subst e1 e2
    refine Or.inr ⟨bl, off, rfl, h4, fun j hj => ?_⟩
    obtain ⟨x0, x1, x2, x3⟩ := h5 j hj
    obtain ⟨g1, g2, g3, g4⟩ := e j hj
    rw [g1, g2, g3, g4]
    refine ⟨?_, by rw [cell_set_lit (Or.inr (by omega))]; exact x1, by rw [cell_set_lit (Or.inr (by omega))]; exact x2, kel_bool x3 hc _⟩
    by_cases ej : j = q
    · subst ej; rw [if_pos rfl]; exact cell_set_same x0 _
    · rw [if_neg ej, cell_set_lit (Or.inr (by omega))]; exact x0

/-- a list that holds no a stays where an a is written over -/
theorem isl_ne {w : World} {B g o : Nat} {v : Value} {m : Nat} {X : Nat → Int} {a : Int} (h : IntSl w B v m X) (hc : w.cell? ⟨g, o, none⟩ = some (.int .i64 a)) (hX : ∀ j, j < m → X j ≠ a) (u : Value) : IntSl (w.setCell ⟨g, o, none⟩ u) B v m X := by
  obtain ⟨ad, cap, rfl, h0, h2⟩ := h
  refine ⟨ad, cap, rfl, h0, ?_⟩
  rcases h2 with h2 | ⟨b, off, rfl, h4, h5⟩
  · exact Or.inl h2
  · refine Or.inr ⟨b, off, rfl, h4, fun j hj => ?_⟩
    have h6 := h5 j hj
    rw [cell_set_lit]
    · exact h6
    · by_cases e1 : b = g
      · right
        intro e2
        rw [e1, e2, hc] at h6
        injection h6 with h6
        injection h6 with _ h6
        exact hX j hj h6.symm
      · exact Or.inl e1

/-- the first number written anew -/
theorem isl_head {w : World} {B g o c : Nat} {m : Nat} {X X' : Nat → Int} {z : Int} (h : IntSl w B (.slice (some ⟨g, o, none⟩) m c) m X) (hm : 1 ≤ m) (h0 : X' 0 = z) (hX : ∀ j, j < m → j ≠ 0 → X' j = X j) : IntSl (w.setCell ⟨g, o, none⟩ (.int .i64 z)) B (.slice (some ⟨g, o, none⟩) m c) m X' := by
  obtain ⟨ad, cap, he, h1, h2⟩ := h
  injection he with he1 _ he3
  subst he1 he3
  refine ⟨_, c, rfl, h1, ?_⟩
  rcases h2 with h2 | ⟨b, off, e1, h4, h5⟩
  · omega
  · injection e1 with e1
    injection e1 with e1 e2
    subst e1 e2
    refine Or.inr ⟨g, o, rfl, h4, fun j hj => ?_⟩
    by_cases ej : j = 0
    · subst ej; rw [h0]; exact cell_set_same (h5 0 hm) _
    · rw [hX j hj ej, cell_set_lit (Or.inr (by omega))]; exact h5 j hj

/-- versions that hold no a stay where an a is written over -/
theorem ve_ne {w : World} {B g o : Nat} {v : Value} {n : Nat} {PV : Nat → Value} {b : Bk} {a : Int} (h : VeSl w B v n PV b) (hc : w.cell? ⟨g, o, none⟩ = some (.int .i64 a)) (hX : ∀ j, j < n → b.nd j ≠ a ∧ b.of j ≠ a ∧ b.sz j ≠ a ∧ ∀ i, i < b.PL j → b.PX j i ≠ a) (u : Value) : VeSl (w.setCell ⟨g, o, none⟩ u) B v n PV b := by
  obtain ⟨ad, cap, rfl, h0, h2⟩ := h
  refine ⟨ad, cap, rfl, h0, ?_⟩
  rcases h2 with h2 | ⟨bl, off, rfl, h4, h5⟩
  · exact Or.inl h2
  · refine Or.inr ⟨bl, off, rfl, h4, fun j hj => ?_⟩
    obtain ⟨x0, x1, x2, x3, x4⟩ := h5 j hj
    obtain ⟨y1, y2, y3, y4⟩ := hX j hj
    have key : ∀ i z, w.cell? ⟨bl, i, none⟩ = some z → z ≠ .int .i64 a → (w.setCell ⟨g, o, none⟩ u).cell? ⟨bl, i, none⟩ = some z := fun i z hz hne => by
      rw [cell_set_lit]
      · exact hz
      · by_cases e1 : bl = g
        · right; intro e2; rw [e1, e2, hc] at hz; injection hz with hz; exact hne hz.symm
        · exact Or.inl e1
    refine ⟨key _ _ x0 (fun e => ?_), key _ _ x1 (fun e => by injection e with _ e; exact y1 e), key _ _ x2 (fun e => by injection e with _ e; exact y2 e), key _ _ x3 (fun e => by injection e with _ e; exact y3 e), isl_ne x4 hc y4 u⟩
    obtain ⟨a', c, e2, _⟩ := x4
    rw [e2] at e
    cases e

/-- peers that hold no a but where it is written over -/
theorem ps_ne {w : World} {B g o : Nat} {v : Value} {np : Nat} {KV : Nat → Value} {UV : Nat → Nat → Value} {P P' : Ps} {a : Int} {u : Value} (h : PsSl w B v np KV UV P) (hc : w.cell? ⟨g, o, none⟩ = some (.int .i64 a))
    (e : ∀ k, k < np → P'.th k = P.th k ∧ P'.rm k = P.rm k ∧ P'.m k = P.m k ∧ P.rm k ≠ a ∧ ∀ i, i < P.m k → ((P'.t k).V i = (P.t k).V i ∧ (P'.t k).N i = (P.t k).N i) ∧ (P.t k).V i ≠ a ∧ (P.t k).N i ≠ a)
    (hx : ∀ k, k < np → ∀ i, i < P.m k → IntSl (w.setCell ⟨g, o, none⟩ u) B (UV k i) ((P'.t k).L i) ((P'.t k).X i)) : PsSl (w.setCell ⟨g, o, none⟩ u) B v np KV UV P' := by
  have key : ∀ b i z, w.cell? ⟨b, i, none⟩ = some z → z ≠ .int .i64 a → (w.setCell ⟨g, o, none⟩ u).cell? ⟨b, i, none⟩ = some z := fun b i z hz hne => by
    rw [cell_set_lit]
    · exact hz
    · by_cases e1 : b = g
      · right; intro e2; rw [e1, e2, hc] at hz; injection hz with hz; exact hne hz.symm
      · exact Or.inl e1
  obtain ⟨ad, cap, rfl, h0, h2⟩ := h
  refine ⟨ad, cap, rfl, h0, ?_⟩
  rcases h2 with h2 | ⟨bl, off, rfl, h4, h5⟩
  · exact Or.inl h2
  · refine Or.inr ⟨bl, off, rfl, h4, fun k hk => ?_⟩
    obtain ⟨x0, x1, x2, x3⟩ := h5 k hk
    obtain ⟨y1, y2, y3, y4, y5⟩ := e k hk
    rw [y1, y2, y3]
    refine ⟨key _ _ _ x0 (fun e => by cases e), key _ _ _ x1 (fun e => by injection e with _ e; exact y4 e), key _ _ _ x2 (fun e => ?_), ?_⟩
    · obtain ⟨a', c, e2, _⟩ := x3
      rw [e2] at e
      cases e
    · obtain ⟨ad', cap', he, g0, g2⟩ := x3
      refine ⟨ad', cap', he, g0, ?_⟩
      rcases g2 with g2 | ⟨b2, o2, rfl, g4, g5⟩
      · exact Or.inl g2
      · refine Or.inr ⟨b2, o2, rfl, g4, fun i hi => ?_⟩
        obtain ⟨z0, z1, z2, z3⟩ := g5 i hi
        obtain ⟨⟨t0, t1⟩, t2, t3⟩ := y5 i hi
        rw [t0, t1]
        refine ⟨key _ _ _ z0 (fun e => by injection e with _ e; exact t2 e), key _ _ _ z1 (fun e => by injection e with _ e; exact t3 e), key _ _ _ z2 (fun e => ?_), hx k hk i hi⟩
        obtain ⟨a', c, e2, _⟩ := z3
        rw [e2] at e
        cases e

theorem NewP.set {B : Nat} {w : World} {vl : Value} {np : Nat} {KV : Nat → Value} {UV : Nat → Nat → Value} {P P' : Ps} (h : NewP B w vl np KV UV P) (e : ∀ k, k < np → P'.m k = P.m k ∧ ∀ i, i < P.m k → (P'.t k).L i = (P.t k).L i) (a : Addr) (u : Value) : NewP B (w.setCell a u) vl np KV UV P' :=
  ⟨h.1.set a u, fun k hk => ⟨(h.2 k hk).1.set a u, fun i hi => by
    rw [(e k hk).1] at hi
    rw [(e k hk).2 i hi]
    exact ((h.2 k hk).2 i hi).imp id fun h => h.set a u⟩⟩

theorem NewP.up {B : Nat} {w w' : World} {vl : Value} {np : Nat} {KV : Nat → Value} {UV : Nat → Nat → Value} {P : Ps} (h : NewP B w vl np KV UV P) (hb : Below w.heap.size w w') : NewP B w' vl np KV UV P :=
  ⟨h.1.up hb, fun k hk => ⟨(h.2 k hk).1.up hb, fun i hi => ((h.2 k hk).2 i hi).imp id fun h => h.up hb⟩⟩

theorem NewP.mono {B B' : Nat} {w : World} {vl : Value} {np : Nat} {KV : Nat → Value} {UV : Nat → Nat → Value} {P : Ps} (h : NewP B w vl np KV UV P) (hb : B' ≤ B) : NewP B' w vl np KV UV P :=
  ⟨h.1.mono hb, fun k hk => ⟨(h.2 k hk).1.mono hb, fun i hi => ((h.2 k hk).2 i hi).imp id fun h => h.mono hb⟩⟩

end Go.Proofs.YtjfnpjmhippdoafGreat

/- The mesh that the closed fact of chapter 9's laws begins with. -/
namespace Go.Proofs.YtjfnpjmhippdoafGreat

open Go.RowKit CurveMath
set_option linter.unusedVariables false

theorem mesh_openN {w : World} {er : Int} {n : Nat} {b : Bk} {np : Nat} {P : Ps} {e : Ending} {w' : World} (h : MeshPostN w er n b np P e w') :
    Below w.heap.size w w' ∧ ∃ (ab : Option Addr) (n' cb : Nat) (PV : Nat → Value) (al : Option Addr) (np' cl : Nat) (KV : Nat → Value) (UV : Nat → Nat → Value), e = .returned (.tuple #[.agg #[.slice ab n' cb, .slice al np' cl], .int .i64 er]) ∧
      n' = (if er = 0 then n else 0) ∧ np' = (if er = 0 then np else 0) ∧ VeSl w' w'.heap.size (.slice ab n' cb) n' PV b ∧ PsSl w' w'.heap.size (.slice al np' cl) np' KV UV P ∧ NewP w.heap.size w' (.slice al np' cl) np' KV UV P := by
  obtain ⟨h1, vb, vl, n', np', PV, KV, UV, rfl, h3, h4, h5, h6, h7⟩ := h
  have h5' := h5
  have h6' := h6
  obtain ⟨ab, cb, rfl, _, _⟩ := h5'
  obtain ⟨al, cl, rfl, _, _⟩ := h6'
  exact ⟨h1, ab, n', cb, PV, al, np', cl, KV, UV, rfl, h3, h4, h5, h6, h7⟩

theorem isl_five {w : World} {g : Nat} {T : TypeId} (h : w.heap[g]? = some (.cells #[.int .i64 2, .int .i64 2, .int .i64 2, .int .i64 2, .int .i64 2] T (0, 0))) : IntSl w w.heap.size (.slice (some ⟨g, 0, none⟩) 5 5) 5 wX :=
  ⟨_, _, rfl, ⟨Nat.le_refl _, by omega⟩, Or.inr ⟨g, 0, rfl, (Array.getElem?_eq_some_iff.1 h).1, fun j hj => by
    match j, hj with
    | 0, _ => exact cell_at h rfl
    | 1, _ => exact cell_at h rfl
    | 2, _ => exact cell_at h rfl
    | 3, _ => exact cell_at h rfl
    | 4, _ => exact cell_at h rfl⟩⟩

theorem isl_579 {w : World} {g : Nat} {T : TypeId} (h : w.heap[g]? = some (.cells #[.int .i64 5, .int .i64 7, .int .i64 9] T (0, 0))) : IntSl w w.heap.size (.slice (some ⟨g, 0, none⟩) 3 3) 3 wD :=
  ⟨_, _, rfl, ⟨Nat.le_refl _, by omega⟩, Or.inr ⟨g, 0, rfl, (Array.getElem?_eq_some_iff.1 h).1, fun j hj => by
    match j, hj with
    | 0, _ => exact cell_at h rfl
    | 1, _ => exact cell_at h rfl
    | 2, _ => exact cell_at h rfl⟩⟩

/-- the mesh of the closed fact -/
def BegunPost (w : World) (e : Ending) (w' : World) : Prop :=
  Below w.heap.size w w' ∧ ∃ (ab : Option Addr) (cb : Nat) (PV : Nat → Value) (al : Option Addr) (cl : Nat) (KV : Nat → Value) (UV : Nat → Nat → Value), e = .returned (.tuple #[.agg #[.slice ab 1 cb, .slice al 5 cl], .int .i64 0]) ∧
    VeSl w' w'.heap.size (.slice ab 1 cb) 1 PV wB ∧ PsSl w' w'.heap.size (.slice al 5 cl) 5 KV UV (wP true 7) ∧ NewP w.heap.size w' (.slice al 5 cl) 5 KV UV (wP true 7)

set_option maxHeartbeats 4000000 in
set_option maxRecDepth 10000 in
theorem begun_any (hO : MeshCore) (w : World) : Calls Tryz.prog 30 #[] w (BegunPost w) := by
  have HO := hid hO
  have hb0 := ((Below.refl w.heap.size w).alloc (Nat.le_refl _) (.cells #[.slice none 0 0, .slice none 0 0] 27)).alloc (by simp) (.cells #[.int .i64 2, .int .i64 2, .int .i64 2, .int .i64 2, .int .i64 2] 3)
  have k1 := heap_two_old w (.cells #[.slice none 0 0, .slice none 0 0] 27) (.cells #[.int .i64 2, .int .i64 2, .int .i64 2, .int .i64 2, .int .i64 2] 3)
  have k2 := heap_two_new w (.cells #[.slice none 0 0, .slice none 0 0] 27) (.cells #[.int .i64 2, .int .i64 2, .int .i64 2, .int .i64 2, .int .i64 2] 3)
  obtain ⟨W0, hW0⟩ : ∃ W, (w.alloc (.cells #[.slice none 0 0, .slice none 0 0] 27)).alloc (.cells #[.int .i64 2, .int .i64 2, .int .i64 2, .int .i64 2, .int .i64 2] 3) = W := ⟨_, rfl⟩
  rw [hW0] at hb0 k1 k2
  have CK := hid (HO.out.new _ 5 wX W0 (isl_five k2) (by omega))
  rw [w_new] at CK
  have B0 := hid hb0
  have K1 := hid k1
  clear hb0 k1 k2 hO
  go_enter Tryz.func30, Tryz.ntmps30
  go_wp2_with fail
  refine Calls.mono CK.out ?_
  rintro e W1 hM
  obtain ⟨hb1, ab, n1, cb, PV, al, np1, cl, KV, UV, rfl, hn1, hp1, hv1, hl1, _⟩ := mesh_openN hM
  rw [if_pos rfl] at hn1 hp1
  subst hn1 hp1
  have hbM := below_alloc W1 (.cells #[.slice ab 0 cb, .slice al 5 cl] 27)
  have hx := MsAt.box hv1 hl1
  obtain ⟨V1, hV1⟩ : ∃ v, World.alloc W1 (.cells #[.slice ab 0 cb, .slice al 5 cl] 27) = v := ⟨_, rfl⟩
  rw [hV1] at hbM hx
  have hbD := below_alloc V1 (.cells #[.int .i64 5, .int .i64 7, .int .i64 9] 3)
  have kd := heap_alloc_new V1 (.cells #[.int .i64 5, .int .i64 7, .int .i64 9] 3)
  obtain ⟨V2, hV2⟩ : ∃ v, World.alloc V1 (.cells #[.int .i64 5, .int .i64 7, .int .i64 9] 3) = v := ⟨_, rfl⟩
  rw [hV2] at hbD kd
  have hb12 := hb1.trans ((hbM.trans (hbD.mono hbM.size)).mono hb1.size)
  have B2 := hid (B0.out.trans (hb12.mono B0.out.size))
  have K1 := hid (stayB K1.out hb12)
  have X1 := hid (hx.up hbD)
  have CS := hid (HO.out.save _ 0 PV noB _ 5 KV UV (freshP wX) _ 3 wD (.slice none 0 0) 0 w0 2 4 V2 X1.out.2.1 X1.out.2.2 (isl_579 kd) ⟨none, 0, rfl, ⟨Nat.le_refl _, by omega⟩, Or.inl rfl⟩)
  rw [w_save] at CS
  unfold meshV at CS
  obtain ⟨c0, c1⟩ := hx.cells
  clear hM hb1 hbM hbD hb12 hx kd hv1 hl1 CK
  go_wp2_with fail
  refine Calls.mono CS.out ?_
  rintro e W3 hM
  obtain ⟨hb3, ab3, n3, cb3, PV3, al3, np3, cl3, KV3, UV3, rfl, hn3, hp3, hv3, hl3, hN3⟩ := mesh_openN hM
  rw [if_pos rfl] at hn3 hp3
  subst hn3 hp3
  have B3 := hid (B2.out.trans (hb3.mono B2.out.size))
  have o3 := stayB K1.out hb3
  have HO3 := hid o3
  have HV3 := hid hv3
  have HL3 := hid hl3
  have HN3 := hid hN3
  obtain ⟨r1, r2⟩ := two_at o3
  have f1 := frozen_at (i := 0) o3
  have f2 := frozen_at (i := 1) o3
  clear hM hb3 o3 hv3 hl3 hN3 CS c0 c1
  go_wp2
  refine bodyPost_ret (results_cell2 rfl _ _ w.heap.size 27 #[.slice ab3 1 cb3, .slice al3 5 cl3] (0, 0) _ rfl (put2_whole HO3.out _ _) Tryz.underlying27 rfl (by kernel_rfl)) rfl ?_
  have hag : ∀ k, k < 5 → (wP true 7).m k = (saveP 0 5 (freshP wX) 2 4 3 wD).m k ∧ ∀ i, i < (saveP 0 5 (freshP wX) 2 4 3 wD).m k → ((wP true 7).t k).L i = ((saveP 0 5 (freshP wX) 2 4 3 wD).t k).L i := fun k hk => ⟨(w_agree k hk).2.2.1.symm, fun i hi => ((w_agree k hk).2.2.2 i hi).2.2.1.symm⟩
  exact ⟨put2_below B3.out (Nat.le_refl _), ab3, cb3, PV3, al3, cl3, KV3, UV3, rfl, ve_put2 HO3.out HV3.out _, (ps_put2 HO3.out HL3.out _ _).agree w_agree, ((HN3.out.mono B2.out.size).set (P' := saveP 0 5 (freshP wX) 2 4 3 wD) (fun k hk => ⟨rfl, fun i hi => rfl⟩) _ _).set hag _ _⟩

end Go.Proofs.YtjfnpjmhippdoafGreat

/- Meshes are like themselves; small facts of worlds. -/
namespace Go.Proofs.YtjfnpjmhippdoafGreat

open Go.RowKit CurveMath
set_option linter.unusedVariables false

theorem drewN_up (w : World) (k : Nat) : Below w.heap.size w (w.drewN k) := ⟨rfl, rfl, rfl, Nat.le_refl _, fun _ _ => rfl⟩

end Go.Proofs.YtjfnpjmhippdoafGreat

/- The closed fact of chapter 9's laws: a peer goes, one is bent, all is made whole. -/
namespace Go.Proofs.YtjfnpjmhippdoafGreat

open Go.RowKit CurveMath
set_option linter.unusedVariables false

/-- the closed fact's mesh: its box, its lists, where its second peer's share lies -/
structure WvAt (B : Nat) (w : World) (g1 : Nat) (ab : Option Addr) (cb : Nat) (PV : Nat → Value) (bl off cl : Nat) (KV : Nat → Value) (UV : Nat → Nat → Value) (bk ok ck bu ou cu : Nat) (t0 : Bool) (x : Int) : Prop where
  box : MsAt w g1 ab 1 cb PV wB (some ⟨bl, off, none⟩) 5 cl KV UV (wP t0 x)
  new : NewP B w (.slice (some ⟨bl, off, none⟩) 5 cl) 5 KV UV (wP t0 x)
  k1 : KV 1 = .slice (some ⟨bk, ok, none⟩) 1 ck
  u1 : UV 1 0 = .slice (some ⟨bu, ou, none⟩) 2 cu
  ne1 : bl ≠ g1
  ne2 : bu ≠ g1

section

variable {B : Nat} {w w' : World} {g1 : Nat} {ab : Option Addr} {cb : Nat} {PV : Nat → Value} {bl off cl : Nat} {KV : Nat → Value} {UV : Nat → Nat → Value} {bk ok ck bu ou cu : Nat} {t0 : Bool} {x : Int}

theorem WvAt.up (h : WvAt B w g1 ab cb PV bl off cl KV UV bk ok ck bu ou cu t0 x) (hb : Below w.heap.size w w') : WvAt B w' g1 ab cb PV bl off cl KV UV bk ok ck bu ou cu t0 x :=
  ⟨h.box.up hb, h.new.up hb, h.k1, h.u1, h.ne1, h.ne2⟩

/-- its cells: the first peer's There, the second peer's list, its share's list, its first number -/
theorem WvAt.cells (h : WvAt B w g1 ab cb PV bl off cl KV UV bk ok ck bu ou cu t0 x) : (w.cell? ⟨g1, 0, none⟩ = some (.slice ab 1 cb) ∧ w.cell? ⟨g1, 1, none⟩ = some (.slice (some ⟨bl, off, none⟩) 5 cl)) ∧ (w.cell? ⟨bl, off, none⟩ = some (.bool t0) ∧ w.frozen? ⟨bl, off, none⟩ = false) ∧
    w.cell? ⟨bl, off + 3 + 2, none⟩ = some (.slice (some ⟨bk, ok, none⟩) 1 ck) ∧ w.cell? ⟨bk, ok + 1 + 1, none⟩ = some (.slice (some ⟨bu, ou, none⟩) 2 cu) ∧ (w.cell? ⟨bu, ou, none⟩ = some (.int .i64 x) ∧ w.frozen? ⟨bu, ou, none⟩ = false) := by
  obtain ⟨bl', off', e, _, c0, _, _, _⟩ := h.box.2.2.at (i := 0) (by omega)
  injection e with e
  injection e with e1 e2
  subst e1 e2
  obtain ⟨bl', off', e, _, _, _, c2, ke⟩ := h.box.2.2.at (i := 1) (by omega)
  injection e with e
  injection e with e1 e2
  subst e1 e2
  rw [h.k1] at c2 ke
  obtain ⟨ad, cap, e, _, h2⟩ := ke
  injection e with e1 _ _
  rcases h2 with h2 | ⟨b2, o2, e3, _, h5⟩
  · exact absurd h2 (by show ¬ (1 : Nat) = 0; decide)
  · rw [← e1] at e3
    injection e3 with e3
    injection e3 with e4 e5
    subst e4 e5
    obtain ⟨_, _, d2, d3⟩ := h5 0 (by show (0 : Nat) < 1; decide)
    rw [h.u1] at d2 d3
    have hd3 := d3
    obtain ⟨ad', cap', e', _, g2⟩ := hd3
    injection e' with e1' _ _
    have hx0 : w.cell? ⟨bu, ou, none⟩ = some (.int .i64 x) := by
      rcases g2 with g2 | ⟨b3, o3, e3', _, g5⟩
      · exact absurd g2 (by show ¬ (2 : Nat) = 0; decide)
      · rw [← e1'] at e3'
        injection e3' with e3'
        injection e3' with e4 e5
        subst e4 e5
        have g6 := g5 0 (by show (0 : Nat) < 2; decide)
        exact g6
    have hfr := ((h.new.2 1 (by omega)).2 0 (by show (0 : Nat) < 1; decide)).resolve_left (by show ¬ (2 : Nat) = 0; decide)
    rw [h.u1] at hfr
    refine ⟨h.box.cells, ⟨?_, (h.new.1 _ _ _ rfl).2.2 off⟩, ?_, ?_, hx0, (hfr _ _ _ rfl).2.2 ou⟩
    · have h9 : w.cell? ⟨bl, off + 0 * 3, none⟩ = some (.bool t0) := c0
      rw [Nat.zero_mul, Nat.add_zero] at h9
      exact h9
    · have h9 : w.cell? ⟨bl, off + 1 * 3 + 2, none⟩ = some (.slice (some ⟨bk, ok, none⟩) 1 ck) := c2
      rw [Nat.one_mul] at h9
      exact h9
    · have h9 : w.cell? ⟨bk, ok + 0 * 3 + 2, none⟩ = some (.slice (some ⟨bu, ou, none⟩) 2 cu) := d2
      rw [Nat.zero_mul, Nat.add_zero] at h9
      exact h9

theorem wv_book : ∀ a : Int, a = 7 ∨ a = 8 → ∀ j, j < 1 → wB.nd j ≠ a ∧ wB.of j ≠ a ∧ wB.sz j ≠ a ∧ ∀ i, i < wB.PL j → wB.PX j i ≠ a := by
  intro a ha j hj
  obtain rfl : j = 0 := by omega
  rcases ha with rfl | rfl <;> refine ⟨by decide, by decide, by decide, fun i hi => absurd hi ?_⟩ <;> exact Nat.not_lt_zero _

/-- the second peer's first number is written anew -/
theorem WvAt.bends (h : WvAt B w g1 ab cb PV bl off cl KV UV bk ok ck bu ou cu t0 x) (hx : x = 7 ∨ x = 8) (z : Int) : WvAt B (w.setCell ⟨bu, ou, none⟩ (.int .i64 z)) g1 ab cb PV bl off cl KV UV bk ok ck bu ou cu t0 z := by
  have hc := h.cells.2.2.2.2.1
  have hz : (w.setCell ⟨bu, ou, none⟩ (.int .i64 z)).heap.size = w.heap.size := by simp [World.setCell]
  refine ⟨⟨?_, ?_, ?_⟩, h.new.set (fun k hk => ⟨rfl, fun i hi => rfl⟩) _ _, h.k1, h.u1, h.ne1, h.ne2⟩
  · rw [Below.heap_setCell _ _ _ _ (by show g1 ≠ bu; exact fun e => h.ne2 e.symm)]; exact h.box.1
  · rw [hz]; exact ve_ne h.box.2.1 hc (wv_book x hx) _
  · rw [hz]
    refine ps_ne (P' := wP t0 z) h.box.2.2 hc (fun k hk => ⟨rfl, rfl, rfl, by rcases hx with rfl | rfl <;> simp [wP], fun i hi => ⟨⟨rfl, rfl⟩, by rcases hx with rfl | rfl <;> simp [wP], by rcases hx with rfl | rfl <;> simp [wP] <;> omega⟩⟩) (fun k hk i hi => ?_)
    obtain ⟨_, _, _, _, _, _, _, ke⟩ := h.box.2.2.at hk
    obtain ⟨_, _, _, _, h2⟩ := ke
    rcases h2 with h2 | ⟨_, _, _, _, h5⟩
    · omega
    have h6 := (h5 i hi).2.2.2
    by_cases e : k = 1
    · subst e
      obtain rfl : i = 0 := by have : (wP t0 x).m 1 = 1 := rfl; omega
      rw [h.u1] at h6 ⊢
      exact isl_head (X' := ((wP t0 z).t 1).X 0) h6 (by show (1 : Nat) ≤ 2; decide) rfl (fun j hj hne => by simp [wP, hne])
    · have hX : ((wP t0 z).t k).X i = ((wP t0 x).t k).X i := by simp [wP, e]
      have hL : ((wP t0 z).t k).L i = ((wP t0 x).t k).L i := rfl
      rw [hX, hL]
      refine isl_ne h6 hc (fun j hj => ?_) _
      have hj2 : j < 2 := hj
      have hk4 : k < 4 := by
        rcases Nat.lt_or_ge k 4 with h9 | h9
        · exact h9
        · have : (wP t0 x).m k = 0 := by simp [wP]; omega
          omega
      have hval : ((wP t0 x).t k).X i j = ([[(5 : Int), 9], [7, 0], [9, 22], [11, 13]].getD k []).getD j 0 := by simp [wP, e]
      rw [hval]
      have key : ∀ k, k < 4 → k ≠ 1 → ∀ j, j < 2 → ([[(5 : Int), 9], [7, 0], [9, 22], [11, 13]].getD k []).getD j 0 ≠ 7 ∧ ([[(5 : Int), 9], [7, 0], [9, 22], [11, 13]].getD k []).getD j 0 ≠ 8 := by decide
      rcases hx with rfl | rfl
      · exact (key k hk4 e j hj2).1
      · exact (key k hk4 e j hj2).2

end

end Go.Proofs.YtjfnpjmhippdoafGreat

/- What package audit owes, and the closed fact that chapter 10's laws ask first. -/
namespace Go.Proofs.YtjfnpjmhippdoafGreat

open Go.RowKit CurveMath
set_option linter.unusedVariables false

/-- how many lack, beside an error none -/
def lackV (n : Nat) (b : Bk) (np : Nat) (P : Ps) (k : Int) : Int := if verM n b np P k = 0 then laN b np P k else 0
/-- who is to blame, beside an error nobody -/
def blameV (n : Nat) (b : Bk) (np : Nat) (P : Ps) (k : Int) : List Int := if rsE n b np P k = 0 then blL b np P k else []

/-- what package audit owes -/
structure AuditOwes : Prop where
  blamed : ∀ (vb : Value) (n : Nat) (PV : Nat → Value) (b : Bk) (vl : Value) (np : Nat) (KV : Nat → Value) (UV : Nat → Nat → Value) (P : Ps) (k : Int) (w : World), VeSl w w.heap.size vb n PV b → PsSl w w.heap.size vl np KV UV P →
    Calls Tryz.prog 6 #[meshV vb vl, .int .i64 k] w (LiPost w (blameV n b np P k) (rsE n b np P k))
  lacking : ∀ (vb : Value) (n : Nat) (PV : Nat → Value) (b : Bk) (vl : Value) (np : Nat) (KV : Nat → Value) (UV : Nat → Nat → Value) (P : Ps) (k : Int) (w : World), VeSl w w.heap.size vb n PV b → PsSl w w.heap.size vl np KV UV P →
    Calls Tryz.prog 7 #[meshV vb vl, .int .i64 k] w fun e w' => e = .returned (.tuple #[.int .i64 (lackV n b np P k), .int .i64 (verM n b np P k)]) ∧ Below w.heap.size w w'

/-- the mesh of the closed fact, its fourth peer gone -/
def wJ : Ps := ⟨fun k => if k = 3 then false else (wP true 8).th k, (wP true 8).rm, (wP true 8).m, (wP true 8).t⟩

theorem j_e : rsE 1 wB 5 (wP true 8) 0 = 0 := by decide +kernel
theorem j_l : blL wB 5 (wP true 8) 0 = [1] := by decide +kernel
theorem j_v : verM 1 wB 5 wJ 0 = 0 := by decide +kernel
theorem j_n : laN wB 5 wJ 0 = 1 := by decide +kernel
theorem j_w : verM 1 wB 5 wJ 1 = 4 := by decide +kernel
theorem j_ok : peersE 1 wB 5 (wP true 8) = 0 := by decide +kernel

theorem isl_num1 {w : World} {g : Nat} {x : Int} {T : TypeId} (h : w.heap[g]? = some (.cells #[.int .i64 x] T (0, 0))) : IntSl w w.heap.size (.slice (some ⟨g, 0, none⟩) 1 1) 1 (fun i => [x].getD i 0) :=
  ⟨_, _, rfl, ⟨Nat.le_refl _, by omega⟩, Or.inr ⟨g, 0, rfl, (Array.getElem?_eq_some_iff.1 h).1, fun j hj => by
    match j, hj with
    | 0, _ => exact cell_at h rfl⟩⟩

set_option maxHeartbeats 8000000 in
set_option maxRecDepth 10000 in
theorem judged_any (hO : MeshCore) (hA : AuditOwes) (w : World) : Calls Tryz.prog 10 #[] w fun e w' => e = .returned (.bool true) ∧ Below w.heap.size w w' := by
  have HO := hid hO
  have HAu := hid hA
  clear hO hA
  go_enter Tryz.func10, Tryz.ntmps10
  go_wp2_with fail
  refine Calls.mono (begun_any HO.out w) ?_
  rintro e W1 ⟨hb1, ab, cb, PV, al, cl, KV, UV, rfl, hv1, hl1, hN1⟩
  have hbM := below_alloc W1 (.cells #[.slice ab 1 cb, .slice al 5 cl] 27)
  have hx := MsAt.box hv1 hl1
  obtain ⟨bl, off, hal, hbl, _, _, _, _⟩ := hl1.at (i := 0) (by omega)
  obtain ⟨bl', off', hal', _, _, _, _, ke⟩ := hl1.at (i := 1) (by omega)
  subst hal
  injection hal' with hal'
  injection hal' with e1 e2
  subst e1 e2
  obtain ⟨ak, ck, hke, _, hk1⟩ := ke
  rcases hk1 with hk1 | ⟨bk, ok, rfl, hbk, hk1⟩
  · exact absurd hk1 (by show ¬ (1 : Nat) = 0; decide)
  obtain ⟨au, cu, hue, _, hu1⟩ := (hk1 0 (by show (0 : Nat) < 1; decide)).2.2.2
  rcases hu1 with hu1 | ⟨bu, ou, rfl, hbu, hu1⟩
  · exact absurd hu1 (by show ¬ (2 : Nat) = 0; decide)
  obtain ⟨V1, hV1⟩ : ∃ v, World.alloc W1 (.cells #[.slice ab 1 cb, .slice (some ⟨bl, off, none⟩) 5 cl] 27) = v := ⟨_, rfl⟩
  rw [hV1] at hbM hx
  obtain ⟨g1, hg1⟩ : ∃ g, W1.heap.size = g := ⟨_, rfl⟩
  have A1 : Hid (WvAt w.heap.size V1 g1 ab cb PV bl off cl KV UV bk ok ck bu ou cu true 7) := ⟨by rw [← hg1]; exact hx, hN1.up hbM, hke, hue, by omega, by omega⟩
  have B1 := hid (hb1.trans (hbM.mono hb1.size))
  have hlo : w.heap.size ≤ bl := (hN1.1 _ _ _ rfl).1
  have hlo2 : w.heap.size ≤ bu := by
    have h9 := ((hN1.2 1 (by omega)).2 0 (by show (0 : Nat) < 1; decide)).resolve_left (by show ¬ (2 : Nat) = 0; decide)
    rw [hue] at h9
    exact (h9 _ _ _ rfl).1
  have HLo := hid hlo
  have HLo2 := hid hlo2
  obtain ⟨⟨c0, c1⟩, _, u2, v2, ⟨x0, fx⟩⟩ := A1.out.cells
  have A2 := hid (A1.out.bends (Or.inl rfl) 8)
  have B2 := hid (B1.out.setCell (p := ⟨bu, ou, none⟩) (by show w.heap.size ≤ bu; exact HLo2.out) (.int .i64 8))
  obtain ⟨V2, hV2⟩ : ∃ v, V1.setCell ⟨bu, ou, none⟩ (.int .i64 8) = v := ⟨_, rfl⟩
  rw [hV2] at A2 B2
  obtain ⟨⟨d0, d1⟩, _⟩ := A2.out.cells
  have CK := hid (HAu.out.blamed _ 1 PV wB _ 5 KV UV (wP true 8) 0 V2 A2.out.box.2.1 A2.out.box.2.2)
  unfold blameV at CK
  rw [j_e, if_pos rfl, j_l] at CK
  unfold meshV at CK
  clear hbM hx hb1 hv1 hl1 hN1 hk1 hu1 hbl hbk hbu hlo hlo2 hke hue
  go_wp2_with fail
  refine Calls.mono CK.out ?_
  rintro e u3 ⟨hb, vo, rfl, hlo3⟩
  have A3 := hid (A2.out.up hb)
  have B3 := hid (B2.out.trans (hb.mono B2.out.size))
  have R3 := hid hlo3
  obtain ⟨ao, co, rfl, _, _⟩ := hlo3
  clear hb CK c0 c1 u2 v2 x0 fx d0 d1 hV1 hV2 A1 A2 B1 B2
  obtain ⟨⟨c0, c1⟩, _⟩ := A3.out.cells
  obtain ⟨bl', off', e, _, q0, _, _, _⟩ := A3.out.box.2.2.at (i := 3) (by omega)
  injection e with e
  injection e with e1 e2
  subst e1 e2
  have q9 : u3.cell? ⟨bl, off + 9, none⟩ = some (.bool true) := q0
  have f9 : u3.frozen? ⟨bl, off + 9, none⟩ = false := (A3.out.new.1 _ _ _ rfl).2.2 (off + 9)
  have hp := ps_there (P' := wJ) A3.out.box.2.2 (q := 3) (by omega) false (fun k hk => ⟨rfl, rfl, rfl, rfl⟩)
  have hz : (u3.setCell ⟨bl, off + 9, none⟩ (.bool false)).heap.size = u3.heap.size := by simp [World.setCell]
  have X4 : Hid (MsAt (u3.setCell ⟨bl, off + 9, none⟩ (.bool false)) g1 ab 1 cb PV wB (some ⟨bl, off, none⟩) 5 cl KV UV wJ) := by
    refine ⟨?_, ?_, hp⟩
    · rw [Below.heap_setCell _ _ _ _ (by show g1 ≠ bl; exact fun e => A3.out.ne1 e.symm)]; exact A3.out.box.1
    · rw [hz]; exact ve_bool A3.out.box.2.1 q9 _
  have B4 := hid (B3.out.setCell (p := ⟨bl, off + 9, none⟩) (by show w.heap.size ≤ bl; exact HLo.out) (.bool false))
  have R4 : Hid (IntSl (u3.setCell ⟨bl, off + 9, none⟩ (.bool false)) (u3.setCell ⟨bl, off + 9, none⟩ (.bool false)).heap.size (.slice ao [(1 : Int)].length co) [(1 : Int)].length (fun j => [(1 : Int)].getD j 0)) := by
    show IntSl _ _ _ _ _
    rw [hz]
    exact isl_bool R3.out q9 _
  obtain ⟨V4, hV4⟩ : ∃ v, u3.setCell ⟨bl, off + 9, none⟩ (.bool false) = v := ⟨_, rfl⟩
  rw [hV4] at X4 B4 R4
  obtain ⟨d0, d1⟩ := X4.out.cells
  have CK := hid (HAu.out.lacking _ 1 PV wB _ 5 KV UV wJ 0 V4 X4.out.2.1 X4.out.2.2)
  unfold lackV at CK
  rw [j_v, if_pos rfl, j_n] at CK
  unfold meshV at CK
  clear q0 hp hz
  go_wp2_with fail
  refine Calls.mono CK.out ?_
  rintro e u5 ⟨rfl, hb⟩
  replace X4 := hid (X4.out.up hb)
  replace B4 := hid (B4.out.trans (hb.mono B4.out.size))
  replace R4 := hid (R4.out.up hb)
  clear hb CK c0 c1 q9 f9 d0 d1 hV4 A3 B3 R3
  obtain ⟨d0, d1⟩ := X4.out.cells
  have CK := hid (HAu.out.lacking _ 1 PV wB _ 5 KV UV wJ 1 u5 X4.out.2.1 X4.out.2.2)
  unfold lackV at CK
  rw [j_w, if_neg (by decide)] at CK
  unfold meshV at CK
  go_wp2_with fail
  refine Calls.mono CK.out ?_
  rintro e u6 ⟨rfl, hb⟩
  replace B4 := hid (B4.out.trans (hb.mono B4.out.size))
  replace R4 := hid (R4.out.up hb)
  clear hb CK d0 d1 X4
  have hbD := below_alloc u6 (.cells #[.int .i64 1] 3)
  have kd := heap_alloc_new u6 (.cells #[.int .i64 1] 3)
  obtain ⟨V8, hV8⟩ : ∃ v, World.alloc u6 (.cells #[.int .i64 1] 3) = v := ⟨_, rfl⟩
  rw [hV8] at hbD kd
  have CK := hid (equal_isl (R4.out.up hbD) (isl_num1 kd))
  rw [show eqB [(1 : Int)].length 1 (fun j => [(1 : Int)].getD j 0) (fun i => [(1 : Int)].getD i 0) = true from decide_eq_true ⟨rfl, fun _ _ => rfl⟩] at CK
  have B9 := hid (B4.out.trans (hbD.mono B4.out.size))
  clear hbD kd
  go_wp2_with fail
  refine Calls.mono CK.out ?_
  rintro e y1 ⟨rfl, j1, hy1⟩
  have hb : Below V8.heap.size V8 y1 := by rw [hy1]; exact drewN_up _ _
  have B10 := hid (B9.out.trans (hb.mono B9.out.size))
  clear hb hy1 CK hV8 B9
  go_wp2
  go_ret
  exact ⟨rfl, B10.out⟩

end Go.Proofs.YtjfnpjmhippdoafGreat

/- The shares that are there, one peer after the other, and what is counted of them. -/
namespace Go.Proofs.YtjfnpjmhippdoafGreat

open Go.RowKit CurveMath
set_option linter.unusedVariables false

theorem flatS_eqv {n : Nat} {N N' : Nat → Int} {V V' : Nat → Value} (h : ∀ j, j < n → N j = N' j ∧ V j = V' j) : flatS n N V = flatS n N' V' := by
  unfold flatS
  refine List.map_congr_left fun i hi => ?_
  have hi2 := List.mem_range.1 hi
  obtain ⟨h1, h2⟩ := h (i / 2) (by omega)
  unfold cellS
  rw [h1, h2]

theorem flatS_snoc (P : Ps) (UV : Nat → Nat → Value) (l : List (Nat × Nat)) (k i : Nat) : flatS (l ++ [(k, i)]).length (nL P (l ++ [(k, i)])) (vaL UV (l ++ [(k, i)])) = flatS l.length (nL P l) (vaL UV l) ++ [.int .i64 ((P.t k).N i), UV k i] := by
  rw [List.length_append, show [(k, i)].length = 1 from rfl, flatS_succ]
  have e1 : nL P (l ++ [(k, i)]) l.length = (P.t k).N i := by unfold nL; rw [getD_new]
  have e2 : vaL UV (l ++ [(k, i)]) l.length = UV k i := by unfold vaL; rw [getD_new]
  rw [e1, e2]
  congr 1
  exact flatS_eqv fun j hj => by unfold nL vaL; rw [getD_old _ _ _ hj]; exact ⟨rfl, rfl⟩

theorem seenN_snoc (P : Ps) (l : List (Nat × Nat)) (k i : Nat) (N : Int) : seenN P (l ++ [(k, i)]) N = (seenN P l N || decide ((P.t k).N i = N)) := by
  unfold seenN
  rw [List.any_append]
  simp

/-- a block of another kind is not that of the list -/
theorem row_ne {wr : World} {base : Nat} {e : TypeId} {size n : Nat} {v : Value} {xs : List Value} {g : Nat} {cs : Array Value} {T : TypeId} {fz : Nat × Nat} (h : wr.ownsRow base e size v n xs) (hb : wr.heap[g]? = some (.cells cs T fz)) (hT : T ≠ e) : some g ≠ v.ownBlock := by
  obtain ⟨_, h2⟩ := h
  rcases h2 with ⟨rfl, _⟩ | ⟨g', cap, cur, rfl, _, hh, _⟩
  · intro e; cases e
  · intro e
    injection e with e
    subst e
    rw [hb] at hh
    injection hh with hh
    injection hh with _ h3 _
    exact hT h3

theorem cells_pr (w : World) (N : Int) (v : Value) (T : TypeId) : ∀ j u, ([.int .i64 N, v] : List Value)[j]? = some u → (w.alloc (.cells #[.int .i64 N, v] T)).cell? (Addr.add ⟨w.heap.size, 0, none⟩ j) = some u := by
  intro j u hj
  rw [Addr.add_lit]
  match j, hj with
  | 0, hj => simp at hj; subst hj; exact cell_at (heap_alloc_new _ _) rfl
  | 1, hj => simp at hj; subst hj; exact cell_at (heap_alloc_new _ _) rfl

theorem rest_err {w w' : World} {n : Nat} {b : Bk} {np : Nat} {P : Ps} {k c : Int} (hb : Below w.heap.size w w') (hc : verM n b np P k = c) (h0 : c ≠ 0) : RestPost w n b np P k (.returned (.tuple #[.slice none 0 0, .slice none 0 0, .int .i64 c])) w' := by
  have h1 : rsE n b np P k = c := by unfold rsE; rw [hc, if_neg h0]
  have h2 : rsB n b np P k = [] := by unfold rsB; rw [hc, if_neg h0]
  refine ⟨hb, .slice none 0 0, .slice none 0 0, 0, by rw [h1], by rw [h1, if_neg h0]; rfl, ⟨none, 0, rfl, ⟨Nat.le_refl _, by omega⟩, Or.inl rfl⟩, ?_⟩
  rw [h2]
  exact ⟨none, 0, rfl, ⟨Nat.le_refl _, by simp⟩, Or.inl rfl⟩

theorem rest_of {w w1 w' : World} {n : Nat} {b : Bk} {np : Nat} {P : Ps} {k : Int} {e : Ending} (hb : Below w.heap.size w w1) (hv : verM n b np P k = 0) (h : MostPost w1 (b.nd k.toNat) (b.of k.toNat) (b.sz k.toNat) (thereL P k np).length (nT P (thereL P k np)) (lT P (thereL P k np)) (xT P (thereL P k np)) e w') : RestPost w n b np P k e w' := by
  obtain ⟨h1, r, bb, m, h2, h3, h4, h5⟩ := h
  refine ⟨hb.trans (h1.mono hb.size), r, bb, m, ?_, ?_, h4, ?_⟩
  · unfold rsE; rw [if_pos hv]; exact h2
  · unfold rsE; rw [if_pos hv]; exact h3
  · unfold rsB; rw [if_pos hv]; exact h5

/-- a number more is counted; the list of those seen stays or grows -/
theorem seen_hit {P : Ps} {l l' : List (Nat × Nat)} {c : Int → Int} {M k i : Nat} {N : Int} (h : ∀ x, 0 ≤ c x ∧ c x ≤ (M : Int)) (hc : ∀ x, c x = 0 ↔ seenN P l x = false) (hN : (P.t k).N i = N) (hl : l' = if (!seenN P l N) = true then l ++ [(k, i)] else l) :
    (∀ x, 0 ≤ (if x = N then c N + 1 else c x) ∧ (if x = N then c N + 1 else c x) ≤ ((M + 1 : Nat) : Int)) ∧ ∀ x, (if x = N then c N + 1 else c x) = 0 ↔ seenN P l' x = false := by
  have hcN := h N
  refine ⟨fun x => ?_, fun x => ?_⟩
  · have := h x
    by_cases e : x = N
    · rw [if_pos e]; omega
    · rw [if_neg e]; omega
  · by_cases e : x = N
    · subst e
      rw [if_pos rfl]
      constructor
      · intro h9; omega
      · intro h9
        exfalso
        rw [hl] at h9
        cases hs : seenN P l x with
        | true => rw [hs, Bool.not_true, if_neg (by decide), hs] at h9; cases h9
        | false => rw [hs, Bool.not_false, if_pos rfl, seenN_snoc, hN, decide_eq_true rfl, Bool.or_true] at h9; cases h9
    · rw [if_neg e, hc x, hl]
      cases hs : seenN P l N with
      | true => rw [Bool.not_true, if_neg (by decide)]
      | false => rw [Bool.not_false, if_pos rfl, seenN_snoc, hN, decide_eq_false (fun h => e h.symm), Bool.or_false]

/-- .. of a list of numbers -/
theorem nums_hit {T : List Int} {c : Int → Int} {M : Nat} {N : Int} (h : ∀ x, 0 ≤ c x ∧ c x ≤ (M : Int)) (hc : ∀ x, c x = 0 ↔ T.contains x = false) :
    (∀ x, 0 ≤ (if x = N then c N + 1 else c x) ∧ (if x = N then c N + 1 else c x) ≤ ((M + 1 : Nat) : Int)) ∧ ∀ x, (if x = N then c N + 1 else c x) = 0 ↔ (T ++ [N]).contains x = false := by
  have hcN := h N
  refine ⟨fun x => ?_, fun x => ?_⟩
  · have := h x
    by_cases e : x = N
    · rw [if_pos e]; omega
    · rw [if_neg e]; omega
  · by_cases e : x = N
    · subst e
      rw [if_pos rfl]
      constructor
      · intro h9; omega
      · intro h9; simp at h9
    · rw [if_neg e, hc x]
      simp [e]

/-- the first f peers' shares, one peer more -/
theorem thAll_has {n : Nat} {b : Bk} {np : Nat} {P : Ps} (h : MeshR n b np P) (ver : Int) {k : Nat} (hk : k < np) : thAll P ver (k + 1) = if (hasK P ver k && !seenN P (thAll P ver k) (numK P ver k)) = true then thAll P ver k ++ [(k, atK P ver k)] else thAll P ver k := by
  rw [thAll_succ]
  exact thRow_has (fun i j hij hj => (h.peer k hk).rise i j hij hj) _

theorem thAll_len {n : Nat} {b : Bk} {np : Nat} {P : Ps} (h : MeshR n b np P) (ver : Int) : ∀ k, k ≤ np → (thAll P ver k).length ≤ k := by
  intro k
  induction k with
  | zero => intro _; exact Nat.le_refl _
  | succ k ih =>
    intro hk
    have := ih (by omega)
    rw [thAll_has h ver (by omega)]
    split
    · rw [List.length_append]; simp; omega
    · omega

/-- what a version was restored to can be split -/
theorem split_ok {d m s : Nat} {D : Nat → Int} (hp : planOk (d : Int) (m : Int) (s : Int) = true) (hD : ∀ j, 0 ≤ D j ∧ D j ≤ 30) : splitE (d : Int) (m : Int) (s : Int) s D = 0 := by
  unfold splitE
  rw [if_pos hp, if_pos rfl, if_pos]
  unfold numsB
  refine decide_eq_true fun j _ => ?_
  have := hD j
  unfold isNum
  simp
  omega

end Go.Proofs.YtjfnpjmhippdoafGreat

/- What chapter 9's reference answers: the shares of a version that are there. -/
namespace Go.Proofs.YtjfnpjmhippdoafGreat

open Go.RowKit
set_option linter.unusedVariables false

/-- the box, who was seen, and the list -/
structure ThInv (w wr : World) (vb vl : Value) (P : Ps) (UV : Nat → Nat → Value) (l s : List (Nat × Nat)) (vo : Value) : Prop where
  below : Below w.heap.size w wr
  box : wr.heap[w.heap.size]? = some (.cells #[vb, vl] 27 (0, 0))
  seen : ∃ cs : Array Value, wr.heap[w.heap.size + 1]? = some (.cells cs 65 (0, 0)) ∧ cs.size = 8 ∧ ∀ q, q < 8 → cs[q]? = some (.bool (seenN P s q))
  row : wr.ownsRow (w.heap.size + 2) 48 2 vo l.length (flatS l.length (nL P l) (vaL UV l))

section

variable {w wr w' : World} {vb vl : Value} {P : Ps} {UV : Nat → Nat → Value} {l s : List (Nat × Nat)} {vo : Value}

theorem ThInv.up (h : ThInv w wr vb vl P UV l s vo) (hb : Below wr.heap.size wr w') : ThInv w w' vb vl P UV l s vo := by
  obtain ⟨cs, h1, h2, h3⟩ := h.seen
  exact ⟨h.below.trans (hb.mono h.below.size), stayB h.box hb, ⟨cs, stayB h1 hb, h2, h3⟩, owns_below h.row hb⟩

theorem ThInv.push (h : ThInv w wr vb vl P UV l s vo) {k i : Nat} {v1 : Value} {o : Obj} (ho : w'.ownsRow (w.heap.size + 2) 48 2 v1 (l.length + 1) (flatS l.length (nL P l) (vaL UV l) ++ [.int .i64 ((P.t k).N i), UV k i])) (hg : (wr.alloc o).grownBy w' vo.ownBlock) : ThInv w w' vb vl P UV (l ++ [(k, i)]) s v1 := by
  have hA := h.up (below_alloc wr o)
  obtain ⟨cs, h1, h2, h3⟩ := hA.seen
  refine ⟨hA.below.grown hg hA.below.size (fun g hgg => Nat.le_trans (by omega) (hA.row.lt g hgg).1), ?_, ⟨cs, ?_, h2, h3⟩, ?_⟩
  · rw [hg.block _ (Array.getElem?_eq_some_iff.1 hA.box).1 (row_ne hA.row hA.box (by decide))]; exact hA.box
  · rw [hg.block _ (Array.getElem?_eq_some_iff.1 h1).1 (row_ne hA.row h1 (by decide))]; exact h1
  · rw [flatS_snoc, List.length_append]; exact ho

end

end Go.Proofs.YtjfnpjmhippdoafGreat
