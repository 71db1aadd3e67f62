/- Several texts of one proof, in their order. -/
import Derived.Test.YtikchpffkhohlaaGreatSSum11
import Derived.Test.YtikchpffkhohlaaGreatSSum5
import Derived.Test.YtikchpffkhohlaaGreatSSum10

namespace Go.Proofs.YtikchpffkhohlaaGreat
open Go.RowKit CurveMath
set_option linter.unusedVariables false
def NewP (B : Nat) (w : World) (vl : Value) (np : Nat) (KV : Nat → Value) (UV : Nat → Nat → Value) (P : Ps) : Prop := NewV B w vl ∧ ∀ k, k < np → NewV B w (KV k) ∧ ∀ i, i < P.m k → (P.t k).L i = 0 ∨ NewV B w (UV k i)
def MeshPostN (w : World) (er : Int) (n : Nat) (b : Bk) (np : Nat) (P : Ps) (e : Ending) (w' : World) : Prop :=
 Below w.heap.size w w' ∧ ∃ (vb vl : Value) (n' np' : Nat) (PV KV : Nat → Value) (UV : Nat → Nat → Value), e = .returned (.tuple #[meshV vb vl, .int .i64 er]) ∧ n' = (if er = 0 then n else 0) ∧ np' = (if er = 0 then np else 0) ∧
  VeSl w' w'.heap.size vb n' PV b ∧ PsSl w' w'.heap.size vl np' KV UV P ∧ NewP w.heap.size w' vl np' KV UV P ∧ ∀ s, s < w.heap.size → VeOff s vb n' PV b
theorem MeshPostN.old {w : World} {er : Int} {n : Nat} {b : Bk} {np : Nat} {P : Ps} {e : Ending} {w' : World} (h : MeshPostN w er n b np P e w') : MeshPost w er n b np P e w' := by
 obtain ⟨h1, vb, vl, n', np', PV, KV, UV, h2, h3, h4, h5, h6, _⟩ := h
 exact ⟨h1, vb, vl, n', np', PV, KV, UV, h2, h3, h4, h5, h6⟩
structure MeshCore : Prop where
 check : ∀ (vb : Value) (n : Nat) (PV : Nat → Value) (b : Bk) (vl : Value) (np : Nat) (KV : Nat → Value) (UV : Nat → Nat → Value) (P : Ps) (w : World), VeSl w w.heap.size vb n PV b → PsSl w w.heap.size vl np KV UV P →
  Calls Tryz.prog 19 #[meshV vb vl] w fun e w' => e = .returned (.int .i64 (peersE n b np P)) ∧ Below w.heap.size w w'
 new : ∀ (vr : Value) (len : Nat) (X : Nat → Int) (w : World), IntSl w w.heap.size vr len X → len ≤ 1048576 →
  Calls Tryz.prog 10 #[vr] w (MeshPostN w (newE len X) 0 noB len (freshP X))
 restore : ∀ (vb : Value) (n : Nat) (PV : Nat → Value) (b : Bk) (vl : Value) (np : Nat) (KV : Nat → Value) (UV : Nat → Nat → Value) (P : Ps) (k : Int) (w : World), VeSl w w.heap.size vb n PV b → PsSl w w.heap.size vl np KV UV P →
  Calls Tryz.prog 11 #[meshV vb vl, .int .i64 k] w (RestPost w n b np P k)
 save : ∀ (vb : Value) (n : Nat) (PV : Nat → Value) (b : Bk) (vl : Value) (np : Nat) (KV : Nat → Value) (UV : Nat → Nat → Value) (P : Ps) (vd : Value) (len : Nat) (D : Nat → Int) (vp : Value) (lp : Nat) (X : Nat → Int) (need of : Int) (w : World),
  VeSl w w.heap.size vb n PV b → PsSl w w.heap.size vl np KV UV P → IntSl w w.heap.size vd len D → IntSl w w.heap.size vp lp X →
  Calls Tryz.prog 13 #[meshV vb vl, vd, vp, .int .i64 need, .int .i64 of] w (MeshPostN w (saveE n b np P need of len D lp X) (n + 1) (saveB n b need of len lp X) np (saveP n np P need of len D))
 repair : ∀ (vb : Value) (n : Nat) (PV : Nat → Value) (b : Bk) (vl : Value) (np : Nat) (KV : Nat → Value) (UV : Nat → Nat → Value) (P : Ps) (k : Int) (w : World), VeSl w w.heap.size vb n PV b → PsSl w w.heap.size vl np KV UV P →
  Calls Tryz.prog 12 #[meshV vb vl, .int .i64 k] w (MeshPostN w (mendE n b np P k) n b np (mendP b np P k))
structure MeshOwes : Prop extends MeshCore where
 same : ∀ (w : World) (vb vl vb' vl' : Value) (n n' np np' : Nat) (PV PV' KV KV' : Nat → Value) (UV UV' : Nat → Nat → Value) (b b' : Bk) (P P' : Ps), VeSl w w.heap.size vb n PV b → PsSl w w.heap.size vl np KV UV P → VeSl w w.heap.size vb' n' PV' b' → PsSl w w.heap.size vl' np' KV' UV' P' →
  Calls Tryz.prog 21 #[meshV vb vl, meshV vb' vl'] w fun e w' => e = .returned (.bool (meshB n n' b b' np np' P P')) ∧ Below w.heap.size w w'
def MsAt (w : World) (g : Nat) (ab : Option Addr) (n cb : Nat) (PV : Nat → Value) (b : Bk) (al : Option Addr) (np cl : Nat) (KV : Nat → Value) (UV : Nat → Nat → Value) (P : Ps) : Prop :=
 w.heap[g]? = some (.cells #[.slice ab n cb, .slice al np cl] 27 (0, 0)) ∧ VeSl w w.heap.size (.slice ab n cb) n PV b ∧ PsSl w w.heap.size (.slice al np cl) np KV UV P
section
variable {w w' : World} {g : Nat} {ab : Option Addr} {n cb : Nat} {PV : Nat → Value} {b : Bk} {al : Option Addr} {np cl : Nat} {KV : Nat → Value} {UV : Nat → Nat → Value} {P : Ps}
theorem MsAt.up (h : MsAt w g ab n cb PV b al np cl KV UV P) (hb : Below w.heap.size w w') : MsAt w' g ab n cb PV b al np cl KV UV P := ⟨stayB h.1 hb, h.2.1.up hb, h.2.2.up hb⟩
theorem MsAt.cells (h : MsAt w g ab n cb PV b al np cl KV UV P) : w.cell? ⟨g, 0, none⟩ = some (.slice ab n cb) ∧ w.cell? ⟨g, 1, none⟩ = some (.slice al np cl) := two_at h.1
theorem MsAt.box (hv : VeSl w w.heap.size (.slice ab n cb) n PV b) (hl : PsSl w w.heap.size (.slice al np cl) np KV UV P) : MsAt (w.alloc (.cells #[.slice ab n cb, .slice al np cl] 27)) w.heap.size ab n cb PV b al np cl KV UV P :=
 ⟨heap_alloc_new _ _, hv.up (below_alloc _ _), hl.up (below_alloc _ _)⟩
end
theorem mesh_open {w : World} {er : Int} {n : Nat} {b : Bk} {np : Nat} {P : Ps} {e : Ending} {w' : World} (h : MeshPost w er n b np P e w') :
  Below w.heap.size w w' ∧ ∃ (ab : Option Addr) (n' cb : Nat) (PV : Nat → Value) (al : Option Addr) (np' cl : Nat) (KV : Nat → Value) (UV : Nat → Nat → Value), e = .returned (.tuple #[.agg #[.slice ab n' cb, .slice al np' cl], .int .i64 er]) ∧
   n' = (if er = 0 then n else 0) ∧ np' = (if er = 0 then np else 0) ∧ VeSl w' w'.heap.size (.slice ab n' cb) n' PV b ∧ PsSl w' w'.heap.size (.slice al np' cl) np' KV UV P := by
 obtain ⟨h1, vb, vl, n', np', PV, KV, UV, rfl, h3, h4, h5, h6⟩ := h
 have h5' := h5
 have h6' := h6
 obtain ⟨ab, cb, rfl, _, _⟩ := h5'
 obtain ⟨al, cl, rfl, _, _⟩ := h6'
 exact ⟨h1, ab, n', cb, PV, al, np', cl, KV, UV, rfl, h3, h4, h5, h6⟩
theorem rest_open {w : World} {n : Nat} {b : Bk} {np : Nat} {P : Ps} {k : Int} {e : Ending} {w' : World} (h : RestPost w n b np P k e w') :
  Below w.heap.size w w' ∧ ∃ (a1 : Option Addr) (m c1 : Nat) (a2 : Option Addr) (c2 : Nat), e = .returned (.tuple #[.slice a1 m c1, .slice a2 (rsB n b np P k).length c2, .int .i64 (rsE n b np P k)]) ∧ (m : Int) = (if rsE n b np P k = 0 then b.sz k.toNat else 0) ∧
   IntSl w' w'.heap.size (.slice a1 m c1) m (rsD b np P k) ∧ IntSl w' w'.heap.size (.slice a2 (rsB n b np P k).length c2) (rsB n b np P k).length (fun j => (rsB n b np P k).getD j 0) := by
 obtain ⟨h1, r, bb, m, rfl, h3, h4, h5⟩ := h
 have h4' := h4
 have h5' := h5
 obtain ⟨a1, c1, rfl, _, _⟩ := h4'
 obtain ⟨a2, c2, rfl, _, _⟩ := h5'
 exact ⟨h1, a1, m, c1, a2, c2, rfl, h3, h4, h5⟩
theorem restP_refl (P : Ps) : ∀ f k, restP P P f k = true := by
 intro f
 induction f with
 | zero => intro k; rfl
 | succ f ih =>
  intro k
  simp only [restP]
  rw [ih, Bool.and_true]
  unfold prB
  exact peerB_refl _ _ _ _
end Go.Proofs.YtikchpffkhohlaaGreat

namespace Go.Proofs.YtikchpffkhohlaaGreat
open Go.RowKit CurveMath
set_option linter.unusedVariables false
theorem eqB_self (n : Nat) (X : Nat → Int) : eqB n n X X = true := decide_eq_true ⟨rfl, fun _ _ => rfl⟩
theorem bookB_self (n : Nat) (b : Bk) : bookB n n b b = true := by
 have h : ∀ f k, restB b b f k = true := by
  intro f
  induction f with
  | zero => intro k; rfl
  | succ f ih =>
   intro k
   simp only [restB]
   rw [ih, Bool.and_true]
   unfold verB
   rw [eqB_self]
   simp
 unfold bookB
 rw [h, decide_eq_true rfl]
 rfl
theorem meshB_self (n : Nat) (b : Bk) (np : Nat) (P : Ps) : meshB n n b b np np P P = true := by
 unfold meshB peersB
 rw [bookB_self, restP_refl, decide_eq_true rfl]
 rfl
theorem heap_tri (w : World) (o1 o2 o3 : Obj) : (((w.alloc o1).alloc o2).alloc o3).heap[w.heap.size]? = some o1 ∧ (((w.alloc o1).alloc o2).alloc o3).heap[w.heap.size + 1]? = some o2 ∧ (((w.alloc o1).alloc o2).alloc o3).heap[w.heap.size + 2]? = some o3 := by
 refine ⟨?_, ?_, ?_⟩
 ·rw [Below.heap_alloc _ _ _ (by simp; omega), Below.heap_alloc _ _ _ (by simp)]; exact heap_alloc_new _ _
 ·rw [Below.heap_alloc _ _ _ (by simp)]
  have := heap_alloc_new (w.alloc o1) o2
  simpa using this
 ·have := heap_alloc_new ((w.alloc o1).alloc o2) o3
  simpa using this
theorem drewN_up (w : World) (k : Nat) : Below w.heap.size w (w.drewN k) := ⟨rfl, rfl, rfl, Nat.le_refl _, fun _ _ => rfl⟩
end Go.Proofs.YtikchpffkhohlaaGreat

namespace Go.Proofs.YtikchpffkhohlaaGreat
open Go.RowKit
set_option linter.unusedVariables false
theorem cell_set_lit {w : World} {g o g' o' : Nat} (h : g' ≠ g ∨ o' ≠ o) (u : Value) : (w.setCell ⟨g, o, none⟩ u).cell? ⟨g', o', none⟩ = w.cell? ⟨g', o', none⟩ := by
 by_cases hg : g' = g
 ·subst hg
  have ho : o' ≠ o := by rcases h with h | h; exact absurd rfl h; exact h
  unfold World.cell? World.setCell
  simp only [Array.getElem?_modify]
  cases hb : w.heap[g']? with
  | none => simp
  | some x =>
   cases x <;> simp [Array.getElem?_setIfInBounds_ne (Ne.symm ho)]
 ·exact World.cell?_of_block (Below.heap_setCell _ _ _ _ (by show g' ≠ g; exact hg))
theorem cell_set_same {w : World} {g o : Nat} {v : Value} (h : w.cell? ⟨g, o, none⟩ = some v) (u : Value) : (w.setCell ⟨g, o, none⟩ u).cell? ⟨g, o, none⟩ = some u := by
 unfold World.cell? at h
 unfold World.cell? World.setCell
 simp only [Array.getElem?_modify]
 cases hb : w.heap[g]? with
 | none => rw [hb] at h; simp at h
 | some x =>
  rw [hb] at h
  cases x with
  | cells c e f =>
   simp at h
   have ho : o < c.size := (Array.getElem?_eq_some_iff.1 h).1
   simp [ho]
  | _ => simp at h
theorem world_eq {w w' : World} (h1 : w'.heap = w.heap) (h2 : w'.tape = w.tape) (h3 : w'.drawn = w.drawn) (h4 : w'.os = w.os) (h5 : w'.output = w.output) : w' = w := by
 cases w'
 cases w
 simp_all
theorem setCell_same {w : World} {g o : Nat} {u : Value} (h : w.cell? ⟨g, o, none⟩ = some u) : w.setCell ⟨g, o, none⟩ u = w := by
 refine world_eq ?_ rfl rfl rfl rfl
 unfold World.cell? at h
 unfold World.setCell
 apply Array.ext_getElem?
 intro i
 simp only [Array.getElem?_modify]
 by_cases hi : g = i
 ·subst hi
  rw [if_pos rfl]
  cases hb : w.heap[g]? with
  | none => rfl
  | some x =>
   rw [hb] at h
   cases x with
   | cells c e f =>
    simp at h
    obtain ⟨ho, hoe⟩ := Array.getElem?_eq_some_iff.1 h
    simp only [Option.map_some, Option.isSome_none, Bool.false_eq_true, if_false, Option.some.injEq, Obj.cells.injEq, and_true]
    apply Array.ext_getElem?
    intro j
    rw [Array.getElem?_setIfInBounds]
    by_cases hj : o = j
    ·subst hj; rw [if_pos rfl, if_pos ho, h]
    ·rw [if_neg hj]
   | _ => rfl
 ·rw [if_neg hi]
theorem frozen_set {w : World} {a b : Addr} {u : Value} : (w.setCell a u).frozen? b = w.frozen? b := by
 unfold World.frozen? World.setCell
 simp only [Array.getElem?_modify]
 by_cases h : a.block = b.block
 ·rw [if_pos h]
  cases hb : w.heap[b.block]? with
  | none => rfl
  | some x => cases x <;> rfl
 ·rw [if_neg h]
theorem isl_slice {w : World} {B g o : Nat} {v : Value} {m : Nat} {X : Nat → Int} {a : Option Addr} {n c : Nat} (h : IntSl w B v m X) (hc : w.cell? ⟨g, o, none⟩ = some (.slice a n c)) (u : Value) : IntSl (w.setCell ⟨g, o, none⟩ u) B v m X := by
 obtain ⟨ad, cap, rfl, h0, h2⟩ := h
 refine ⟨ad, cap, rfl, h0, ?_⟩
 rcases h2 with h2 | ⟨b, off, rfl, h4, h5⟩
 ·exact Or.inl h2
 ·refine Or.inr ⟨b, off, rfl, h4, fun j hj => ?_⟩
  have h6 := h5 j hj
  rw [cell_set_lit]
  ·exact h6
  ·by_cases e1 : b = g
   ·right
    intro e2
    rw [e1, e2, hc] at h6
    injection h6 with h6
    cases h6
   ·exact Or.inl e1
theorem kel_slice {w : World} {B g o : Nat} {v : Value} {m : Nat} {UV : Nat → Value} {t : Kt} {a : Option Addr} {n c : Nat} {th : Bool} (h : KeSl w B v m UV t) (hc : w.cell? ⟨g, o + 2, none⟩ = some (.slice a n c)) (hb : w.cell? ⟨g, o, none⟩ = some (.bool th)) (u : Value) : KeSl (w.setCell ⟨g, o + 2, none⟩ u) B v m UV t := by
 obtain ⟨ad, cap, rfl, h0, h2⟩ := h
 refine ⟨ad, cap, rfl, h0, ?_⟩
 rcases h2 with h2 | ⟨b, off, rfl, h4, h5⟩
 ·exact Or.inl h2
 ·refine Or.inr ⟨b, off, rfl, h4, fun j hj => ?_⟩
  obtain ⟨x0, x1, x2, x3⟩ := h5 j hj
  refine ⟨?_, ?_, ?_, isl_slice x3 hc u⟩
  ·rw [cell_set_lit]
   ·exact x0
   ·by_cases e1 : b = g
    ·right; intro e2; rw [e1, e2, hc] at x0; injection x0 with x0; cases x0
    ·exact Or.inl e1
  ·rw [cell_set_lit]
   ·exact x1
   ·by_cases e1 : b = g
    ·right; intro e2; rw [e1, e2, hc] at x1; injection x1 with x1; cases x1
    ·exact Or.inl e1
  ·rw [cell_set_lit]
   ·exact x2
   ·by_cases e1 : b = g
    ·right
     intro e2
     have e3 : off + j * 3 = o := by omega
     rw [e1, e3, hb] at x0
     injection x0 with x0
     cases x0
    ·exact Or.inl e1
def flatP (KV : Nat → Value) (P : Ps) (np : Nat) : List Value := (List.range np).flatMap fun k => [.bool (P.th k), .int .i64 (P.rm k), KV k]
theorem flatP_len (KV : Nat → Value) (P : Ps) (np : Nat) : (flatP KV P np).length = np * 3 := by
 induction np with
 | zero => rfl
 | succ np ih =>
  unfold flatP at ih ⊢
  rw [List.range_succ, List.flatMap_append, List.length_append, ih]
  simp
  omega
theorem flatP_succ (KV : Nat → Value) (P : Ps) (np : Nat) : flatP KV P (np + 1) = flatP KV P np ++ [.bool (P.th np), .int .i64 (P.rm np), KV np] := by
 unfold flatP
 rw [List.range_succ, List.flatMap_append]
 simp
theorem flatP_get (KV : Nat → Value) (P : Ps) : ∀ (np k : Nat), k < np → (flatP KV P np)[k * 3]? = some (.bool (P.th k)) ∧ (flatP KV P np)[k * 3 + 1]? = some (.int .i64 (P.rm k)) ∧ (flatP KV P np)[k * 3 + 2]? = some (KV k) := by
 intro np
 induction np with
 | zero => intro k hk; omega
 | succ np ih =>
  intro k hk
  rw [flatP_succ]
  by_cases e : k = np
  ·subst e
   have hl := flatP_len KV P k
   refine ⟨?_, ?_, ?_⟩
   ·rw [List.getElem?_append_right (by omega), hl, Nat.sub_self]; rfl
   ·rw [List.getElem?_append_right (by omega), hl, show k * 3 + 1 - k * 3 = 1 by omega]; rfl
   ·rw [List.getElem?_append_right (by omega), hl, show k * 3 + 2 - k * 3 = 2 by omega]; rfl
  ·have hl := flatP_len KV P np
   obtain ⟨h1, h2, h3⟩ := ih k (by omega)
   refine ⟨?_, ?_, ?_⟩
   ·rw [List.getElem?_append_left (by omega)]; exact h1
   ·rw [List.getElem?_append_left (by omega)]; exact h2
   ·rw [List.getElem?_append_left (by omega)]; exact h3
theorem flatP_one {KV : Nat → Value} {P : Ps} {np : Nat} (h : ∀ k, k < np → (KV k).oneCell' = true) : ∀ u ∈ flatP KV P np, u.oneCell' = true := by
 intro u hu
 unfold flatP at hu
 obtain ⟨i, hi, hu⟩ := List.mem_flatMap.1 hu
 simp only [List.mem_cons, List.not_mem_nil, or_false] at hu
 rcases hu with rfl | rfl | rfl
 ·rfl
 ·rfl
 ·exact h i (List.mem_range.1 hi)
structure RowP (wr : World) (g np : Nat) (KV : Nat → Value) (P : Ps) : Prop where
 cell : ∀ k, k < np → wr.cell? ⟨g, k * 3, none⟩ = some (.bool (P.th k)) ∧ wr.cell? ⟨g, k * 3 + 1, none⟩ = some (.int .i64 (P.rm k)) ∧ wr.cell? ⟨g, k * 3 + 2, none⟩ = some (KV k)
 free : ∀ i, i < np * 3 → wr.frozen? ⟨g, i, none⟩ = false
 lt : g < wr.heap.size
theorem RowP.up {wr w' : World} {g np : Nat} {KV : Nat → Value} {P : Ps} (h : RowP wr g np KV P) (hb : Below wr.heap.size wr w') : RowP w' g np KV P :=
 ⟨fun k hk => by
  obtain ⟨h1, h2, h3⟩ := h.cell k hk
  exact ⟨by rw [hb.cell h.lt]; exact h1, by rw [hb.cell h.lt]; exact h2, by rw [hb.cell h.lt]; exact h3⟩,
  fun i hi => by rw [← h.free i hi]; exact World.frozen?_of_block (hb.block g h.lt), Nat.lt_of_lt_of_le h.lt hb.size⟩
theorem RowP.kel {wr : World} {g np cap : Nat} {KV : Nat → Value} {P : Ps} {UV : Nat → Nat → Value} (h : RowP wr g np KV P) (hc : np ≤ cap) (hr : np * 40 ≤ 140737488351232) (hk : ∀ k, k < np → KeSl wr wr.heap.size (KV k) (P.m k) (UV k) (P.t k)) : PsSl wr wr.heap.size (.slice (some ⟨g, 0, none⟩) np cap) np KV UV P := by
 refine ⟨_, cap, rfl, ⟨hc, hr⟩, Or.inr ⟨g, 0, rfl, h.lt, fun k hk' => ?_⟩⟩
 obtain ⟨h1, h2, h3⟩ := h.cell k hk'
 rw [Nat.zero_add]
 exact ⟨h1, h2, h3, hk k hk'⟩
theorem RowP.put {wr : World} {g np q : Nat} {KV : Nat → Value} {P P' : Ps} (h : RowP wr g np KV P) (hq : q < np) (u : Value) (e1 : ∀ k, k < np → P'.th k = P.th k) (e2 : ∀ k, k < np → P'.rm k = P.rm k) : RowP (wr.setCell ⟨g, q * 3 + 2, none⟩ u) g np (fun k => if k = q then u else KV k) P' :=
 ⟨fun k hk => by
  obtain ⟨h1, h2, h3⟩ := h.cell k hk
  rw [e1 k hk, e2 k hk]
  refine ⟨by rw [cell_set_lit (Or.inr (by omega))]; exact h1, by rw [cell_set_lit (Or.inr (by omega))]; exact h2, ?_⟩
  show _ = some (if k = q then u else KV k)
  by_cases e : k = q
  ·subst e; rw [if_pos rfl]; exact cell_set_same h3 u
  ·rw [if_neg e, cell_set_lit (Or.inr (by omega))]; exact h3,
  fun i hi => by rw [frozen_set]; exact h.free i hi, by simpa [World.setCell] using h.lt⟩
theorem rowP_of {wr : World} {base : Nat} {v : Value} {np : Nat} {KV : Nat → Value} {P : Ps} (h : wr.ownsRow base 47 3 v np (flatP KV P np)) (hn : 1 ≤ np) : ∃ g cap, v = .slice (some ⟨g, 0, none⟩) np cap ∧ base ≤ g ∧ np ≤ cap ∧ RowP wr g np KV P := by
 obtain ⟨hl, h2⟩ := h
 rcases h2 with ⟨rfl, h0⟩ | ⟨g, cap, cur, rfl, hg, hh, hc1, hc2, hsz, hcur⟩
 ·omega
 ·have key : ∀ i u, i < np * 3 → (flatP KV P np)[i]? = some u → wr.cell? ⟨g, i, none⟩ = some u := fun i u hi h3 => by
   rw [← hcur, List.getElem?_take, if_pos hi] at h3
   exact cell_at hh (by simpa using h3)
  refine ⟨g, cap, rfl, hg, hc1, fun k hk => ?_, fun i hi => frozen_at hh, (Array.getElem?_eq_some_iff.1 hh).1⟩
  obtain ⟨q1, q2, q3⟩ := flatP_get KV P np k hk
  exact ⟨key _ _ (by omega) q1, key _ _ (by omega) q2, key _ _ (by omega) q3⟩
theorem rowP_any {wr : World} {base g0 : Nat} {v : Value} {np : Nat} {KV : Nat → Value} {P : Ps} (h : wr.ownsRow base 47 3 v np (flatP KV P np)) (hg0 : g0 < wr.heap.size) : ∃ av g cap, v = .slice av np cap ∧ (1 ≤ np → av = some ⟨g, 0, none⟩ ∧ base ≤ g) ∧ np ≤ cap ∧ RowP wr g np KV P := by
 by_cases hn : 1 ≤ np
 ·obtain ⟨g, cap, e, h1, h2, h3⟩ := rowP_of h hn
  exact ⟨_, g, cap, e, fun _ => ⟨rfl, h1⟩, h2, h3⟩
 ·have h0 : np = 0 := by omega
  subst h0
  rcases h.2 with ⟨rfl, _⟩ | ⟨g, cap, cur, rfl, _, _, hc1, _⟩
  ·exact ⟨none, g0, 0, rfl, fun h => absurd h hn, Nat.le_refl _, fun k hk => (by omega), fun i hi => (by omega), hg0⟩
  ·exact ⟨_, g0, cap, rfl, fun h => absurd h hn, hc1, fun k hk => (by omega), fun i hi => (by omega), hg0⟩
theorem RowP.sl {wr : World} {av : Option Addr} {g np cap : Nat} {KV : Nat → Value} {P : Ps} {UV : Nat → Nat → Value} (h : RowP wr g np KV P) (ha : 1 ≤ np → av = some ⟨g, 0, none⟩) (hc : np ≤ cap) (hr : np * 40 ≤ 140737488351232) (hk : ∀ k, k < np → KeSl wr wr.heap.size (KV k) (P.m k) (UV k) (P.t k)) : PsSl wr wr.heap.size (.slice av np cap) np KV UV P := by
 by_cases hn : 1 ≤ np
 ·rw [ha hn]; exact h.kel hc hr hk
 ·exact ⟨av, cap, rfl, ⟨hc, hr⟩, Or.inl (by omega)⟩
theorem Tryz.infoPeer : (Tryz.prog.info? 47).map (fun i => (i.zero, i.size, i.bytes)) = some (some (.agg #[.bool false, .int .i64 0, .slice none 0 0]), 3, 40) := by kernel_rfl
theorem cloneP {w : World} {v : Value} {m : Nat} {KV : Nat → Value} {UV : Nat → Nat → Value} {P : Ps} (h : PsSl w w.heap.size v m KV UV P) (hn : m ≤ 1000) :
  Calls Tryz.prog 29 #[v] w fun e w' => ∃ v', e = .returned v' ∧ w'.ownsRow w.heap.size 47 3 v' m (flatP KV P m) ∧ Below w.heap.size w w' := by
 obtain ⟨ad, cap, rfl, ⟨hc, hr⟩, hx⟩ := h
 have q34 : ∀ (w : World) (a : Option Addr) (n c : Nat), (binOp .eql 25 (.slice a n c) (.slice none 0 0)).run Tryz.prog w = .ok (.bool a.isNone) w := fun w a n c => Lib.run_eql_slice_nil w _ _ a n c 0 0 Tryz.underlying25
 cases ad with
 | none =>
  have h0 : m = 0 := by
   rcases hx with h0 | ⟨bl, off, e, _⟩
   ·exact h0
   ·cases e
  subst h0
  clear hx
  go_enter Tryz.func29, Tryz.ntmps29
  go_wp2
  go_ret
  exact ⟨_, rfl, World.ownsRow_nil _ _ _ _, Below.refl _ _⟩
 | some a =>
  have hnews : ∀ j u, (flatP KV P m)[j]? = some u → w.cell? (Addr.add a j) = some u := by
   intro j u hu
   have hj : j < m * 3 := by
    have := (List.getElem?_eq_some_iff.1 hu).1
    rw [flatP_len] at this
    exact this
   rcases hx with h0 | ⟨bl, off, e, hbl, hx⟩
   ·omega
   injection e with e
   subst e
   obtain ⟨g1, g2, g3, _⟩ := hx (j / 3) (by omega)
   obtain ⟨q1, q2, q3⟩ := flatP_get KV P m (j / 3) (by omega)
   rw [Addr.add_lit]
   rcases (show j = j / 3 * 3 ∨ j = j / 3 * 3 + 1 ∨ j = j / 3 * 3 + 2 by omega) with e | e | e
   ·rw [e] at hu ⊢
    rw [q1] at hu
    rw [g1, ← hu]
   ·rw [e] at hu ⊢
    rw [q2] at hu
    rw [← Nat.add_assoc, g2, ← hu]
   ·rw [e] at hu ⊢
    rw [q3] at hu
    rw [← Nat.add_assoc, g3, ← hu]
  have h1 : ∀ u ∈ flatP KV P m, u.oneCell' = true := flatP_one fun i hi => by
   rcases hx with h0 | ⟨bl, off, e, hbl, hx⟩
   ·omega
   ·obtain ⟨ap, cp, e2, _⟩ := (hx i hi).2.2.2
    rw [e2]; rfl
  have HNw := hid hnews
  have H1 := hid h1
  obtain ⟨ii, hi, hz0, hz1, hz2⟩ := info_parts Tryz.infoPeer
  have HLn : Hid ((flatP KV P m).length = m * 3) := flatP_len KV P m
  obtain ⟨F, hF⟩ : ∃ F, flatP KV P m = F := ⟨_, rfl⟩
  rw [hF] at HNw H1 HLn
  have HF := hid hF
  clear hx hnews h1 hF
  go_enter Tryz.func29, Tryz.ntmps29
  go_wp2_with (at_builtin; go_must (refine wpList_append_own _ rfl _ _ 25 rfl w.heap.size 47 ii (.agg #[.bool false, .int .i64 0, .slice none 0 0]) 3 40 Tryz.underlying25 hi hz0 hz1 hz2 rfl (by decide) _ _ _ rfl (World.ownsRow_made w #[] 0 (Nat.le_refl _) (Nat.zero_le _) (by simp)) a m cap F rfl HLn.out (fun j u hu => Lib.cell?_alloc_some _ (HNw.out j u hu)) H1.out (by unfold maxLen; omega) (by omega) (by simp) ?_; intro v1 w2 ho hg _; have HO := hid ho; have HG := hid hg; clear ho hg))
  go_ret
  refine ⟨_, rfl, ?_, ?_⟩
  ·have h := HO.out
   rw [Nat.zero_add, List.nil_append, ← HF.out] at h
   exact h
  ·exact ((Below.refl _ _).alloc (Nat.le_refl _) _).grown HG.out (by simp) (fun k hk => by cases hk; exact Nat.le_refl _)
end Go.Proofs.YtikchpffkhohlaaGreat

namespace Go.Proofs.YtikchpffkhohlaaGreat
open Go.RowKit CurveMath
set_option linter.unusedVariables false
theorem kel_low {w : World} {B g o : Nat} {v : Value} {m : Nat} {UV : Nat → Value} {t : Kt} {a : Option Addr} {n c : Nat} (h : KeSl w B v m UV t) (ho : o < 2) (hc : w.cell? ⟨g, o, none⟩ = some (.slice a n c)) (u : Value) : KeSl (w.setCell ⟨g, o, none⟩ u) B v m UV t := by
 obtain ⟨ad, cap, rfl, h0, h2⟩ := h
 refine ⟨ad, cap, rfl, h0, ?_⟩
 rcases h2 with h2 | ⟨b, off, rfl, h4, h5⟩
 ·exact Or.inl h2
 ·refine Or.inr ⟨b, off, rfl, h4, fun j hj => ?_⟩
  obtain ⟨x0, x1, x2, x3⟩ := h5 j hj
  refine ⟨?_, ?_, ?_, isl_slice x3 hc u⟩
  ·rw [cell_set_lit]
   ·exact x0
   ·by_cases e1 : b = g
    ·right; intro e2; rw [e1, e2, hc] at x0; injection x0 with x0; cases x0
    ·exact Or.inl e1
  ·rw [cell_set_lit]
   ·exact x1
   ·by_cases e1 : b = g
    ·right; intro e2; rw [e1, e2, hc] at x1; injection x1 with x1; cases x1
    ·exact Or.inl e1
  ·rw [cell_set_lit (Or.inr (by omega))]
   exact x2
def put2 (w : World) (g : Nat) (u0 u1 : Value) : World := (w.setCell ⟨g, 0, none⟩ u0).setCell ⟨g, 1, none⟩ u1
theorem put2_whole {w : World} {g : Nat} {T : TypeId} {v0 v1 : Value} (h : w.heap[g]? = some (.cells #[v0, v1] T (0, 0))) (u0 u1 : Value) : (put2 w g u0 u1).heap[g]? = some (.cells #[u0, u1] T (0, 0)) := by
 simp [put2, World.setCell, Array.getElem?_modify, h]
theorem put2_below {B : Nat} {w w5 : World} {g : Nat} {u0 u1 : Value} (hb : Below B w w5) (hg : B ≤ g) : Below B w (put2 w5 g u0 u1) :=
 (hb.setCell (p := ⟨g, 0, none⟩) hg _).setCell (p := ⟨g, 1, none⟩) hg _
theorem put2_size {w : World} {g : Nat} {u0 u1 : Value} : (put2 w g u0 u1).heap.size = w.heap.size := by simp [put2, World.setCell]
theorem kel_put2 {w : World} {g : Nat} {T : TypeId} {v : Value} {m : Nat} {UV : Nat → Value} {t : Kt} {a0 a1 : Option Addr} {n0 c0 n1 c1 : Nat} (hg : w.heap[g]? = some (.cells #[.slice a0 n0 c0, .slice a1 n1 c1] T (0, 0))) (h : KeSl w w.heap.size v m UV t) (u0 u1 : Value) : KeSl (put2 w g u0 u1) (put2 w g u0 u1).heap.size v m UV t := by
 rw [put2_size]
 obtain ⟨q0, q1⟩ := two_at hg
 unfold put2
 exact kel_low (kel_low h (by omega) q0 u0) (by omega) (by rw [cell_set_lit (Or.inr (by omega))]; exact q1) u1
theorem drew_grown (w : World) (row : Option Nat) : w.grownBy w.drew row := ⟨rfl, rfl, rfl, Nat.le_refl _, fun _ _ _ => rfl⟩
theorem isl_bool {w : World} {B g o : Nat} {v : Value} {m : Nat} {X : Nat → Int} {x : Bool} (h : IntSl w B v m X) (hc : w.cell? ⟨g, o, none⟩ = some (.bool x)) (u : Value) : IntSl (w.setCell ⟨g, o, none⟩ u) B v m X := by
 obtain ⟨ad, cap, rfl, h0, h2⟩ := h
 refine ⟨ad, cap, rfl, h0, ?_⟩
 rcases h2 with h2 | ⟨b, off, rfl, h4, h5⟩
 ·exact Or.inl h2
 ·refine Or.inr ⟨b, off, rfl, h4, fun j hj => ?_⟩
  have h6 := h5 j hj
  rw [cell_set_lit]
  ·exact h6
  ·by_cases e1 : b = g
   ·right
    intro e2
    rw [e1, e2, hc] at h6
    injection h6 with h6
    cases h6
   ·exact Or.inl e1
theorem kel_bool {w : World} {B g o : Nat} {v : Value} {m : Nat} {UV : Nat → Value} {t : Kt} {x : Bool} (h : KeSl w B v m UV t) (hc : w.cell? ⟨g, o, none⟩ = some (.bool x)) (u : Value) : KeSl (w.setCell ⟨g, o, none⟩ u) B v m UV t := by
 obtain ⟨ad, cap, rfl, h0, h2⟩ := h
 refine ⟨ad, cap, rfl, h0, ?_⟩
 rcases h2 with h2 | ⟨b, off, rfl, h4, h5⟩
 ·exact Or.inl h2
 ·refine Or.inr ⟨b, off, rfl, h4, fun j hj => ?_⟩
  obtain ⟨x0, x1, x2, x3⟩ := h5 j hj
  have key : ∀ i z, w.cell? ⟨b, i, none⟩ = some z → z ≠ .bool x → (w.setCell ⟨g, o, none⟩ u).cell? ⟨b, i, none⟩ = some z := fun i z hz hne => by
   rw [cell_set_lit]
   ·exact hz
   ·by_cases e1 : b = g
    ·right; intro e2; rw [e1, e2, hc] at hz; injection hz with hz; exact hne hz.symm
    ·exact Or.inl e1
  refine ⟨key _ _ x0 (fun e => by cases e), key _ _ x1 (fun e => by cases e), key _ _ x2 (fun e => ?_), isl_bool x3 hc u⟩
  obtain ⟨a, c, e2, _⟩ := x3
  rw [e2] at e
  cases e
theorem ve_two {w : World} {B g o : Nat} {T : TypeId} {v : Value} {n : Nat} {PV : Nat → Value} {b : Bk} {a0 a1 : Option Addr} {n0 c0 n1 c1 : Nat} (hg : w.heap[g]? = some (.cells #[.slice a0 n0 c0, .slice a1 n1 c1] T (0, 0))) (h : VeSl w B v n PV b) (ho : o < 2) (u : Value) : VeSl (w.setCell ⟨g, o, none⟩ u) B v n PV b := by
 obtain ⟨q0, q1⟩ := two_at hg
 have q2 : w.cell? ⟨g, 2, none⟩ = none := by unfold World.cell?; simp [hg]
 have hc : ∃ a n c, w.cell? ⟨g, o, none⟩ = some (.slice a n c) := by
  rcases (show o = 0 ∨ o = 1 by omega) with rfl | rfl
  ·exact ⟨_, _, _, q0⟩
  ·exact ⟨_, _, _, q1⟩
 obtain ⟨a, m, c, hc⟩ := hc
 obtain ⟨ad, cap, rfl, h0, h2⟩ := h
 refine ⟨ad, cap, rfl, h0, ?_⟩
 rcases h2 with h2 | ⟨bl, off, rfl, h4, h5⟩
 ·exact Or.inl h2
 ·refine Or.inr ⟨bl, off, rfl, h4, fun j hj => ?_⟩
  obtain ⟨x0, x1, x2, x3, x4⟩ := h5 j hj
  have key : ∀ i z, w.cell? ⟨bl, i, none⟩ = some (.int .i64 z) → (w.setCell ⟨g, o, none⟩ u).cell? ⟨bl, i, none⟩ = some (.int .i64 z) := fun i z hz => by
   rw [cell_set_lit]
   ·exact hz
   ·by_cases e1 : bl = g
    ·right; intro e2; rw [e1, e2, hc] at hz; injection hz with hz; cases hz
    ·exact Or.inl e1
  refine ⟨?_, key _ _ x1, key _ _ x2, key _ _ x3, isl_slice x4 hc u⟩
  rw [cell_set_lit]
  ·exact x0
  ·by_cases e1 : bl = g
   ·right
    intro e2
    rw [e1] at x1
    rcases (show o = 0 ∨ o = 1 by omega) with e3 | e3
    ·rw [e2, e3, Nat.zero_add, q1] at x1; injection x1 with x1; cases x1
    ·rw [e2, e3, q2] at x1; cases x1
   ·exact Or.inl e1
theorem ve_put2 {w : World} {g : Nat} {T : TypeId} {v : Value} {n : Nat} {PV : Nat → Value} {b : Bk} {a0 a1 a2 : Option Addr} {n0 c0 n1 c1 n2 c2 : Nat} (hg : w.heap[g]? = some (.cells #[.slice a0 n0 c0, .slice a1 n1 c1] T (0, 0))) (h : VeSl w w.heap.size v n PV b) (u1 : Value) : VeSl (put2 w g (.slice a2 n2 c2) u1) (put2 w g (.slice a2 n2 c2) u1).heap.size v n PV b := by
 rw [put2_size]
 unfold put2
 exact ve_two (a0 := a2) (n0 := n2) (c0 := c2) (a1 := a1) (n1 := n1) (c1 := c1) (T := T) (by simp [World.setCell, Array.getElem?_modify, hg]) (ve_two hg h (by omega) _) (by omega) _
theorem ps_put2 {w : World} {g : Nat} {T : TypeId} {v : Value} {np : Nat} {KV : Nat → Value} {UV : Nat → Nat → Value} {P : Ps} {a0 a1 : Option Addr} {n0 c0 n1 c1 : Nat} (hg : w.heap[g]? = some (.cells #[.slice a0 n0 c0, .slice a1 n1 c1] T (0, 0))) (h : PsSl w w.heap.size v np KV UV P) (u0 u1 : Value) : PsSl (put2 w g u0 u1) (put2 w g u0 u1).heap.size v np KV UV P := by
 obtain ⟨q0, q1⟩ := two_at hg
 obtain ⟨ad, cap, rfl, h0, h2⟩ := h
 refine ⟨ad, cap, rfl, h0, ?_⟩
 rcases h2 with h2 | ⟨bl, off, rfl, h4, h5⟩
 ·exact Or.inl h2
 ·refine Or.inr ⟨bl, off, rfl, by rw [put2_size]; exact h4, fun j hj => ?_⟩
  obtain ⟨x0, x1, x2, x3⟩ := h5 j hj
  have key : ∀ i z, w.cell? ⟨bl, i, none⟩ = some z → (∀ a n c, z ≠ .slice a n c) ∨ 2 ≤ i → (put2 w g u0 u1).cell? ⟨bl, i, none⟩ = some z := fun i z hz hne => by
   unfold put2
   have hd : ∀ o, o < 2 → bl ≠ g ∨ i ≠ o := fun o ho => by
    by_cases e1 : bl = g
    ·right
     intro e2
     rcases hne with hne | hne
     ·rcases (show o = 0 ∨ o = 1 by omega) with e3 | e3
      ·rw [e1, e2, e3, q0] at hz; injection hz with hz; exact hne _ _ _ hz.symm
      ·rw [e1, e2, e3, q1] at hz; injection hz with hz; exact hne _ _ _ hz.symm
     ·omega
    ·exact Or.inl e1
   rw [cell_set_lit (hd 1 (by omega)), cell_set_lit (hd 0 (by omega))]
   exact hz
  exact ⟨key _ _ x0 (Or.inl fun a n c e => by cases e), key _ _ x1 (Or.inl fun a n c e => by cases e), key _ _ x2 (Or.inr (by omega)), kel_put2 hg x3 _ _⟩
theorem mesh_out {w w1 w' : World} {er : Int} {n : Nat} {b : Bk} {np : Nat} {P : Ps} {vb vl : Value} (hb : Below w.heap.size w w1) (h : MeshPost w1 er n b np P (.returned (.tuple #[.agg #[vb, vl], .int .i64 er])) w') {g : Nat} {T : TypeId} {a0 a1 : Option Addr} {n0 c0 n1 c1 : Nat} (hg : w'.heap[g]? = some (.cells #[.slice a0 n0 c0, .slice a1 n1 c1] T (0, 0))) (hwg : w.heap.size ≤ g) :
  MeshPost w er n b np P (.returned (.tuple #[.agg #[vb, vl], .int .i64 er])) (put2 w' g vb vl) := by
 obtain ⟨h1, vb', vl', n', np', PV, KV, UV, e, h2, h3, h4, h5⟩ := h
 injection e with e
 injection e with e
 have e1 : #[Value.agg #[vb, vl], .int .i64 er] = #[meshV vb' vl', .int .i64 er] := e
 unfold meshV at e1
 simp at e1
 obtain ⟨rfl, rfl⟩ := e1
 refine ⟨put2_below (hb.trans (h1.mono hb.size)) hwg, vb, vl, n', np', PV, KV, UV, rfl, h2, h3, ?_, ps_put2 hg h5 _ _⟩
 have h4' := h4
 obtain ⟨a, c, rfl, _⟩ := h4'
 exact ve_put2 hg h4 _
theorem sh_low {w : World} {B g : Nat} {v : Value} {n : Nat} {N : Nat → Int} {V : Nat → Value} {L : Nat → Nat} {X : Nat → Nat → Int} {a : Option Addr} {m c : Nat} (h : ShSl w B v n N V L X) (hc : w.cell? ⟨g, 0, none⟩ = some (.slice a m c)) (u : Value) : ShSl (w.setCell ⟨g, 0, none⟩ u) B v n N V L X := by
 obtain ⟨ad, cap, rfl, h0, h2⟩ := h
 refine ⟨ad, cap, rfl, h0, ?_⟩
 rcases h2 with h2 | ⟨b, off, rfl, h4, h5⟩
 ·exact Or.inl h2
 ·refine Or.inr ⟨b, off, rfl, h4, fun j hj => ?_⟩
  obtain ⟨x0, x1, x2⟩ := h5 j hj
  refine ⟨?_, ?_, isl_slice x2 hc u⟩
  ·rw [cell_set_lit]
   ·exact x0
   ·by_cases e1 : b = g
    ·right; intro e2; rw [e1, e2, hc] at x0; injection x0 with x0; cases x0
    ·exact Or.inl e1
  ·rw [cell_set_lit (Or.inr (by omega))]
   exact x1
end Go.Proofs.YtikchpffkhohlaaGreat

namespace Go.Proofs.YtikchpffkhohlaaGreat
open Go.RowKit CurveMath
set_option linter.unusedVariables false
structure GvInv (w wr : World) (vb : Value) (av : Option Addr) (g np cap : Nat) (KV : Nat → Value) (UV : Nat → Nat → Value) (P : Ps) : Prop where
 below : Below w.heap.size w wr
 box : wr.heap[w.heap.size]? = some (.cells #[vb, .slice av np cap] 27 (0, 0))
 out : wr.heap[w.heap.size + 1]? = some (.cells #[.slice none 0 0, .slice none 0 0] 27 (0, 0))
 row : RowP wr g np KV P
 kept : ∀ k, k < np → KeSl wr wr.heap.size (KV k) (P.m k) (UV k) (P.t k)
theorem GvInv.up {w wr w' : World} {vb : Value} {av : Option Addr} {g np cap : Nat} {KV : Nat → Value} {UV : Nat → Nat → Value} {P : Ps} (h : GvInv w wr vb av g np cap KV UV P) (hb : Below wr.heap.size wr w') : GvInv w w' vb av g np cap KV UV P :=
 ⟨h.below.trans (hb.mono h.below.size), stayB h.box hb, stayB h.out hb, h.row.up hb, fun k hk => (h.kept k hk).up hb⟩
theorem GvInv.put {w wr : World} {vb : Value} {av : Option Addr} {g np cap q : Nat} {KV : Nat → Value} {UV : Nat → Nat → Value} {P P' : Ps} (h : GvInv w wr vb av g np cap KV UV P) (hg : w.heap.size + 1 < g) (hq : q < np) {r : Value} {UR : Nat → Value} (hs : ∃ a n c, KV q = .slice a n c) (e1 : P'.th = P.th) (e2 : P'.rm = P.rm) (e3 : ∀ k, k < np → k ≠ q → P'.m k = P.m k ∧ P'.t k = P.t k)
  (hr : KeSl wr wr.heap.size r (P'.m q) UR (P'.t q)) : GvInv w (wr.setCell ⟨g, q * 3 + 2, none⟩ r) vb av g np cap (fun k => if k = q then r else KV k) (fun k => if k = q then UR else UV k) P' := by
 obtain ⟨c1, c2, c3⟩ := h.row.cell q hq
 obtain ⟨a, n, c, hsl⟩ := hs
 rw [hsl] at c3
 have hz : (wr.setCell ⟨g, q * 3 + 2, none⟩ r).heap.size = wr.heap.size := by simp [World.setCell]
 refine ⟨h.below.setCell (p := ⟨g, q * 3 + 2, none⟩) (by show w.heap.size ≤ g; omega) r, ?_, ?_, h.row.put hq r (fun k _ => by rw [e1]) (fun k _ => by rw [e2]), fun k hk => ?_⟩
 ·rw [Below.heap_setCell _ _ _ _ (by show w.heap.size ≠ g; omega)]; exact h.box
 ·rw [Below.heap_setCell _ _ _ _ (by show w.heap.size + 1 ≠ g; omega)]; exact h.out
 ·rw [hz]
  by_cases e : k = q
  ·subst e
   simp only [if_true]
   exact kel_slice hr c3 c1 r
  ·simp only [if_neg e]
   rw [(e3 k hk e).1, (e3 k hk e).2]
   exact kel_slice (h.kept k hk) c3 c1 r
theorem GvInv.slices {w wr : World} {vb : Value} {av : Option Addr} {g np cap : Nat} {KV : Nat → Value} {UV : Nat → Nat → Value} {P : Ps} (h : GvInv w wr vb av g np cap KV UV P) {q : Nat} (hq : q < np) : ∃ a c, KV q = .slice a (P.m q) c := by
 obtain ⟨a, c, e, _⟩ := h.kept q hq
 exact ⟨a, c, e⟩
theorem GvInv.fin {w wr : World} {vb : Value} {av : Option Addr} {g np cap : Nat} {KV : Nat → Value} {UV : Nat → Nat → Value} {P : Ps} (h : GvInv w wr vb av g np cap KV UV P) {n : Nat} {PV : Nat → Value} {b : Bk} (hv : VeSl w w.heap.size vb n PV b) (ha : 1 ≤ np → av = some ⟨g, 0, none⟩) (hg : 1 ≤ np → w.heap.size + 1 < g) (hc : np ≤ cap) (hn : np ≤ 8) :
  MeshPost w 0 n b np P (.returned (.tuple #[.agg #[vb, .slice av np cap], .int .i64 0])) (put2 wr (w.heap.size + 1) vb (.slice av np cap)) := by
 have hB : Below w.heap.size w (put2 wr (w.heap.size + 1) vb (.slice av np cap)) := put2_below h.below (by omega)
 refine ⟨hB, vb, .slice av np cap, n, np, PV, KV, UV, rfl, rfl, rfl, hv.up hB, ?_⟩
 by_cases h1 : 1 ≤ np
 ·have hr : RowP (put2 wr (w.heap.size + 1) vb (.slice av np cap)) g np KV P := by
   have hg1 := hg h1
   refine ⟨fun k hk => ?_, fun i hi => by unfold put2; rw [frozen_set, frozen_set]; exact h.row.free i hi, by rw [put2_size]; exact h.row.lt⟩
   obtain ⟨q1, q2, q3⟩ := h.row.cell k hk
   unfold put2
   exact ⟨by rw [cell_set_lit (Or.inl (by omega)), cell_set_lit (Or.inl (by omega))]; exact q1, by rw [cell_set_lit (Or.inl (by omega)), cell_set_lit (Or.inl (by omega))]; exact q2, by rw [cell_set_lit (Or.inl (by omega)), cell_set_lit (Or.inl (by omega))]; exact q3⟩
  exact hr.sl ha hc (by omega) fun k hk => kel_put2 h.out (h.kept k hk) _ _
 ·exact ⟨av, cap, rfl, ⟨hc, by omega⟩, Or.inl (by omega)⟩
set_option maxHeartbeats 8000000 in
set_option maxRecDepth 10000 in
theorem given_any (vb : Value) (n : Nat) (PV : Nat → Value) (b : Bk) (vl : Value) (np : Nat) (KV : Nat → Value) (UV : Nat → Nat → Value) (P : Ps) (ver : Int) (vs : Value) (cnt : Nat) (SN : Nat → Int) (SV : Nat → Value) (SL : Nat → Nat) (SX : Nat → Nat → Int) (w : World)
  (hv : VeSl w w.heap.size vb n PV b) (hl : PsSl w w.heap.size vl np KV UV P) (hs : ShSl w w.heap.size vs cnt SN SV SL SX) (hR : MeshR n b np P) (hver : 0 ≤ ver ∧ ver < (n : Int)) (hS : ∀ j, j < cnt → oneE (b.nd ver.toNat) (b.of ver.toNat) (b.sz ver.toNat) (SN j) (SL j) (SX j) = 0) :
  Calls Tryz.prog 50 #[meshV vb vl, .int .i64 ver, vs] w (MeshPost w (manyE P ver np (cnt : Int)) n b np (giveP P ver (forA P ver np cnt) SN SL SX cnt)) := by
 have hb0 := ((Below.refl w.heap.size w).alloc (Nat.le_refl _) (.cells #[vb, vl] 27)).alloc (by simp) (.cells #[.slice none 0 0, .slice none 0 0] 27)
 have k1 := heap_two_old w (.cells #[vb, vl] 27) (.cells #[.slice none 0 0, .slice none 0 0] 27)
 have k2 := heap_two_new w (.cells #[vb, vl] 27) (.cells #[.slice none 0 0, .slice none 0 0] 27)
 obtain ⟨W0, hW0⟩ : ∃ W, (w.alloc (.cells #[vb, vl] 27)).alloc (.cells #[.slice none 0 0, .slice none 0 0] 27) = W := ⟨_, rfl⟩
 rw [hW0] at hb0 k1 k2
 have HV := hid hv
 have HL := hid hl
 have HSh := hid hs
 have HR := hid hR
 have HS := hid hS
 obtain ⟨ad, cap0, rfl, _, _⟩ := hv
 obtain ⟨al, cl, rfl, _, _⟩ := hl
 obtain ⟨ash, csh, rfl, _, hxs⟩ := hs
 have CP := hid (placesFor_any _ np KV UV P ver (cnt : Int) W0 hR.few (fun k hk => ⟨(hR.peer k hk).room_, (hR.peer k hk).few⟩) (HL.out.up hb0))
 obtain ⟨c, hc⟩ : ∃ c, manyE P ver np (cnt : Int) = c := ⟨_, rfl⟩
 rw [hc] at CP ⊢
 have HC := hid hc
 obtain ⟨m0, m1⟩ := two_at k1
 have B0 := hid hb0
 have K1 := hid k1
 have K2 := hid k2
 have HXs := hid hxs
 have hnp8 := hR.few
 clear hb0 k1 k2 hc hxs hR hS
 unfold meshV
 go_enter Tryz.func50, Tryz.ntmps50
 go_wp2_with fail
 refine Calls.mono CP.out ?_
 rintro e W ⟨hbW, va, rfl, hva⟩
 have B1 := hid (B0.out.trans (hbW.mono B0.out.size))
 have d1 := stayB K1.out hbW
 have d2 := stayB K2.out hbW
 have D1 := hid d1
 have D2 := hid d2
 have HVa := hid hva
 obtain ⟨aa, ca, rfl, ⟨_, hbiga⟩, _⟩ := hva
 clear hbW m0 m1 CP
 by_cases h0 : c = 0
 ·subst h0
  obtain ⟨hfe, _, hfl⟩ := forL_len HC.out
  have hlen : (forL P ver np (cnt : Int)).length = cnt := by rw [hfe]; omega
  have HLen := hid hlen
  rw [hlen] at HVa hbiga ⊢
  obtain ⟨m0, m1⟩ := two_at d1
  have fm := frozen_at (i := 1) d1
  have CC := hid (cloneP (HL.out.up B1.out) (by omega))
  clear d1 d2 hfe hfl hlen
  go_wp2_with fail
  refine Calls.mono CC.out ?_
  rintro e W2 ⟨v2, rfl, hown, hb2⟩
  have B2 := hid (B1.out.trans (hb2.mono B1.out.size))
  have e1 := stayB D1.out hb2
  have e2 := stayB D2.out hb2
  obtain ⟨av, g, cap, rfl, hav, hcap, hrow⟩ := rowP_any hown (Array.getElem?_eq_some_iff.1 e1).1
  obtain ⟨m0, m1⟩ := two_at e1
  have fm := frozen_at (i := 1) e1
  obtain ⟨Y, hY⟩ : ∃ Y, W2.setCell ⟨w.heap.size, 1, none⟩ (.slice av np cap) = Y := ⟨_, rfl⟩
  have hs1 : w.heap.size + 1 < W.heap.size := (Array.getElem?_eq_some_iff.1 D2.out).1
  have hgw : 1 ≤ np → w.heap.size + 1 < g := fun h => by have := (hav h).2; omega
  have GI : Hid (GvInv w Y (.slice ad n cap0) av g np cap KV UV P) := by
   show GvInv _ _ _ _ _ _ _ _ _ _
   rw [← hY]
   have hz : (W2.setCell ⟨w.heap.size, 1, none⟩ (.slice av np cap)).heap.size = W2.heap.size := by simp [World.setCell]
   have hbY : Below w.heap.size w (W2.setCell ⟨w.heap.size, 1, none⟩ (.slice av np cap)) := B2.out.setCell (p := ⟨w.heap.size, 1, none⟩) (Nat.le_refl _) _
   refine ⟨hbY, ?_, ?_, ?_, fun k hk => ?_⟩
   ·simp [World.setCell, Array.getElem?_modify, e1]
   ·rw [Below.heap_setCell _ _ _ _ (by show w.heap.size + 1 ≠ w.heap.size; omega)]; exact e2
   ·by_cases hn : 1 ≤ np
    ·have hg := hgw hn
     refine ⟨fun k hk => ?_, fun i hi => by rw [frozen_set]; exact hrow.free i hi, by rw [hz]; exact hrow.lt⟩
     obtain ⟨q1, q2, q3⟩ := hrow.cell k hk
     exact ⟨by rw [cell_set_lit (Or.inl (by omega))]; exact q1, by rw [cell_set_lit (Or.inl (by omega))]; exact q2, by rw [cell_set_lit (Or.inl (by omega))]; exact q3⟩
    ·exact ⟨fun k hk => (by omega), fun i hi => (by omega), by rw [hz]; exact hrow.lt⟩
   ·obtain ⟨_, _, _, _, _, _, _, hke⟩ := HL.out.at hk
    exact hke.up hbY
  have HAv := hid hav
  have HGw := hid hgw
  have HIa : Hid (IntSl Y Y.heap.size (.slice aa cnt ca) cnt (forA P ver np cnt)) := by
   show IntSl _ _ _ _ _
   have h9 := (HVa.out.up hb2)
   have h8 : IntSl Y Y.heap.size (.slice aa cnt ca) cnt (fun j => (forL P ver np (cnt : Int)).getD j 0) := by
    have hz : Y.heap.size = W2.heap.size := by rw [← hY]; simp [World.setCell]
    rw [hz, ← hY]
    exact isl_slice h9 m1 _
   exact h8
  clear hav hgw hown hb2 e1 e2 hrow D1 D2 CC HVa
  go_wp2
  clear m0 m1 fm hY
  go_loopw [31] (fun iv wr => ∃ (i : Nat) (KVi : Nat → Value) (UVi : Nat → Nat → Value), i ≤ cnt ∧ iv = .int .i64 i ∧ Hid (GvInv w wr (.slice ad n cap0) av g np cap KVi UVi (giveP P ver (forA P ver np cnt) SN SL SX i)) ∧ Hid (IntSl wr wr.heap.size (.slice aa cnt ca) cnt (forA P ver np cnt))) (fun iv _ => cnt - (intOf iv).toNat)
  case atStart => exact ⟨0, KV, UV, Nat.zero_le _, rfl, (by show GvInv _ _ _ _ _ _ _ _ _ _; rw [giveP_zero]; exact GI.out), HIa⟩
  case round =>
   obtain ⟨i, KVi, UVi, hi, rfl, GR, HIr⟩ := hrel
   by_cases hlt : i < cnt
   ·have hii : (i : Int) < (cnt : Int) := by omega
    obtain ⟨q, hAq, hqn, hmay, hleft⟩ := forA_at HC.out hlt
    have hne9 : ∀ j, j < i → forA P ver np cnt j ≠ forA P ver np cnt i := fun j hj => forA_ne HC.out hj hlt
    obtain ⟨hav, _⟩ := HAv.out (by omega)
    subst hav
    have hgw := HGw.out (by omega)
    have hold := giveP_old (P := P) (ver := ver) (A := forA P ver np cnt) (SN := SN) (SL := SL) (SX := SX) (i := i) (k := q) (fun j hj e => hne9 j hj (by rw [e, hAq]))
    obtain ⟨ak, ck, hKq⟩ := GR.out.slices hqn
    rw [hold.1] at hKq
    obtain ⟨r1, r2, r3⟩ := GR.out.row.cell q hqn
    rw [hKq] at r3
    have hkeq := GR.out.kept q hqn
    rw [hold.1, hold.2, hKq] at hkeq
    have HKe := hid hkeq
    have hia := HIr.out
    obtain ⟨aa', ca', hea, _, hxa⟩ := hia
    injection hea with hea1 _ hea3
    subst hea1 hea3
    rcases hxa with h0 | ⟨ba, oa, rfl, hba, hxa⟩
    ·omega
    have a1 := hxa i hlt
    rw [hAq] at a1
    rcases HXs.out with h0 | ⟨bs, os, rfl, hbs, hxs⟩
    ·omega
    obtain ⟨s1, s2, s3⟩ := hxs i hlt
    have HIs : Hid (∀ u, Below w.heap.size w u → IntSl u u.heap.size (SV i) (SL i) (SX i)) := fun u hb => s3.up hb
    obtain ⟨ap, cp, hpe, _, _⟩ := s3
    rw [hpe] at s2 HIs
    have t1 : wr.cell? ⟨bs, os + i * 2, none⟩ = some (.int .i64 (SN i)) := by rw [GR.out.below.cell hbs]; exact s1
    have t2 : wr.cell? ⟨bs, os + i * 2 + 1, none⟩ = some (.slice ap (SL i) cp) := by rw [GR.out.below.cell hbs]; exact s2
    obtain ⟨m0, m1⟩ := two_at GR.out.box
    have hbsz : w.heap.size < wr.heap.size := cell_lt m0
    have hbw : bs < w.heap.size := hbs
    have hne : Nonempty (Of (fun u => wr.grownBy u (some g))) := ⟨⟨wr, rfl, rfl, rfl, Nat.le_refl _, fun _ _ _ => rfl⟩⟩
    have F0 : ∀ u : Of (fun u => wr.grownBy u (some g)), u.val.cell? ⟨w.heap.size, 0, none⟩ = some (.slice ad n cap0) := fun u => u.is.cell m0 (by simp; omega)
    have F1 : ∀ u : Of (fun u => wr.grownBy u (some g)), u.val.cell? ⟨w.heap.size, 1, none⟩ = some (.slice (some ⟨g, 0, none⟩) np cap) := fun u => u.is.cell m1 (by simp; omega)
    have F2 : ∀ u : Of (fun u => wr.grownBy u (some g)), u.val.cell? ⟨bs, os + i * 2, none⟩ = some (.int .i64 (SN i)) := fun u => u.is.cell t1 (by simp; omega)
    have F3 : ∀ u : Of (fun u => wr.grownBy u (some g)), u.val.cell? ⟨bs, os + i * 2 + 1, none⟩ = some (.slice ap (SL i) cp) := fun u => u.is.cell t2 (by simp; omega)
    have hqi : (q : Int) < (np : Int) := by omega
    have HAq := hid hAq
    have HNe := hid hne9
    have HMay := hid hmay
    have HLeft := hid hleft
    have HGw1 := hid hgw
    have HOld := hid hold
    have HKq := hid hKq
    have HRow := hid (And.intro r1 (And.intro r2 r3))
    clear hAq hne9 hmay hleft hold hKq hkeq hxa hxs s1 s2 hpe r1 r2 r3 t1 t2 m0 m1
    go_wp2_with fail
    refine region_mixed (fun u => wr.grownBy u (some g)) [([0, 1, 2, 3, 4, 5, 6, 7, 8, 10, 11, 12, 13, 14, 15], 9), ([], 16), ([17, 18, 19, 20], 21)] [22] (by kernel_rfl) (by kernel_rfl) (drew_grown wr _) ?_
    have hb0 := drew_below wr
    obtain ⟨U0, hU0⟩ : ∃ U, wr.drew = U := ⟨_, rfl⟩
    rw [hU0] at hb0 ⊢
    have HU0 := hid hb0
    have HBU := hid (GR.out.below.trans (hb0.mono GR.out.below.size))
    have y1 : U0.cell? ⟨g, q * 3, none⟩ = some (.bool (P.th q)) := by rw [hb0.cell GR.out.row.lt]; exact HRow.out.1
    have y2 : U0.cell? ⟨g, q * 3 + 1, none⟩ = some (.int .i64 (P.rm q)) := by rw [hb0.cell GR.out.row.lt]; exact HRow.out.2.1
    have y3 : U0.cell? ⟨g, q * 3 + 2, none⟩ = some (.slice ak (P.m q) ck) := by rw [hb0.cell GR.out.row.lt]; exact HRow.out.2.2
    have CS := hid (keeps_any _ n PV b (P.th q) (P.rm q) _ (P.m q) _ (P.t q) ver (SN i) _ (SL i) (SX i) U0 (HV.out.up HBU.out) (HKe.out.up hb0) (HIs.out _ HBU.out))
    unfold bookV peerV keptV at CS
    clear hU0 hb0
    refine mixO_cons (by simp only [pickO, List.getElem?_cons_zero, List.getElem?_cons_succ]; exact rfl) (by simp only [pickO, List.getElem?_cons_zero, List.getElem?_cons_succ]; exact rfl) ?_
    repeat (go_big_quiet_step (fail))
    refine wpQuiet_nil ?_
    intro K hK
    go_wp2
    refine ⟨rfl, hK _ _ (grown_of_below HU0.out _) ?_⟩
    clear hK K
    refine mixO_cons (lq := []) rfl (by simp only [pickO, List.getElem?_cons_zero, List.getElem?_cons_succ]; exact rfl) ?_
    refine wpQuiet_nil ?_
    intro K hK
    go_wp2_with fail
    refine Calls.mono CS.out ?_
    rintro e U1 ⟨hb1, er, th', room', r, m', UR, t', rfl, hkr, hto⟩
    have hlf := HLeft.out
    unfold leftK at hlf
    obtain ⟨rfl, rfl, rfl, rfl, rfl⟩ := keepsTo_ok hto (HR.out.peer q hqn) (by omega) HMay.out.2 hver (HS.out i hlt)
    have HKr := hid hkr
    obtain ⟨ar, cr, rfl, _, _⟩ := hkr
    have hb01 := HU0.out.trans (hb1.mono HU0.out.size)
    have G1 := hid (GR.out.up hb01)
    have HI1 := hid (HIr.out.up hb01)
    have HB1 := hid hb01
    obtain ⟨z1, z2, z3⟩ := G1.out.row.cell q hqn
    rw [HKq.out] at z3
    have z1' : U1.cell? ⟨g, q * 3, none⟩ = some (.bool (P.th q)) := z1
    have z2' : U1.cell? ⟨g, q * 3 + 1, none⟩ = some (.int .i64 (P.rm q)) := z2
    have S1 := setCell_same z1'
    have S2 := setCell_same z2'
    have f1 := G1.out.row.free (q * 3) (by omega)
    have f2 := G1.out.row.free (q * 3 + 1) (by omega)
    have f3 := G1.out.row.free (q * 3 + 2) (by omega)
    obtain ⟨Y, hY⟩ : ∃ Y, U1.setCell ⟨g, q * 3 + 2, none⟩ (.slice ar (P.m q + 1) cr) = Y := ⟨_, rfl⟩
    have HYi : Hid (IntSl Y Y.heap.size (.slice (some ⟨ba, oa, none⟩) cnt ca) cnt (forA P ver np cnt)) := by
     show IntSl _ _ _ _ _
     have hz : Y.heap.size = U1.heap.size := by rw [← hY]; simp [World.setCell]
     rw [hz, ← hY]
     exact isl_slice HI1.out z3 _
    have HYg : Hid (GvInv w Y (.slice ad n cap0) (some ⟨g, 0, none⟩) g np cap (fun k => if k = q then .slice ar (P.m q + 1) cr else KVi k) (fun k => if k = q then UR else UVi k) (giveP P ver (forA P ver np cnt) SN SL SX (i + 1))) := by
     show GvInv _ _ _ _ _ _ _ _ _ _
     rw [← hY]
     have hst := fun k => giveP_succ (P := P) (ver := ver) (A := forA P ver np cnt) (SN := SN) (SL := SL) (SX := SX) (i := i) (k := k) HNe.out
     refine G1.out.put HGw1.out hqn ⟨_, _, _, HKq.out⟩ rfl rfl (fun k hk hkq => ?_) ?_
     ·have hne2 : ¬ forA P ver np cnt i = (k : Int) := by rw [HAq.out]; omega
      rw [(hst k).1, (hst k).2, if_neg hne2, if_neg hne2]
      exact ⟨rfl, rfl⟩
     ·rw [(hst q).1, (hst q).2, if_pos HAq.out, if_pos HAq.out]
      exact HKr.out
    have HYd : Hid (wr.grownBy Y (some g)) := by
     show World.grownBy _ _ _
     rw [← hY]
     have h9 : wr.grownBy U1 (some g) := (grown_of_below HB1.out _)
     exact ⟨h9.os, h9.tape, h9.output, by simpa [World.setCell] using h9.size, fun k hk hkg => by rw [Below.heap_setCell _ _ _ _ (by show k ≠ g; intro e; exact hkg (by rw [e]))]; exact h9.block k hk hkg⟩
    clear hb1 hto hb01 y1 y2 y3 z1 z2
    unfold peerV
    go_wp2
    refine ⟨rfl, hK _ _ (grown_of_below HB1.out _) ?_⟩
    clear hK K
    refine mixO_cons (by simp only [pickO, List.getElem?_cons_zero, List.getElem?_cons_succ]; exact rfl) (by simp only [pickO, List.getElem?_cons_zero, List.getElem?_cons_succ]; exact rfl) ?_
    repeat (go_big_quiet_step (fail))
    refine wpQuiet_nil ?_
    intro K hK
    go_wp2
    refine ⟨rfl, hK _ _ HYd.out ?_⟩
    clear hK K
    refine mixO_nil (by simp only [pickO, List.getElem?_cons_zero, List.getElem?_cons_succ]; exact rfl) ?_
    repeat (go_big_quiet_step (fail))
    refine wpQuiet_nil ?_
    clear F0 F1 F2 F3 hne z1' z2' z3 S1 S2 f1 f2 f3 hY
    go_wp2
    go_roundw
    case rel => exact ⟨i + 1, _, _, by omega, by go_num, HYg, HYi⟩
    case measure => simp only [intOf]; omega
   ·have hie : cnt = i := by omega
    subst hie
    obtain ⟨m0, m1⟩ := two_at GR.out.box
    obtain ⟨r1, r2⟩ := two_at GR.out.out
    have f1 := frozen_at (i := 0) GR.out.out
    have f2 := frozen_at (i := 1) GR.out.out
    go_wp2
    refine bodyPost_ret (results_cell2 rfl _ _ (w.heap.size + 1) 27 #[.slice ad n cap0, .slice av np cap] (0, 0) _ rfl (put2_whole GR.out.out _ _) Tryz.underlying27 rfl (by kernel_rfl)) rfl ?_
    exact GR.out.fin HV.out (fun h => (HAv.out h).1) HGw.out hcap hnp8
 ·have hcb : (c != 0) = true := by simpa using h0
  have H0 := hid h0
  obtain ⟨r1, r2⟩ := two_at d2
  have f1 := frozen_at (i := 0) d2
  have f2 := frozen_at (i := 1) d2
  clear h0 d1 d2
  go_wp2
  refine bodyPost_ret (results_cell2 rfl _ _ (w.heap.size + 1) 27 #[.slice none 0 0, .slice none 0 0] (0, 0) _ rfl (put2_whole D2.out _ _) Tryz.underlying27 rfl (by kernel_rfl)) rfl ?_
  exact mesh_none (put2_below B1.out (by omega)) H0.out
end Go.Proofs.YtikchpffkhohlaaGreat
