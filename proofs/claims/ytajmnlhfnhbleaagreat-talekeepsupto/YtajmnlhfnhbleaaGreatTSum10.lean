/- Several texts of one proof, in their order. -/
import Derived.Test.YtajmnlhfnhbleaaGreatTSum4
import Derived.Test.YtajmnlhfnhbleaaGreatTSum7
import Derived.Test.YtajmnlhfnhbleaaGreatTSum8
import Derived.Test.YtajmnlhfnhbleaaGreatTSum9

namespace Go.Proofs.YtajmnlhfnhbleaaGreat

open Go.RowKit
set_option linter.unusedVariables false

def OfB (s m : Nat) (v : Value) : Prop := m = 0 ∨ ∀ ad n c, v = .slice (some ad) n c → ad.block ≠ s

theorem OfB.above {s m : Nat} {v : Value} (h : Above (s + 1) v) : OfB s m v := Or.inr fun ad n c e h9 => by
  have := h ad n c e
  omega

theorem offB_isl {w : World} {B s m : Nat} {v : Value} {X : Nat → Int} (h : IntSl w B v m X) (hs : B ≤ s) : OfB s m v := by
  obtain ⟨ad, cap, rfl, _, h2⟩ := h
  rcases h2 with h2 | ⟨b, off, rfl, h4, _⟩
  · exact Or.inl h2
  · refine Or.inr fun a n c e => ?_
    injection e with e1
    injection e1 with e1
    subst e1
    show b ≠ s
    omega

theorem cell_off {w : World} {s o b o' : Nat} {u : Value} (h : b ≠ s) : (w.setCell ⟨s, o, none⟩ u).cell? ⟨b, o', none⟩ = w.cell? ⟨b, o', none⟩ :=
  World.cell?_setCell_other _ _ _ _ (by intro e; injection e with e1; exact h e1.symm)

section

variable {w w' : World} {B s o : Nat} {v : Value} {u : Value}

theorem IntSl.off {m : Nat} {X : Nat → Int} (h : IntSl w B v m X) (hs : OfB s m v) (u : Value) : IntSl (w.setCell ⟨s, o, none⟩ u) B v m X := by
  obtain ⟨ad, cap, rfl, h0, h2⟩ := h
  refine ⟨ad, cap, rfl, h0, ?_⟩
  rcases h2 with h2 | ⟨b, off, rfl, h4, h5⟩
  · exact Or.inl h2
  · rcases hs with h9 | h9
    · exact Or.inl h9
    · exact Or.inr ⟨b, off, rfl, h4, fun j hj => by rw [cell_off (show b ≠ s from h9 _ _ _ rfl)]; exact h5 j hj⟩

theorem IntSl.grownO {m : Nat} {X : Nat → Int} (h : IntSl w w.heap.size v m X) (hg : w.grownBy w' (some s)) (hs : OfB s m v) : IntSl w' w'.heap.size v m X := by
  obtain ⟨ad, cap, rfl, h0, h2⟩ := h
  refine ⟨ad, cap, rfl, h0, ?_⟩
  rcases h2 with h2 | ⟨b, off, rfl, h4, h5⟩
  · exact Or.inl h2
  · rcases hs with h9 | h9
    · exact Or.inl h9
    · have hb : b ≠ s := h9 _ _ _ rfl
      exact Or.inr ⟨b, off, rfl, Nat.lt_of_lt_of_le h4 hg.size, fun j hj => hg.cell (h5 j hj) (by intro e; injection e with e; exact hb e)⟩

def VeOff (s : Nat) (vb : Value) (n : Nat) (PV : Nat → Value) (b : Bk) : Prop := OfB s n vb ∧ ∀ j, j < n → OfB s (b.PL j) (PV j)
def KeOff (s : Nat) (vk : Value) (m : Nat) (UV : Nat → Value) (t : Kt) : Prop := OfB s m vk ∧ ∀ i, i < m → OfB s (t.L i) (UV i)
def PsOff (s : Nat) (vl : Value) (np : Nat) (KV : Nat → Value) (UV : Nat → Nat → Value) (P : Ps) : Prop := OfB s np vl ∧ ∀ k, k < np → KeOff s (KV k) (P.m k) (UV k) (P.t k)

theorem VeSl.off {n : Nat} {PV : Nat → Value} {b : Bk} (h : VeSl w B v n PV b) (hs : VeOff s v n PV b) (u : Value) : VeSl (w.setCell ⟨s, o, none⟩ u) B v n PV b := by
  obtain ⟨ad, cap, rfl, h0, h2⟩ := h
  refine ⟨ad, cap, rfl, h0, ?_⟩
  rcases h2 with h2 | ⟨bl, off, rfl, h4, h5⟩
  · exact Or.inl h2
  · rcases hs.1 with h9 | h9
    · exact Or.inl h9
    · have hb : bl ≠ s := h9 _ _ _ rfl
      refine Or.inr ⟨bl, off, rfl, h4, fun j hj => ?_⟩
      obtain ⟨x0, x1, x2, x3, x4⟩ := h5 j hj
      exact ⟨by rw [cell_off hb]; exact x0, by rw [cell_off hb]; exact x1, by rw [cell_off hb]; exact x2, by rw [cell_off hb]; exact x3, x4.off (hs.2 j hj) u⟩

theorem KeSl.off {m : Nat} {UV : Nat → Value} {t : Kt} (h : KeSl w B v m UV t) (hs : KeOff s v m UV t) (u : Value) : KeSl (w.setCell ⟨s, o, none⟩ u) B v m UV t := by
  obtain ⟨ad, cap, rfl, h0, h2⟩ := h
  refine ⟨ad, cap, rfl, h0, ?_⟩
  rcases h2 with h2 | ⟨bl, off, rfl, h4, h5⟩
  · exact Or.inl h2
  · rcases hs.1 with h9 | h9
    · exact Or.inl h9
    · have hb : bl ≠ s := h9 _ _ _ rfl
      refine Or.inr ⟨bl, off, rfl, h4, fun j hj => ?_⟩
      obtain ⟨x0, x1, x2, x4⟩ := h5 j hj
      exact ⟨by rw [cell_off hb]; exact x0, by rw [cell_off hb]; exact x1, by rw [cell_off hb]; exact x2, x4.off (hs.2 j hj) u⟩

theorem PsSl.off {np : Nat} {KV : Nat → Value} {UV : Nat → Nat → Value} {P : Ps} (h : PsSl w B v np KV UV P) (hs : PsOff s v np KV UV P) (u : Value) : PsSl (w.setCell ⟨s, o, none⟩ u) B v np KV UV P := by
  obtain ⟨ad, cap, rfl, h0, h2⟩ := h
  refine ⟨ad, cap, rfl, h0, ?_⟩
  rcases h2 with h2 | ⟨bl, off, rfl, h4, h5⟩
  · exact Or.inl h2
  · rcases hs.1 with h9 | h9
    · exact Or.inl h9
    · have hb : bl ≠ s := h9 _ _ _ rfl
      refine Or.inr ⟨bl, off, rfl, h4, fun j hj => ?_⟩
      obtain ⟨x0, x1, x2, x4⟩ := h5 j hj
      exact ⟨by rw [cell_off hb]; exact x0, by rw [cell_off hb]; exact x1, by rw [cell_off hb]; exact x2, x4.off (hs.2 j hj) u⟩

theorem veOff_of {n : Nat} {PV : Nat → Value} {b : Bk} (h : VeSl w B v n PV b) (hs : B ≤ s) : VeOff s v n PV b := by
  obtain ⟨ad, cap, rfl, _, h2⟩ := h
  rcases h2 with rfl | ⟨bl, off, rfl, h4, h5⟩
  · exact ⟨Or.inl rfl, fun j hj => absurd hj (Nat.not_lt_zero _)⟩
  · refine ⟨Or.inr fun a n' c e => ?_, fun j hj => offB_isl (h5 j hj).2.2.2.2 hs⟩
    injection e with e1
    injection e1 with e1
    subst e1
    show bl ≠ s
    omega

theorem keOff_of {m : Nat} {UV : Nat → Value} {t : Kt} (h : KeSl w B v m UV t) (hs : B ≤ s) : KeOff s v m UV t := by
  obtain ⟨ad, cap, rfl, _, h2⟩ := h
  rcases h2 with rfl | ⟨bl, off, rfl, h4, h5⟩
  · exact ⟨Or.inl rfl, fun j hj => absurd hj (Nat.not_lt_zero _)⟩
  · refine ⟨Or.inr fun a n' c e => ?_, fun j hj => offB_isl (h5 j hj).2.2.2 hs⟩
    injection e with e1
    injection e1 with e1
    subst e1
    show bl ≠ s
    omega

theorem psOff_of {np : Nat} {KV : Nat → Value} {UV : Nat → Nat → Value} {P : Ps} (h : PsSl w B v np KV UV P) (hs : B ≤ s) : PsOff s v np KV UV P := by
  obtain ⟨ad, cap, rfl, _, h2⟩ := h
  rcases h2 with rfl | ⟨bl, off, rfl, h4, h5⟩
  · exact ⟨Or.inl rfl, fun j hj => absurd hj (Nat.not_lt_zero _)⟩
  · refine ⟨Or.inr fun a n' c e => ?_, fun j hj => keOff_of (h5 j hj).2.2.2 hs⟩
    injection e with e1
    injection e1 with e1
    subst e1
    show bl ≠ s
    omega

end

end Go.Proofs.YtajmnlhfnhbleaaGreat

namespace Go.Proofs.YtajmnlhfnhbleaaGreat

open Go.RowKit CurveMath
set_option linter.unusedVariables false

def NewP (B : Nat) (w : World) (vl : Value) (np : Nat) (KV : Nat → Value) (UV : Nat → Nat → Value) (P : Ps) : Prop := NewV B w vl ∧ ∀ k, k < np → NewV B w (KV k) ∧ ∀ i, i < P.m k → (P.t k).L i = 0 ∨ NewV B w (UV k i)

def MeshPostN (w : World) (er : Int) (n : Nat) (b : Bk) (np : Nat) (P : Ps) (e : Ending) (w' : World) : Prop :=
  Below w.heap.size w w' ∧ ∃ (vb vl : Value) (n' np' : Nat) (PV KV : Nat → Value) (UV : Nat → Nat → Value), e = .returned (.tuple #[meshV vb vl, .int .i64 er]) ∧ n' = (if er = 0 then n else 0) ∧ np' = (if er = 0 then np else 0) ∧
    VeSl w' w'.heap.size vb n' PV b ∧ PsSl w' w'.heap.size vl np' KV UV P ∧ NewP w.heap.size w' vl np' KV UV P ∧ ∀ s, s < w.heap.size → VeOff s vb n' PV b

theorem MeshPostN.old {w : World} {er : Int} {n : Nat} {b : Bk} {np : Nat} {P : Ps} {e : Ending} {w' : World} (h : MeshPostN w er n b np P e w') : MeshPost w er n b np P e w' := by
  obtain ⟨h1, vb, vl, n', np', PV, KV, UV, h2, h3, h4, h5, h6, _⟩ := h
  exact ⟨h1, vb, vl, n', np', PV, KV, UV, h2, h3, h4, h5, h6⟩

theorem NewP.off {B s : Nat} {w : World} {vl : Value} {np : Nat} {KV : Nat → Value} {UV : Nat → Nat → Value} {P : Ps} (h : NewP B w vl np KV UV P) (hs : s < B) : PsOff s vl np KV UV P :=
  ⟨OfB.above (h.1.above.mono' hs), fun k hk => ⟨OfB.above ((h.2 k hk).1.above.mono' hs), fun i hi => by
    rcases (h.2 k hk).2 i hi with h0 | h0
    · exact Or.inl h0
    · exact OfB.above (h0.above.mono' hs)⟩⟩

structure MeshCore : Prop where
  check : ∀ (vb : Value) (n : Nat) (PV : Nat → Value) (b : Bk) (vl : Value) (np : Nat) (KV : Nat → Value) (UV : Nat → Nat → Value) (P : Ps) (w : World), VeSl w w.heap.size vb n PV b → PsSl w w.heap.size vl np KV UV P →
    Calls Tryz.prog 17 #[meshV vb vl] w fun e w' => e = .returned (.int .i64 (peersE n b np P)) ∧ Below w.heap.size w w'
  new : ∀ (vr : Value) (len : Nat) (X : Nat → Int) (w : World), IntSl w w.heap.size vr len X → len ≤ 1048576 →
    Calls Tryz.prog 36 #[vr] w (MeshPostN w (newE len X) 0 noB len (freshP X))
  restore : ∀ (vb : Value) (n : Nat) (PV : Nat → Value) (b : Bk) (vl : Value) (np : Nat) (KV : Nat → Value) (UV : Nat → Nat → Value) (P : Ps) (k : Int) (w : World), VeSl w w.heap.size vb n PV b → PsSl w w.heap.size vl np KV UV P →
    Calls Tryz.prog 33 #[meshV vb vl, .int .i64 k] w (RestPost w n b np P k)
  save : ∀ (vb : Value) (n : Nat) (PV : Nat → Value) (b : Bk) (vl : Value) (np : Nat) (KV : Nat → Value) (UV : Nat → Nat → Value) (P : Ps) (vd : Value) (len : Nat) (D : Nat → Int) (vp : Value) (lp : Nat) (X : Nat → Int) (need of : Int) (w : World),
    VeSl w w.heap.size vb n PV b → PsSl w w.heap.size vl np KV UV P → IntSl w w.heap.size vd len D → IntSl w w.heap.size vp lp X →
    Calls Tryz.prog 37 #[meshV vb vl, vd, vp, .int .i64 need, .int .i64 of] w (MeshPostN w (saveE n b np P need of len D lp X) (n + 1) (saveB n b need of len lp X) np (saveP n np P need of len D))
  repair : ∀ (vb : Value) (n : Nat) (PV : Nat → Value) (b : Bk) (vl : Value) (np : Nat) (KV : Nat → Value) (UV : Nat → Nat → Value) (P : Ps) (k : Int) (w : World), VeSl w w.heap.size vb n PV b → PsSl w w.heap.size vl np KV UV P →
    Calls Tryz.prog 38 #[meshV vb vl, .int .i64 k] w (MeshPostN w (mendE n b np P k) n b np (mendP b np P k))

structure MeshOwes : Prop extends MeshCore where
  same : ∀ (w : World) (vb vl vb' vl' : Value) (n n' np np' : Nat) (PV PV' KV KV' : Nat → Value) (UV UV' : Nat → Nat → Value) (b b' : Bk) (P P' : Ps), VeSl w w.heap.size vb n PV b → PsSl w w.heap.size vl np KV UV P → VeSl w w.heap.size vb' n' PV' b' → PsSl w w.heap.size vl' np' KV' UV' P' →
    Calls Tryz.prog 21 #[meshV vb vl, meshV vb' vl'] w fun e w' => e = .returned (.bool (meshB n n' b b' np np' P P')) ∧ Below w.heap.size w w'

def MsAt (w : World) (g : Nat) (ab : Option Addr) (n cb : Nat) (PV : Nat → Value) (b : Bk) (al : Option Addr) (np cl : Nat) (KV : Nat → Value) (UV : Nat → Nat → Value) (P : Ps) : Prop :=
  w.heap[g]? = some (.cells #[.slice ab n cb, .slice al np cl] 27 (0, 0)) ∧ VeSl w w.heap.size (.slice ab n cb) n PV b ∧ PsSl w w.heap.size (.slice al np cl) np KV UV P

section

variable {w w' : World} {g : Nat} {ab : Option Addr} {n cb : Nat} {PV : Nat → Value} {b : Bk} {al : Option Addr} {np cl : Nat} {KV : Nat → Value} {UV : Nat → Nat → Value} {P : Ps}

theorem MsAt.up (h : MsAt w g ab n cb PV b al np cl KV UV P) (hb : Below w.heap.size w w') : MsAt w' g ab n cb PV b al np cl KV UV P := ⟨stayB h.1 hb, h.2.1.up hb, h.2.2.up hb⟩

theorem MsAt.cells (h : MsAt w g ab n cb PV b al np cl KV UV P) : w.cell? ⟨g, 0, none⟩ = some (.slice ab n cb) ∧ w.cell? ⟨g, 1, none⟩ = some (.slice al np cl) := two_at h.1

theorem MsAt.box (hv : VeSl w w.heap.size (.slice ab n cb) n PV b) (hl : PsSl w w.heap.size (.slice al np cl) np KV UV P) : MsAt (w.alloc (.cells #[.slice ab n cb, .slice al np cl] 27)) w.heap.size ab n cb PV b al np cl KV UV P :=
  ⟨heap_alloc_new _ _, hv.up (below_alloc _ _), hl.up (below_alloc _ _)⟩

end

theorem mesh_open {w : World} {er : Int} {n : Nat} {b : Bk} {np : Nat} {P : Ps} {e : Ending} {w' : World} (h : MeshPost w er n b np P e w') :
    Below w.heap.size w w' ∧ ∃ (ab : Option Addr) (n' cb : Nat) (PV : Nat → Value) (al : Option Addr) (np' cl : Nat) (KV : Nat → Value) (UV : Nat → Nat → Value), e = .returned (.tuple #[.agg #[.slice ab n' cb, .slice al np' cl], .int .i64 er]) ∧
      n' = (if er = 0 then n else 0) ∧ np' = (if er = 0 then np else 0) ∧ VeSl w' w'.heap.size (.slice ab n' cb) n' PV b ∧ PsSl w' w'.heap.size (.slice al np' cl) np' KV UV P := by
  obtain ⟨h1, vb, vl, n', np', PV, KV, UV, rfl, h3, h4, h5, h6⟩ := h
  have h5' := h5
  have h6' := h6
  obtain ⟨ab, cb, rfl, _, _⟩ := h5'
  obtain ⟨al, cl, rfl, _, _⟩ := h6'
  exact ⟨h1, ab, n', cb, PV, al, np', cl, KV, UV, rfl, h3, h4, h5, h6⟩

theorem rest_open {w : World} {n : Nat} {b : Bk} {np : Nat} {P : Ps} {k : Int} {e : Ending} {w' : World} (h : RestPost w n b np P k e w') :
    Below w.heap.size w w' ∧ ∃ (a1 : Option Addr) (m c1 : Nat) (a2 : Option Addr) (c2 : Nat), e = .returned (.tuple #[.slice a1 m c1, .slice a2 (rsB n b np P k).length c2, .int .i64 (rsE n b np P k)]) ∧ (m : Int) = (if rsE n b np P k = 0 then b.sz k.toNat else 0) ∧
      IntSl w' w'.heap.size (.slice a1 m c1) m (rsD b np P k) ∧ IntSl w' w'.heap.size (.slice a2 (rsB n b np P k).length c2) (rsB n b np P k).length (fun j => (rsB n b np P k).getD j 0) := by
  obtain ⟨h1, r, bb, m, rfl, h3, h4, h5⟩ := h
  have h4' := h4
  have h5' := h5
  obtain ⟨a1, c1, rfl, _, _⟩ := h4'
  obtain ⟨a2, c2, rfl, _, _⟩ := h5'
  exact ⟨h1, a1, m, c1, a2, c2, rfl, h3, h4, h5⟩

end Go.Proofs.YtajmnlhfnhbleaaGreat

namespace Go.Proofs.YtajmnlhfnhbleaaGreat

open Go.RowKit CurveMath
set_option linter.unusedVariables false

def hapV (x : Hp) (vd vp : Value) : Value := .agg #[.int .i64 x.kd, .int .i64 x.N, .int .i64 x.M, vd, vp, .int .i64 x.need, .int .i64 x.of]

def HpAt (w : World) (B : Nat) (x : Hp) (vd vp : Value) : Prop := IntSl w B vd x.len x.D ∧ IntSl w B vp x.lp x.X

def HpSl (w : World) (B : Nat) (v : Value) (n : Nat) (DV QV : Nat → Value) (H : Nat → Hp) : Prop :=
  ∃ (ad : Option Addr) (cap : Nat), v = .slice ad n cap ∧ (n ≤ cap ∧ n * 88 ≤ 140737488351232) ∧ (n = 0 ∨ ∃ bl off, ad = some ⟨bl, off, none⟩ ∧ bl < B ∧ ∀ j, j < n →
    (w.cell? ⟨bl, off + j * 7, none⟩ = some (.int .i64 (H j).kd) ∧ w.cell? ⟨bl, off + j * 7 + 1, none⟩ = some (.int .i64 (H j).N) ∧ w.cell? ⟨bl, off + j * 7 + 2, none⟩ = some (.int .i64 (H j).M) ∧ w.cell? ⟨bl, off + j * 7 + 3, none⟩ = some (DV j) ∧
      w.cell? ⟨bl, off + j * 7 + 4, none⟩ = some (QV j) ∧ w.cell? ⟨bl, off + j * 7 + 5, none⟩ = some (.int .i64 (H j).need) ∧ w.cell? ⟨bl, off + j * 7 + 6, none⟩ = some (.int .i64 (H j).of)) ∧ HpAt w B (H j) (DV j) (QV j))

section

variable {w w' : World} {B B' : Nat} {v : Value} {n : Nat} {DV QV : Nat → Value} {H : Nat → Hp} {x : Hp} {vd vp : Value}

theorem HpAt.below (h : HpAt w B x vd vp) (hb : Below B w w') : HpAt w' B x vd vp := ⟨h.1.below hb, h.2.below hb⟩
theorem HpAt.mono (h : HpAt w B x vd vp) (hb : B ≤ B') : HpAt w B' x vd vp := ⟨h.1.mono hb, h.2.mono hb⟩
theorem HpAt.up (h : HpAt w w.heap.size x vd vp) (hb : Below w.heap.size w w') : HpAt w' w'.heap.size x vd vp := (h.below hb).mono hb.size

theorem HpSl.below (h : HpSl w B v n DV QV H) (hb : Below B w w') : HpSl w' B v n DV QV H := by
  obtain ⟨ad, cap, h1, h0, h2⟩ := h
  refine ⟨ad, cap, h1, h0, ?_⟩
  rcases h2 with h2 | ⟨bl, off, h3, h4, h5⟩
  · exact Or.inl h2
  · refine Or.inr ⟨bl, off, h3, h4, fun j hj => ?_⟩
    obtain ⟨⟨g0, g1, g2, g3, g4, g5, g6⟩, g7⟩ := h5 j hj
    exact ⟨⟨by rw [hb.cell h4]; exact g0, by rw [hb.cell h4]; exact g1, by rw [hb.cell h4]; exact g2, by rw [hb.cell h4]; exact g3, by rw [hb.cell h4]; exact g4, by rw [hb.cell h4]; exact g5, by rw [hb.cell h4]; exact g6⟩, g7.below hb⟩

theorem HpSl.mono (h : HpSl w B v n DV QV H) (hb : B ≤ B') : HpSl w B' v n DV QV H := by
  obtain ⟨ad, cap, h1, h0, h2⟩ := h
  refine ⟨ad, cap, h1, h0, ?_⟩
  rcases h2 with h2 | ⟨bl, off, h3, h4, h5⟩
  · exact Or.inl h2
  · exact Or.inr ⟨bl, off, h3, by omega, fun j hj => ⟨(h5 j hj).1, (h5 j hj).2.mono hb⟩⟩

theorem HpSl.up (h : HpSl w w.heap.size v n DV QV H) (hb : Below w.heap.size w w') : HpSl w' w'.heap.size v n DV QV H := (h.below hb).mono hb.size

theorem HpSl.at {a : Option Addr} {c : Nat} (h : HpSl w B (.slice a n c) n DV QV H) {j : Nat} (hj : j < n) :
    ∃ bl off, a = some ⟨bl, off, none⟩ ∧ bl < B ∧ (w.cell? ⟨bl, off + j * 7, none⟩ = some (.int .i64 (H j).kd) ∧ w.cell? ⟨bl, off + j * 7 + 1, none⟩ = some (.int .i64 (H j).N) ∧ w.cell? ⟨bl, off + j * 7 + 2, none⟩ = some (.int .i64 (H j).M) ∧ w.cell? ⟨bl, off + j * 7 + 3, none⟩ = some (DV j) ∧
      w.cell? ⟨bl, off + j * 7 + 4, none⟩ = some (QV j) ∧ w.cell? ⟨bl, off + j * 7 + 5, none⟩ = some (.int .i64 (H j).need) ∧ w.cell? ⟨bl, off + j * 7 + 6, none⟩ = some (.int .i64 (H j).of)) ∧ HpAt w B (H j) (DV j) (QV j) := by
  obtain ⟨ad, cap, e, _, h2⟩ := h
  injection e with e1
  subst e1
  rcases h2 with h2 | ⟨bl, off, rfl, h4, h5⟩
  · omega
  · exact ⟨bl, off, rfl, h4, (h5 j hj).1, (h5 j hj).2⟩

theorem HpSl.front (h : HpSl w B v n DV QV H) {k : Nat} (hk : k ≤ n) : ∃ ad cap, v = .slice ad n cap ∧ HpSl w B (.slice ad k cap) k DV QV H := by
  obtain ⟨ad, cap, h1, ⟨h0, hr⟩, h2⟩ := h
  refine ⟨ad, cap, h1, ad, cap, rfl, ⟨by omega, by omega⟩, ?_⟩
  rcases h2 with h2 | ⟨bl, off, h3, h4, h5⟩
  · exact Or.inl (by omega)
  · exact Or.inr ⟨bl, off, h3, h4, fun j hj => h5 j (by omega)⟩

end

def hapL (H : Nat → Hp) (n : Nat) : List Hp := (List.range n).map H

theorem hapL_succ (H : Nat → Hp) (n : Nat) : hapL H (n + 1) = hapL H n ++ [H n] := by unfold hapL; rw [List.range_succ, List.map_append]; rfl
theorem hapL_len (H : Nat → Hp) (n : Nat) : (hapL H n).length = n := by unfold hapL; simp

def MsPost (w : World) (er : Int) (m : Ms) (e : Ending) (w' : World) : Prop := MeshPost w er m.n m.b m.np m.P e w'

def RunPost (w : World) (er : Int) (m : Ms) (said : List Int) (e : Ending) (w' : World) : Prop :=
  Below w.heap.size w w' ∧ ∃ (vb vl vo : Value) (n' np' k : Nat) (PV KV : Nat → Value) (UV : Nat → Nat → Value), e = .returned (.tuple #[meshV vb vl, vo, .int .i64 er]) ∧ n' = (if er = 0 then m.n else 0) ∧ np' = (if er = 0 then m.np else 0) ∧ k = (if er = 0 then said.length else 0) ∧
    VeSl w' w'.heap.size vb n' PV m.b ∧ PsSl w' w'.heap.size vl np' KV UV m.P ∧ IntSl w' w'.heap.size vo k (fun j => said.getD j 0)

structure WorldOwes : Prop where
  does : ∀ (vb : Value) (n : Nat) (PV : Nat → Value) (b : Bk) (vl : Value) (np : Nat) (KV : Nat → Value) (UV : Nat → Nat → Value) (P : Ps) (x : Hp) (vd vp : Value) (w : World), VeSl w w.heap.size vb n PV b → PsSl w w.heap.size vl np KV UV P → HpAt w w.heap.size x vd vp →
    Calls Tryz.prog 12 #[meshV vb vl, hapV x vd vp] w (MsPost w (doE ⟨n, b, np, P⟩ x) (happM ⟨n, b, np, P⟩ x))
  run : ∀ (vb : Value) (n : Nat) (PV : Nat → Value) (b : Bk) (vl : Value) (np : Nat) (KV : Nat → Value) (UV : Nat → Nat → Value) (P : Ps) (vs : Value) (len : Nat) (DV QV : Nat → Value) (H : Nat → Hp) (w : World), VeSl w w.heap.size vb n PV b → PsSl w w.heap.size vl np KV UV P → HpSl w w.heap.size vs len DV QV H →
    Calls Tryz.prog 22 #[meshV vb vl, vs] w (RunPost w (runE ⟨n, b, np, P⟩ len) (runM ⟨n, b, np, P⟩ (hapL H len)) (runS ⟨n, b, np, P⟩ (hapL H len)))

end Go.Proofs.YtajmnlhfnhbleaaGreat
