/- Several texts of one proof, in their order. -/
import Derived.Test.YtfcpmpcfbhkacaaVb21
import Derived.Test.YtfcpmpcfbhkacaaVb17
import Derived.Test.YtfcpmpcfbhkacaaVb22

/- Package share's own small functions: the places, and what asks a curve for its value. -/
namespace Go.Proofs.Ytfcpmpcfbhkacaa

open Go.RowKit CurveMath
set_option linter.unusedVariables false

theorem shUpTo (d : Nat) (hd : d ≤ 100) (w : World) :
    Calls Try.prog 39 #[.int .i64 (d : Int)] w fun e w' => ∃ v, e = .returned v ∧ OwnI w w' v d (fun j => (j : Int)) := by
  obtain ⟨ii, hi, hzz0, hzz1, hzz2⟩ := info_parts Try.infoInt
  go_enter Try.func39, Try.ntmps39
  go_wp2
  go_loopw [3, 6] (fun v i wr => ∃ k : Nat, k ≤ d ∧ i = .int .i64 k ∧ Hid (OwnI w wr v k (fun j => (j : Int)))) (fun _ i _ => d - (intOf i).toNat)
  case atStart => exact ⟨0, Nat.zero_le _, rfl, OwnI.nil _ _⟩
  case round =>
    obtain ⟨k, hk, rfl, OW⟩ := hrel
    by_cases hlt : k < d
    · have hi2 : (k : Int) < (d : Int) := by omega
      go_wp2_with (at_builtin; go_must (refine wpList_append_own _ rfl (.tmp 9) (.tmp 11) 24 rfl w.heap.size 3 ii (.int .i64 0) 1 8 Try.underlying24 hi hzz0 hzz1 hzz2 rfl (by decide) _ _ _ rfl (OW.out.owns _ 0) ⟨_, 0, none⟩ 1 1 [.int .i64 (k : Int)] rfl rfl (newCell _ _ _) (oneCell _) (by unfold maxLen; omega) (by omega) (by have := OW.out.2.size; simp; omega) ?_; intro v1 w6 ho6 hg6 _; have O6 := hid (OW.out.pushA _ ho6 hg6 rfl); clear ho6 hg6))
      go_roundw
      case rel => exact ⟨k + 1, by omega, by go_num, O6⟩
      case measure => simp only [intOf]; omega
    · have he : k = d := by omega
      subst he
      go_wp2
      go_ret
      exact ⟨_, rfl, OW.out⟩

/-- the function value that asks the curve through the points that lie in two boxes -/
def atF (bx bz : Nat) : Value := .func (.func 58) #[] #[.pointer (some ⟨bx, 0, none⟩), .pointer (some ⟨bz, 0, none⟩)]

/-- the boxes hold these points -/
structure AtFn (w : World) (bx bz n : Nat) (X Y : Nat → Int) : Prop where
  x : ∃ a c, w.cell? ⟨bx, 0, none⟩ = some (.slice a n c) ∧ IntSl w w.heap.size (.slice a n c) n X
  y : ∃ a c, w.cell? ⟨bz, 0, none⟩ = some (.slice a n c) ∧ IntSl w w.heap.size (.slice a n c) n Y

theorem AtFn.up {w w' : World} {bx bz n : Nat} {X Y : Nat → Int} (h : AtFn w bx bz n X Y) (hb : Below w.heap.size w w') : AtFn w' bx bz n X Y := by
  obtain ⟨⟨a1, c1, e1, h1⟩, a2, c2, e2, h2⟩ := h
  exact ⟨⟨a1, c1, by rw [hb.cell (cell_lt e1)]; exact e1, h1.up hb⟩, a2, c2, by rw [hb.cell (cell_lt e2)]; exact e2, h2.up hb⟩

/-- a block that is none of theirs -/
structure AtOff (b : Nat) (w : World) (bx bz : Nat) : Prop where
  x : bx ≠ b
  z : bz ≠ b
  vx : ∀ v, w.cell? ⟨bx, 0, none⟩ = some v → v.ownBlock ≠ some b
  vz : ∀ v, w.cell? ⟨bz, 0, none⟩ = some v → v.ownBlock ≠ some b

theorem IntSl.setOff {w : World} {B b : Nat} {v : Value} {n : Nat} {X : Nat → Int} (h : IntSl w B v n X) (ho : v.ownBlock ≠ some b) (o : Nat) (u : Value) : IntSl (w.setCell ⟨b, o, none⟩ u) B v n X := by
  obtain ⟨ad, cap, rfl, h0, h2⟩ := h
  refine ⟨ad, cap, rfl, h0, ?_⟩
  rcases h2 with h2 | ⟨g, off, rfl, h4, h5⟩
  · exact Or.inl h2
  · have hb : g ≠ b := fun e => ho (by rw [e]; rfl)
    exact Or.inr ⟨g, off, rfl, h4, fun j hj => by rw [World.cell?_setCell_other _ _ _ _ (by intro e; injection e with e1; omega)]; exact h5 j hj⟩

theorem size_set (w : World) (a : Addr) (u : Value) : (w.setCell a u).heap.size = w.heap.size := by simp [World.setCell]

theorem AtFn.set {w : World} {bx bz n b : Nat} {X Y : Nat → Int} (h : AtFn w bx bz n X Y) (ho : AtOff b w bx bz) (o : Nat) (u : Value) : AtFn (w.setCell ⟨b, o, none⟩ u) bx bz n X Y := by
  obtain ⟨⟨a1, c1, e1, h1⟩, a2, c2, e2, h2⟩ := h
  have hx := ho.x
  have hz := ho.z
  refine ⟨⟨a1, c1, by rw [World.cell?_setCell_other _ _ _ _ (by intro e; injection e with e1; omega)]; exact e1, ?_⟩, a2, c2, by rw [World.cell?_setCell_other _ _ _ _ (by intro e; injection e with e1; omega)]; exact e2, ?_⟩
  · rw [size_set]; exact h1.setOff (ho.vx _ e1) o u
  · rw [size_set]; exact h2.setOff (ho.vz _ e2) o u

theorem AtOff.set {w : World} {bx bz b b' : Nat} (h : AtOff b' w bx bz) (ho : AtOff b w bx bz) (o : Nat) (u : Value) : AtOff b' (w.setCell ⟨b, o, none⟩ u) bx bz := by
  have hx := ho.x
  have hz := ho.z
  refine ⟨h.x, h.z, fun v hv => h.vx v ?_, fun v hv => h.vz v ?_⟩
  · rw [World.cell?_setCell_other _ _ _ _ (by intro e; injection e with e1; omega)] at hv; exact hv
  · rw [World.cell?_setCell_other _ _ _ _ (by intro e; injection e with e1; omega)] at hv; exact hv

theorem AtOff.up {w w' : World} {bx bz b n : Nat} {X Y : Nat → Int} (h : AtOff b w bx bz) (hf : AtFn w bx bz n X Y) (hb : Below w.heap.size w w') : AtOff b w' bx bz := by
  obtain ⟨⟨a1, c1, e1, _⟩, a2, c2, e2, _⟩ := hf
  exact ⟨h.x, h.z, fun v hv => h.vx v (by rw [hb.cell (cell_lt e1)] at hv; exact hv), fun v hv => h.vz v (by rw [hb.cell (cell_lt e2)] at hv; exact hv)⟩

theorem shThrough (v1 v2 : Value) (n : Nat) (X Y : Nat → Int) (w : World) (h1 : IntSl w w.heap.size v1 n X) (h2 : IntSl w w.heap.size v2 n Y) :
    Calls Try.prog 38 #[v1, v2] w fun e w' => e = .returned (atF w.heap.size (w.heap.size + 1)) ∧ Below w.heap.size w w' ∧ AtFn w' w.heap.size (w.heap.size + 1) n X Y ∧ w'.cell? ⟨w.heap.size, 0, none⟩ = some v1 ∧ w'.cell? ⟨w.heap.size + 1, 0, none⟩ = some v2 := by
  have hb := ((Below.refl w.heap.size w).alloc (Nat.le_refl _) (.cells #[v1] 24)).alloc (by simp) (.cells #[v2] 24)
  have k1 := cell_at (i := 0) (heap_two_old w (.cells #[v1] 24) (.cells #[v2] 24)) rfl
  have k2 := cell_at (i := 0) (heap_two_new w (.cells #[v1] 24) (.cells #[v2] 24)) rfl
  have i1 := h1.up hb
  have i2 := h2.up hb
  obtain ⟨a1, c1, rfl, _, _⟩ := h1
  obtain ⟨a2, c2, rfl, _, _⟩ := h2
  have HF : Hid (AtFn _ w.heap.size (w.heap.size + 1) n X Y) := ⟨⟨a1, c1, k1, i1⟩, a2, c2, k2, i2⟩
  have HB := hid hb
  have HK1 := hid k1
  have HK2 := hid k2
  clear hb k1 k2 i1 i2
  have hmf : ∀ (fn : Fn) (first cap : Array Value) (w : World), (Instr.makeFunc fn first cap).run Try.prog w = .ok (.func fn first cap) w := fun _ _ _ _ => rfl
  go_enter Try.func38, Try.ntmps38
  go_wp2
  go_ret
  exact ⟨rfl, HB.out, HF.out, HK1.out, HK2.out⟩

theorem shAt (bx bz n : Nat) (X Y : Nat → Int) (t : Int) (w : World) (h : AtFn w bx bz n X Y) (hg : Good n n X Y) (ht : 0 ≤ t ∧ t ≤ 30) :
    Calls Try.prog 58 #[.int .i64 t, .pointer (some ⟨bx, 0, none⟩), .pointer (some ⟨bz, 0, none⟩)] w fun e w' => e = .returned (.int .i64 (crv n X Y t)) ∧ Below w.heap.size w w' := by
  obtain ⟨⟨a1, c1, e1, h1⟩, a2, c2, e2, h2⟩ := h
  have HA := hid (at_up at_spec h1 h2 (chk_mk hg) t ht w (Below.refl _ _))
  clear h1 h2
  generalize crv n X Y t = v at *
  go_enter Try.func58, Try.ntmps58
  go_wp2_with (go_at_call 59; go_must (refine HA.out.mono ?_; rintro e w1 ⟨rfl, hb1⟩; have HB1 := hid hb1; clear hb1))
  go_ret
  exact ⟨rfl, HB1.out⟩

end Go.Proofs.Ytfcpmpcfbhkacaa
