/- What package peer owes, as plain facts of its five functions; the kept one of the closed facts; what Keep comes to is one thing. -/
import Derived.Test.YtokebjclbpgljadPeerKeeps
import Derived.Test.YtokebjclbpgljadPeerSame
import Derived.Test.YtokebjclbpgljadFamBook
namespace Go.Proofs.Ytokebjclbpgljad
open Go.RowKit
set_option linter.unusedVariables false

/-- what Drop comes to -/
def DropsTo (n : Nat) (b : Bk) (th : Bool) (room : Int) (m : Nat) (t : Kt) (ver : Int) (er : Int) (th' : Bool) (room' : Int) (m' : Nat) (t' : Kt) : Prop :=
  (peerE n b room m t ≠ 0 ∧ er = peerE n b room m t ∧ th' = false ∧ room' = 0 ∧ m' = 0) ∨
  (peerE n b room m t = 0 ∧ er = 0 ∧ th' = th ∧ room' = room ∧ m' = (butL t ver m).length ∧ t' = selT t (butL t ver m))

def DropPost (w : World) (n : Nat) (b : Bk) (th : Bool) (room : Int) (m : Nat) (t : Kt) (ver : Int) (e : Ending) (w' : World) : Prop :=
  Below w.heap.size w w' ∧ ∃ (er : Int) (th' : Bool) (room' : Int) (r : Value) (m' : Nat) (UV' : Nat → Value) (t' : Kt), e = .returned (.tuple #[peerV th' room' r, .int .i64 er]) ∧ KeSl w' w'.heap.size r m' UV' t' ∧ DropsTo n b th room m t ver er th' room' m' t'

/-- what package peer owes -/
structure PeerOwes : Prop where
  check : ∀ (vb : Value) (n : Nat) (PV : Nat → Value) (b : Bk) (th : Bool) (room : Int) (vk : Value) (m : Nat) (UV : Nat → Value) (t : Kt) (w : World), VeSl w w.heap.size vb n PV b → KeSl w w.heap.size vk m UV t →
    Calls Try.prog 31 #[bookV vb, peerV th room vk] w fun e w' => e = .returned (.int .i64 (peerE n b room m t)) ∧ Below w.heap.size w w'
  find : ∀ (th : Bool) (room : Int) (v : Value) (m : Nat) (UV : Nat → Value) (t : Kt) (ver : Int) (w : World), KeSl w w.heap.size v m UV t →
    Calls Try.prog 32 #[peerV th room v, .int .i64 ver] w fun e w' => e = .returned (.int .i64 (fstAt t.V ver m 0)) ∧ Below w.heap.size w w'
  same : ∀ (a1 a2 : Bool) (r1 r2 : Int) (w : World) (v1 v2 : Value) (n m : Nat) (PV QV : Nat → Value) (t u : Kt), KeSl w w.heap.size v1 n PV t → KeSl w w.heap.size v2 m QV u →
    Calls Try.prog 34 #[peerV a1 r1 v1, peerV a2 r2 v2] w fun e w' => e = .returned (.bool (peerB a1 a2 r1 r2 n m t u)) ∧ Below w.heap.size w w'
  keep : ∀ (vb : Value) (n : Nat) (PV : Nat → Value) (b : Bk) (th : Bool) (room : Int) (vk : Value) (m : Nat) (UV : Nat → Value) (t : Kt) (ver N : Int) (uv : Value) (L : Nat) (X : Nat → Int) (w : World), VeSl w w.heap.size vb n PV b → KeSl w w.heap.size vk m UV t → IntSl w w.heap.size uv L X →
    Calls Try.prog 26 #[bookV vb, peerV th room vk, keptV ver N uv] w (KeepPost w n b th room m t ver N L X)
  drop : ∀ (vb : Value) (n : Nat) (PV : Nat → Value) (b : Bk) (th : Bool) (room : Int) (vk : Value) (m : Nat) (UV : Nat → Value) (t : Kt) (ver : Int) (w : World), VeSl w w.heap.size vb n PV b → KeSl w w.heap.size vk m UV t →
    Calls Try.prog 27 #[bookV vb, peerV th room vk, .int .i64 ver] w (DropPost w n b th room m t ver)

theorem keptB_refl (m : Nat) (t : Kt) : keptB m m t t = true := by
  have h : ∀ f k, restK t t f k = true := by
    intro f
    induction f with
    | zero => intro k; rfl
    | succ f ih => intro k; simp only [restK, ih, Bool.and_true]; unfold verK sameB eqB; simp
  unfold keptB
  simp [h]

theorem peerB_refl (th : Bool) (room : Int) (m : Nat) (t : Kt) : peerB th th room room m m t t = true := by
  unfold peerB
  rw [keptB_refl]; simp

/-- what Keep comes to is one thing -/
theorem keepsTo_uniq {n : Nat} {b : Bk} {th : Bool} {room : Int} {m : Nat} {t : Kt} {ver N : Int} {L : Nat} {X : Nat → Int} {e1 e2 : Int} {h1 h2 : Bool} {r1 r2 : Int} {m1 m2 : Nat} {t1 t2 : Kt} (g1 : KeepsTo n b th room m t ver N L X e1 h1 r1 m1 t1) (g2 : KeepsTo n b th room m t ver N L X e2 h2 r2 m2 t2) :
    e1 = e2 ∧ h1 = h2 ∧ r1 = r2 ∧ m1 = m2 ∧ (m1 = 0 ∨ t1 = t2) := by
  unfold KeepsTo at g1 g2
  rcases g1 with ⟨a0, a1, a2, a3, a4⟩ | ⟨a0, a1, a2, a3, a4, a5⟩ | ⟨a0, a1, a2, a3, a4, a5, a6⟩ | ⟨a0, a1, a2, l, a3, a4, a5⟩
  · rcases g2 with ⟨c0, c1, c2, c3, c4⟩ | ⟨c0, _⟩ | ⟨c0, _⟩ | ⟨c0, _⟩
    · exact ⟨by rw [a1, c1], by rw [a2, c2], by rw [a3, c3], by rw [a4, c4], Or.inl a4⟩
    all_goals exact absurd c0 a0
  · rcases g2 with ⟨c0, _⟩ | ⟨c0, c1, c2, c3, c4, c5⟩ | ⟨c0, c1, _⟩ | ⟨c0, c1, _⟩
    · exact absurd a0 c0
    · exact ⟨by rw [a2, c2], by rw [a3, c3], by rw [a4, c4], by rw [a5, c5], Or.inl a5⟩
    all_goals omega
  · rcases g2 with ⟨c0, _⟩ | ⟨c0, c1, _⟩ | ⟨c0, c1, c2, c3, c4, c5, c6⟩ | ⟨c0, c1, c2, _⟩
    · exact absurd a0 c0
    · omega
    · exact ⟨by rw [a3, c3], by rw [a4, c4], by rw [a5, c5], by rw [a6, c6], Or.inl a6⟩
    · omega
  · rcases g2 with ⟨c0, _⟩ | ⟨c0, c1, _⟩ | ⟨c0, c1, c2, _⟩ | ⟨c0, c1, c2, l', c3, c4, c5⟩
    · exact absurd a0 c0
    · omega
    · omega
    · have hl := inOrder_uniq a3 c3
      subst hl
      rw [← c4] at a4
      subst a4
      rcases a5 with ⟨d0, d1, d2, d3, d4⟩ | ⟨d0, d1, d2, d3⟩
      · rcases c5 with ⟨f0, f1, f2, f3, f4⟩ | ⟨f0, _⟩
        · exact ⟨rfl, by rw [d1, f1], by rw [d2, f2], by rw [d3, f3], Or.inr (by rw [d4, f4])⟩
        · exact absurd d0 f0
      · rcases c5 with ⟨f0, _⟩ | ⟨f0, f1, f2, f3⟩
        · exact absurd f0 d0
        · exact ⟨rfl, by rw [d1, f1], by rw [d2, f2], by rw [d3, f3], Or.inl d3⟩

end Go.Proofs.Ytokebjclbpgljad
