/- Kit of chapter 7's laws: boxes that stay. -/
import Derived.Test.YtokebjclbpgljadPeerStored
import Derived.Test.YtokebjclbpgljadPeerBox
namespace Go.Proofs.Ytokebjclbpgljad
open Go.RowKit
set_option linter.unusedVariables false

theorem keptB_nil (t u : Kt) : keptB 0 0 t u = true := rfl

/-- what Keep comes to is one thing, as a peer -/
theorem keepsTo_alike {n : Nat} {b : Bk} {th : Bool} {room : Int} {m : Nat} {t : Kt} {ver N : Int} {L : Nat} {X : Nat → Int} {e1 e2 : Int} {h1 h2 : Bool} {r1 r2 : Int} {m1 m2 : Nat} {t1 t2 : Kt} (g1 : KeepsTo n b th room m t ver N L X e1 h1 r1 m1 t1) (g2 : KeepsTo n b th room m t ver N L X e2 h2 r2 m2 t2) :
    e1 = e2 ∧ peerB h1 h2 r1 r2 m1 m2 t1 t2 = true := by
  obtain ⟨h1, rfl, rfl, rfl, h5⟩ := keepsTo_uniq g1 g2
  refine ⟨h1, ?_⟩
  rcases h5 with h5 | rfl
  · subst h5; unfold peerB; rw [keptB_nil]; simp
  · exact peerB_refl _ _ _ _

end Go.Proofs.Ytokebjclbpgljad
