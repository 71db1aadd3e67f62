/- Several texts of one proof, in their order. -/
import Derived.Test.YtajmnlhfnhbleaaGreatTSum13

namespace Go.Proofs.YtajmnlhfnhbleaaGreat

theorem tm_all {a' : Act} {f : (Nat → Value) → Act} (h : a' = f (fun q => a'.tmps[q]!)) : ∃ J, a' = f J := ⟨_, h⟩

end Go.Proofs.YtajmnlhfnhbleaaGreat
