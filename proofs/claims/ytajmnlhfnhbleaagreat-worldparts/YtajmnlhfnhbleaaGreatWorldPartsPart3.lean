/- Several texts of one proof, in their order. -/
import Derived.Test.YtajmnlhfnhbleaaGreatKw16
namespace Go.Proofs.YtajmnlhfnhbleaaGreat
set_option linter.unusedVariables false
theorem tm_all{a':Act}{f:(Nat→Value)→Act}(h:a'=f (fun q=>a'.tmps[q]!)):∃J,a'=f J:=⟨_,h⟩
end Go.Proofs.YtajmnlhfnhbleaaGreat
