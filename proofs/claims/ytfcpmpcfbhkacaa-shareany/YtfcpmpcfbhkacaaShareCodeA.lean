/- What package share answers of a plan, of a share, and of two: Check, Long, One, Same. -/
import Derived.Test.YtfcpmpcfbhkacaaShareRef
namespace Go.Proofs.Ytfcpmpcfbhkacaa
open Go.RowKit CurveMath
set_option linter.unusedVariables false

end Go.Proofs.Ytfcpmpcfbhkacaa
