/- What chapter 3's reference answers: plans, rows, shares, and whether two are alike. -/
import Derived.Test.YtfcpmpcfbhkacaaShareKit
import Derived.Test.YtfcpmpcfbhkacaaPlanCode
namespace Go.Proofs.Ytfcpmpcfbhkacaa
open Go.RowKit CurveMath
set_option linter.unusedVariables false

end Go.Proofs.Ytfcpmpcfbhkacaa
