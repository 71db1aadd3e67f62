/- What package share owes, it pays. -/
import Derived.Test.YtfcpmpcfbhkacaaShareCodeD
import Derived.Test.YtfcpmpcfbhkacaaShareCodeH
namespace Go.Proofs.Ytfcpmpcfbhkacaa
open Go.RowKit CurveMath
set_option linter.unusedVariables false

theorem owes : Owes where
  check := shCheck
  long := shLong
  one := shOne
  same := shSame
  split := shSplit
  join := shJoin

end Go.Proofs.Ytfcpmpcfbhkacaa
