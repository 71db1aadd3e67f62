/- What package share owes, it pays. -/
import Derived.Test.YtnmionnbndfbkacShareCodeD
import Derived.Test.YtnmionnbndfbkacShareCodeH
namespace Go.Proofs.Ytnmionnbndfbkac
open Go.RowKit CurveMath
set_option linter.unusedVariables false

theorem owes : Owes where
  check := shCheck
  long := shLong
  one := shOne
  same := shSame
  split := shSplit
  join := shJoin

end Go.Proofs.Ytnmionnbndfbkac
