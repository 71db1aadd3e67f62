/- What package share owes, it pays. -/
import Derived.Test.YtcdaknionmffgacShareCodeD
import Derived.Test.YtcdaknionmffgacShareCodeH
namespace Go.Proofs.Ytcdaknionmffgac
open Go.RowKit CurveMath
set_option linter.unusedVariables false

theorem owes : Owes where
  check := shCheck
  long := shLong
  one := shOne
  same := shSame
  split := shSplit
  join := shJoin

end Go.Proofs.Ytcdaknionmffgac
