/- What package share owes, it pays. -/
import Derived.Test.YtcdaknionmffgabShareCodeD
import Derived.Test.YtcdaknionmffgabShareCodeH
namespace Go.Proofs.Ytcdaknionmffgab
open Go.RowKit CurveMath
set_option linter.unusedVariables false

theorem owes : Owes where
  check := shCheck
  long := shLong
  one := shOne
  same := shSame
  split := shSplit
  join := shJoin

end Go.Proofs.Ytcdaknionmffgab
