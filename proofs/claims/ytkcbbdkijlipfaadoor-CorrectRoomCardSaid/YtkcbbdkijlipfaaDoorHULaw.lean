
/- The walk through ShareSums. -/
import Derived.Test.YtkcbbdkijlipfaaDoorHSum
namespace Go.Proofs.YtkcbbdkijlipfaaDoor
open Go.RowKit Go.Sort
open Num
set_option linter.unusedVariables false

end Go.Proofs.YtkcbbdkijlipfaaDoor
