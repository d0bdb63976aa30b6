
/- The walk through ShareSums. -/
import Derived.Test.YtgdclefnfjbbdaaDoorHSum
namespace Go.Proofs.YtgdclefnfjbbdaaDoor
open Go.RowKit Go.Sort
open Num
set_option linter.unusedVariables false

end Go.Proofs.YtgdclefnfjbbdaaDoor
