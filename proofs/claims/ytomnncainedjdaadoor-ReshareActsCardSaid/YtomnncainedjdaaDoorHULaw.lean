
/- The walk through ShareSums. -/
import Derived.Test.YtomnncainedjdaaDoorHSum
namespace Go.Proofs.YtomnncainedjdaaDoor
open Go.RowKit Go.Sort
open Num
set_option linter.unusedVariables false

end Go.Proofs.YtomnncainedjdaaDoor
