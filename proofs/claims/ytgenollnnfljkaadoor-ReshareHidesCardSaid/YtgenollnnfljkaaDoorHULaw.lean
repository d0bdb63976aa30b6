
/- The walk through ShareSums. -/
import Derived.Test.YtgenollnnfljkaaDoorHSum
namespace Go.Proofs.YtgenollnnfljkaaDoor
open Go.RowKit Go.Sort
open Num
set_option linter.unusedVariables false

end Go.Proofs.YtgenollnnfljkaaDoor
