
/- The walk through ShareSums. -/
import Derived.Test.YtcgemfiinmjllaaDoorHSum
namespace Go.Proofs.YtcgemfiinmjllaaDoor
open Go.RowKit Go.Sort
open Num
set_option linter.unusedVariables false

end Go.Proofs.YtcgemfiinmjllaaDoor
