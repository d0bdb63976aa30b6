
/- The walk through ShareSums. -/
import Derived.Test.YtdidplpbkfkdeaaGreatDoorHSum
namespace Go.Proofs.YtdidplpbkfkdeaaGreatDoor
open Go.RowKit Go.Sort
open Num
set_option linter.unusedVariables false

end Go.Proofs.YtdidplpbkfkdeaaGreatDoor
