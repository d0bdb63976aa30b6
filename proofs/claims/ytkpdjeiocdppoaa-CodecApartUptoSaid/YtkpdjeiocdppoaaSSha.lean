
/- SHA-256 of a string: the program's Sum. -/
import Derived.Test.YtkpdjeiocdppoaaSSum
namespace Go.Proofs.Ytkpdjeiocdppoaa
open Go.RowKit
end Go.Proofs.Ytkpdjeiocdppoaa
