
/- Elements of strings: the program's Element. -/
import Derived.Test.YtkpdjeiocdppoaaSStr
namespace Go.Proofs.Ytkpdjeiocdppoaa
open Go.RowKit
set_option linter.unusedVariables false

def elt (p : Int) (s : List UInt8) : Int := sev (Sha.sum s) % (p - 1) + 1
end Go.Proofs.Ytkpdjeiocdppoaa
