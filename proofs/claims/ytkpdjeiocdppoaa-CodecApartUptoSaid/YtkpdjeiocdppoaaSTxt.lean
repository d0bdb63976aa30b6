
/- Numbers and texts are added to a running sum; the beginning of a pair. -/
import Derived.Test.YtkpdjeiocdppoaaSSha
namespace Go.Proofs.Ytkpdjeiocdppoaa
open Go.RowKit
set_option linter.unusedVariables false

/-- A text behind its length. -/
def txt (l : List UInt8) : List UInt8 := hf l.length 4 ++ l
theorem txt_len (l : List UInt8) : (txt l).length = 4 + l.length := by unfold txt; rw [List.length_append, hf_len]

end Go.Proofs.Ytkpdjeiocdppoaa
