
/- The walk through ShareSums, with the program's own contracts. -/
import Derived.Test.YtbfkkdbniallnaaDoorHULaw
import Derived.Test.YtbfkkdbniallnaaDoorHPk
namespace Go.Proofs.YtbfkkdbniallnaaDoor
open Go.RowKit
set_option linter.unusedVariables false
theorem shareSums_walk (s : Value) (l : List Int) (c : Int) (w : World) (hw : Wheel w) (hs : Ints w s l) (hc : (Lit.int .i64 c).wf = true) :
    Calls Tryd.prog 9 #[s, .int .i64 c] w fun e w' => e = .returned (.bool true) ∧ Below w.heap.size w w' := shareSums_walkF sh s l c w hw hs
end Go.Proofs.YtbfkkdbniallnaaDoor
