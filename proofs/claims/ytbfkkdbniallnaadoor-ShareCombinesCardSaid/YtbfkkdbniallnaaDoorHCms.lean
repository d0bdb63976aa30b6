
/- The walk through ShareCombines, with the program's own contracts. -/
import Derived.Test.YtbfkkdbniallnaaDoorHCbl
import Derived.Test.YtbfkkdbniallnaaDoorHPk
namespace Go.Proofs.YtbfkkdbniallnaaDoor
open Go.RowKit
set_option linter.unusedVariables false
theorem shareCombines_walk (s : Value) (l : List Int) (sr : Value) (R : List Num.Shr) (cc : Int) (w : World) (hw : Wheel w) (hs : Ints w s l) (hr : SharesU w sr R) (hc : (Lit.int .i64 cc).wf = true) :
    Calls Tryd.prog 4 #[s, sr, .int .i64 cc] w fun e w' => e = .returned (.bool true) ∧ Below w.heap.size w w' := shareCombines_walkF sh s l sr R cc w hw hs hr
end Go.Proofs.YtbfkkdbniallnaaDoor
