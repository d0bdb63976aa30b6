
/- The walk through ShareSecrets, with the program's own contracts. -/
import Derived.Test.YtbfkkdbniallnaaDoorHELaw
import Derived.Test.YtbfkkdbniallnaaDoorHPk
namespace Go.Proofs.YtbfkkdbniallnaaDoor
open Go.RowKit
theorem shareSecrets_walk (s : Value) (l : List Int) (w : World) (hw : Wheel w) (hs : Ints w s l) :
    Calls Tryd.prog 6 #[s] w fun e w' => e = .returned (.bool true) ∧ Below w.heap.size w w' := shareSecrets_walkF sh s l w hw hs
end Go.Proofs.YtbfkkdbniallnaaDoor
