
/- The walk through ShareDeals, with the program's own contracts. -/
import Derived.Test.YtbfkkdbniallnaaDoorHDLaw
import Derived.Test.YtbfkkdbniallnaaDoorHPk
namespace Go.Proofs.YtbfkkdbniallnaaDoor
open Go.RowKit
set_option linter.unusedVariables false
theorem shareDeals_walk (s : Value) (l : List Int) (p0 k0 n0 : Int) (vs : Value) (S : List Int) (vr : Value) (R : List Int) (w : World) (hw : Wheel w) (hs : Ints w s l) (hp0 : (Lit.int .i64 p0).wf = true) (hk0 : (Lit.int .i64 k0).wf = true) (hn0 : (Lit.int .i64 n0).wf = true) (hvs : Slc w vs S) (hvr : Slc w vr R) (hbs : ∀ q, vs.ownBlock = some q → q < w.heap.size) (hbr : ∀ q, vr.ownBlock = some q → q < w.heap.size) :
    Calls Tryd.prog 3 #[s, planV p0 k0 n0, vs, vr] w fun e w' => e = .returned (.bool true) ∧ Below w.heap.size w w' := shareDeals_walkF sh s l p0 k0 n0 vs vr S R w hw hs hp0 hvs hvr hbs hbr
end Go.Proofs.YtbfkkdbniallnaaDoor
