
/- Contracts of layer 1 in the field's own words. -/
import Derived.Test.YtadhmmklhhaagaaDoorPow
namespace Go.Proofs.YtadhmmklhhaagaaDoor
open Go.RowKit
open Num
set_option linter.unusedVariables false

/-- A number modulo p, whatever it is. -/
theorem mod_el {p n : Int} (w : World) (hp : 1 ≤ p) (hp2 : p ≤ 1073741824) :
    Calls Tryd.prog 8 #[.int .i64 n, .int .i64 p] w fun e w' => ∃ x, El p x ∧ e = .returned (.int .i64 x) ∧ w = w' :=
  (mod_any n p w hp (by omega)).mono fun e w' ⟨he, hw⟩ => ⟨_, el_mod hp n, he, hw⟩
end Go.Proofs.YtadhmmklhhaagaaDoor
