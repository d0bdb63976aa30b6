
/- The statements' sanity check: zeros are added, and the secret stays. -/
import Derived.Test.YtomnncainedjdaaDoorJPr4
namespace Go.Proofs.YtomnncainedjdaaDoor
open Go.RowKit Go.Sort
open Num
set_option linter.unusedVariables false

/-- A plan of the call's own, the table, and what was there before. -/
structure StP (w0 W : World) (g gp : Nat) (p k n : Int) : Prop where
  pl : PlanAt W gp p k n
  wh : Wheel W
  be : Below g w0 W
  lt : g ≤ gp
  sz : gp < W.heap.size
  ta : 0 < g
theorem StP.below {w0 W W' : World} {g gp : Nat} {p k n : Int} (h : StP w0 W g gp p k n) (b : Below W.heap.size W W') : StP w0 W' g gp p k n := by
  have h1 := h.lt
  have h2 := h.sz
  have h3 := h.ta
  exact ⟨h.pl.below h2 b, h.wh.below (by omega) b, h.be.trans (b.mono (by omega)), h.lt, Nat.lt_of_lt_of_le h2 b.size, h.ta⟩
theorem els_lit1 {p x : Int} (h : 0 ≤ x) (h2 : x < p) : Els p [x] := fun y hy => by
  simp at hy; subst hy; exact ⟨h, h2⟩
end Go.Proofs.YtomnncainedjdaaDoor
