
/- What the program's Explain checks. -/
import Derived.Test.YtomnncainedjdaaDoorHXm
namespace Go.Proofs.YtomnncainedjdaaDoor
open Go.RowKit Go.Sort
open Num
set_option linter.unusedVariables false

/-- The error of Explain. -/
noncomputable def expE (p k n : Int) (L : List Shr) (S : List Int) : Int := if planB p k n = true ∧ goodB p n L = true ∧ (0 < L.length → (L.getD 0 (0, [])).2.length = S.length) then (if elB p S = true then (if k ≤ (L.length : Int) ∨ 2048 < S.length then 3 else 0) else 2) else 1
theorem expE_one {p k n : Int} {L : List Shr} {S : List Int} (h : ¬ (planB p k n = true ∧ goodB p n L = true ∧ (0 < L.length → (L.getD 0 (0, [])).2.length = S.length))) : expE p k n L S = 1 := by unfold expE; rw [if_neg h]
theorem expE_two {p k n : Int} {L : List Shr} {S : List Int} (h : planB p k n = true ∧ goodB p n L = true ∧ (0 < L.length → (L.getD 0 (0, [])).2.length = S.length)) (h2 : elB p S = false) : expE p k n L S = 2 := by unfold expE; rw [if_pos h, if_neg (by rw [h2]; simp)]
theorem expE_three {p k n : Int} {L : List Shr} {S : List Int} (h : planB p k n = true ∧ goodB p n L = true ∧ (0 < L.length → (L.getD 0 (0, [])).2.length = S.length)) (h2 : elB p S = true) (h3 : k ≤ (L.length : Int) ∨ 2048 < S.length) : expE p k n L S = 3 := by unfold expE; rw [if_pos h, if_pos h2, if_pos h3]
theorem expE_ok {p k n : Int} {L : List Shr} {S : List Int} (h : planB p k n = true ∧ goodB p n L = true ∧ (0 < L.length → (L.getD 0 (0, [])).2.length = S.length)) (h2 : elB p S = true) (h3 : ¬ (k ≤ (L.length : Int) ∨ 2048 < S.length)) : expE p k n L S = 0 := by unfold expE; rw [if_pos h, if_pos h2, if_neg h3]

end Go.Proofs.YtomnncainedjdaaDoor
