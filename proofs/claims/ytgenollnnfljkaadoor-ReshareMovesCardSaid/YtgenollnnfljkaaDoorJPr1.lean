
/- The program's package refresh: good, ofAll, the search for a holder. -/
import Derived.Test.YtgenollnnfljkaaDoorJMth
import Derived.Test.YtgenollnnfljkaaDoorHPk
namespace Go.Proofs.YtgenollnnfljkaaDoor
open Go.RowKit Go.Sort
open Num
set_option linter.unusedVariables false

/-- Whether a plan is valid and a list good. -/
noncomputable def gdB (p k n : Int) (L : List Shr) : Bool := planB p k n && goodB p n L
theorem gdB_and {p k n : Int} {L : List Shr} : gdB p k n L = true ↔ planB p k n = true ∧ goodB p n L = true := by unfold gdB; rw [Bool.and_eq_true]
theorem combE_gd (p k n : Int) (L : List Shr) : (combE p k n L != 1) = gdB p k n L := by
  cases h : gdB p k n L with
  | true =>
    have h2 := gdB_and.1 h
    have : combE p k n L ≠ 1 := by
      unfold combE
      rw [if_pos h2]
      split <;> omega
    simpa using this
  | false =>
    have h2 : ¬ (planB p k n = true ∧ goodB p n L = true) := fun e => by rw [gdB_and.2 e] at h; cases h
    have : combE p k n L = 1 := by unfold combE; rw [if_neg h2]
    simp [this]
/-- The place of a holder's share, or -1. -/
def IdxR (Z : List Shr) (h r : Int) : Prop := (∃ i : Nat, i < Z.length ∧ r = (i : Int) ∧ (Z.getD i (0, [])).1 = h) ∨ (r = -1 ∧ hasB Z h = false)
theorem hasB_none {Z : List Shr} {h : Int} (hn : ∀ j, j < Z.length → (Z.getD j (0, [])).1 ≠ h) : hasB Z h = false := by
  unfold hasB
  refine List.any_eq_false.2 fun z hz e => ?_
  obtain ⟨j, hj, rfl⟩ := List.mem_iff_getElem.1 hz
  have := hn j hj
  rw [getS_at hj] at this
  exact this (by simpa using e)
theorem IdxR.neg {Z : List Shr} {h r : Int} (x : IdxR Z h r) : decide (r < 0) = !hasB Z h := by
  rcases x with ⟨i, hi, rfl, e⟩ | ⟨rfl, e⟩
  · have : hasB Z h = true := by rw [← e, getS_at hi]; exact hasB_at (List.getElem_mem _)
    rw [this]; simp
  · rw [e]; rfl
end Go.Proofs.YtgenollnnfljkaaDoor
