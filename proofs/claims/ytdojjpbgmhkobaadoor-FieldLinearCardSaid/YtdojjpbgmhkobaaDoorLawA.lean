/- The sanity check of layer 1's statements. -/
import Derived.Test.YtdojjpbgmhkobaaDoorDice
import Derived.Test.YtdojjpbgmhkobaaDoorEl
namespace Go.Proofs.YtdojjpbgmhkobaaDoor
open Go.RowKit
open Num
set_option linter.unusedVariables false

theorem below_drewN {B : Nat} {a w : World} (h : Below B a w) (n : Nat) : Below B a (w.drewN n) := ⟨h.os, h.tape, h.output, h.size, h.block⟩
theorem beq_of {a b : Int} (h : a = b) : (a == b) = true := by simp [h]

/-- What a statement draws first: a prime out of new dice. -/
theorem start_wheel {w w1 : World} (hw : Wheel w) (h : Below w.heap.size w w1) : Wheel w1 := hw.below hw.size h

theorem vB_7 : vB 7 = true := vB_true prm_7 (by omega)
theorem vB_9 : vB 9 = false := vB_false fun h => not_prm (d := 3) (by omega) (by omega) (by decide) h.1
theorem iv_7_5 : iv 7 5 = 3 := by decide
theorem inverse_7_5 (w : World) : Calls Tryd.prog 13 #[.int .i64 7, .int .i64 5] w fun e w' => e = .returned (.tuple #[.int .i64 3, .int .i64 0]) ∧ w = w' := by
  have h := inverse_some 7 5 w (by omega) (by omega) (by omega) (by omega); rwa [iv_7_5] at h
theorem mul_7_3_5 (w : World) : Calls Tryd.prog 20 #[.int .i64 7, .int .i64 3, .int .i64 5] w fun e w' => e = .returned (.int .i64 1) ∧ w = w' :=
  mul_any 7 3 5 w (by omega) (by omega) (by omega) (by omega) (by omega) (by omega)

theorem awake_any (w : World) (hw : Wheel w) :
    Calls Tryd.prog 9 #[] w fun e w' => e = .returned (.bool true) ∧ w = w' := by
  have e7 := vB_7
  have e9 := vB_9
  go_enter Tryd.func9, Tryd.ntmps9
  go_wp2_with (first
    | (go_at_call 13; refine (inverse_7_5 _).mono ?_; rintro e w' ⟨rfl, rfl⟩)
    | (go_at_call 20; refine (mul_7_3_5 _).mono ?_; rintro e w' ⟨rfl, rfl⟩)
    | (go_at_call 32; refine (valid_any _ _ hw (by decide)).mono ?_; rintro e w' ⟨rfl, rfl⟩))
  go_ret
  exact ⟨rfl, rfl⟩
end Go.Proofs.YtdojjpbgmhkobaaDoor
