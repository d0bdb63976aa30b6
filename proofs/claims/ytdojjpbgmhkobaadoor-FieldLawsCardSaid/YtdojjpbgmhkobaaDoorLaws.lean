/- The walk of FieldLaws. -/
import Derived.Test.YtdojjpbgmhkobaaDoorLawA
namespace Go.Proofs.YtdojjpbgmhkobaaDoor
open Go.RowKit
open Num
set_option linter.unusedVariables false

set_option maxHeartbeats 1000000 in
theorem fieldLaws_walk (s : Value) (l : List Int) (a b c : Int) (w : World) (hw : Wheel w) (hs : Ints w s l) (wa : (Lit.int .i64 a).wf = true) (wb : (Lit.int .i64 b).wf = true) (wc : (Lit.int .i64 c).wf = true) :
    Calls Tryd.prog 5 #[s, .int .i64 a, .int .i64 b, .int .i64 c] w fun e w' => e = .returned (.bool true) ∧ Below w.heap.size w w' := by
  by_cases hl : (l.length : Int) ≤ 500
  · have hl' : decide ((l.length : Int) ≤ 500) = true := by simpa using hl
    go_enter Tryd.func5, Tryd.ntmps5
    go_wp2_with (first
      | (go_at_call 8; refine (light_any _ _ _ hs).mono ?_; rintro e w' ⟨rfl, rfl⟩)
      | (go_at_call 10; refine (roll_any _ _ (by obtain ⟨x, y, h, _⟩ := hs; exact ⟨x, _, y, h⟩)).mono ?_; rintro e w' ⟨rfl, rfl⟩))
    refine (prime_any _ s l _ (dice_new hs)).mono ?_
    rintro e w1 ⟨p, hprm, hp2, rfl, hd1, hbut⟩
    have hbel := (But.trans (But.alloc w.heap.size w _) hbut).below (Nat.le_refl _) (Nat.le_refl _)
    have hw1 := start_wheel hw hbel
    have hp1 : 1 ≤ p := by have := hprm.1; omega
    have HB := Lib.hid hbel
    clear hbel hbut hd1 hs hw hprm
    have hp3 : p ≤ 1073741824 := by omega
    go_wp2_with fail
    refine (mod_el _ hp1 hp3).mono ?_; rintro e w' ⟨x, hx, rfl, rfl⟩
    go_wp2_with fail
    refine (mod_el _ hp1 hp3).mono ?_; rintro e w' ⟨y, hy, rfl, rfl⟩
    go_wp2_with fail
    refine (mod_el _ hp1 hp3).mono ?_; rintro e w' ⟨z, hz, rfl, rfl⟩
    have e1 := beq_of (addF_comm p x y)
    have e2 := beq_of (addF_assoc p x y z)
    have e3 := beq_of (add_subF hx y)
    have e4 := beq_of (mulF_comm p x y)
    have e5 := beq_of (mulF_assoc p x y z)
    have e6 := beq_of (mulF_addF p x y z)
    go_wp2_with (first
      | (go_at_call 16; refine (add_el _ hp1 hp3 (by first | assumption | exact el_add hp1 _ _ | exact el_mul hp1 _ _) (by first | assumption | exact el_add hp1 _ _ | exact el_mul hp1 _ _)).mono ?_; rintro e w' ⟨rfl, rfl⟩)
      | (go_at_call 18; refine (sub_el _ hp1 hp3 (by first | assumption | exact el_add hp1 _ _ | exact el_mul hp1 _ _) (by first | assumption | exact el_add hp1 _ _ | exact el_mul hp1 _ _)).mono ?_; rintro e w' ⟨rfl, rfl⟩)
      | (go_at_call 20; refine (mul_el _ hp1 hp3 (by first | assumption | exact el_add hp1 _ _ | exact el_mul hp1 _ _) (by first | assumption | exact el_add hp1 _ _ | exact el_mul hp1 _ _)).mono ?_; rintro e w' ⟨rfl, rfl⟩)
      | (go_at_call 9; refine (awake_any _ hw1).mono ?_; rintro e w' ⟨rfl, rfl⟩))
    go_ret
    exact ⟨rfl, HB.out⟩
  · have hl' : decide ((l.length : Int) ≤ 500) = false := by simpa using hl
    clear hl
    go_enter Tryd.func5, Tryd.ntmps5
    go_wp2_with (first
      | (go_at_call 8; refine (light_any _ _ _ hs).mono ?_; rintro e w' ⟨rfl, rfl⟩)
      | (go_at_call 9; refine (awake_any _ hw).mono ?_; rintro e w' ⟨rfl, rfl⟩))
    go_ret
    exact ⟨rfl, Below.refl _ _⟩
end Go.Proofs.YtdojjpbgmhkobaaDoor
