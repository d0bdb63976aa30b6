/- The sanity check of layer 1's statements. -/
import Derived.Test.YtdojjpbgmhkobaaDoorDice
namespace Go.Proofs.YtdojjpbgmhkobaaDoor
open Go.RowKit
open Num
set_option linter.unusedVariables false

/-! ### The contracts in the field's own words -/
theorem add_el {p a b : Int} (w : World) (hp : 1 ≤ p) (hp2 : p ≤ 1073741824) (ha : El p a) (hb : El p b) :
    Calls Tryd.prog 16 #[.int .i64 p, .int .i64 a, .int .i64 b] w fun e w' => e = .returned (.int .i64 (addF p a b)) ∧ w = w' :=
  add_any p a b w hp hp2 ha.1 ha.2 hb.1 hb.2
theorem sub_el {p a b : Int} (w : World) (hp : 1 ≤ p) (hp2 : p ≤ 1073741824) (ha : El p a) (hb : El p b) :
    Calls Tryd.prog 18 #[.int .i64 p, .int .i64 a, .int .i64 b] w fun e w' => e = .returned (.int .i64 (subF p a b)) ∧ w = w' :=
  sub_any p a b w hp hp2 ha.1 ha.2 hb.1 hb.2
theorem mul_el {p a b : Int} (w : World) (hp : 1 ≤ p) (hp2 : p ≤ 1073741824) (ha : El p a) (hb : El p b) :
    Calls Tryd.prog 20 #[.int .i64 p, .int .i64 a, .int .i64 b] w fun e w' => e = .returned (.int .i64 (mulF p a b)) ∧ w = w' :=
  mul_any p a b w hp hp2 ha.1 ha.2 hb.1 hb.2
theorem ref_add_el {p a b : Int} (w : World) (hp : 1 ≤ p) (hp2 : p ≤ 1073741824) (ha : El p a) (hb : El p b) :
    Calls Tryd.prog 17 #[.int .i64 p, .int .i64 a, .int .i64 b] w fun e w' => e = .returned (.int .i64 (addF p a b)) ∧ w = w' :=
  ref_add p a b w hp hp2 ha.1 ha.2 hb.1 hb.2
theorem ref_sub_el {p a b : Int} (w : World) (hp : 1 ≤ p) (hp2 : p ≤ 1073741824) (ha : El p a) (hb : El p b) :
    Calls Tryd.prog 19 #[.int .i64 p, .int .i64 a, .int .i64 b] w fun e w' => e = .returned (.int .i64 (subF p a b)) ∧ w = w' :=
  ref_sub p a b w hp hp2 ha.1 ha.2 hb.1 hb.2
theorem ref_mul_el {p a b : Int} (w : World) (hp : 1 ≤ p) (hp2 : p ≤ 1073741824) (ha : El p a) (hb : El p b) :
    Calls Tryd.prog 21 #[.int .i64 p, .int .i64 a, .int .i64 b] w fun e w' => e = .returned (.int .i64 (mulF p a b)) ∧ w = w' :=
  ref_mul p a b w hp hp2 ha.1 ha.2 hb.1 hb.2
theorem pow_el {p a n : Int} (w : World) (hp : 2 ≤ p) (hp2 : p ≤ 1073741824) (ha : El p a) (hn : (Lit.int .i64 n).wf = true) :
    Calls Tryd.prog 23 #[.int .i64 p, .int .i64 a, .int .i64 n] w fun e w' => e = .returned (.int .i64 (pz p a n)) ∧ w = w' :=
  pow_any p a n w hp hp2 ha.1 ha.2 hn
theorem ref_pow_el {p a n : Int} (w : World) (hp : PrmI p) (hp2 : p ≤ 1073741824) (ha : El p a) :
    Calls Tryd.prog 24 #[.int .i64 p, .int .i64 a, .int .i64 n] w fun e w' => e = .returned (.int .i64 (pz p a n)) ∧ w = w' :=
  ref_pow_any p a n w hp hp2 ha.1 ha.2
/-- A number modulo p, whatever it is. -/
theorem mod_el {p n : Int} (w : World) (hp : 1 ≤ p) (hp2 : p ≤ 1073741824) :
    Calls Tryd.prog 31 #[.int .i64 n, .int .i64 p] w fun e w' => ∃ x, El p x ∧ e = .returned (.int .i64 x) ∧ w = w' :=
  (mod_any n p w hp (by omega)).mono fun e w' ⟨he, hw⟩ => ⟨_, el_mod hp n, he, hw⟩
theorem beq_of {a b : Int} (h : a = b) : (a == b) = true := by simp [h]

/-- What a statement draws first: a prime out of new dice. -/
theorem start_wheel {w w1 : World} (hw : Wheel w) (h : Below w.heap.size w w1) : Wheel w1 := hw.below hw.size h

theorem vB_7 : vB 7 = true := vB_true prm_7 (by omega)
theorem vB_9 : vB 9 = false := vB_false fun h => not_prm (d := 3) (by omega) (by omega) (by decide) h.1
theorem iv_7_5 : iv 7 5 = 3 := by decide
theorem inverse_7_5 (w : World) : Calls Tryd.prog 13 #[.int .i64 7, .int .i64 5] w fun e w' => e = .returned (.tuple #[.int .i64 3, .int .i64 0]) ∧ w = w' := by
  have h := inverse_some 7 5 w (by omega) (by omega) (by omega) (by omega); rwa [iv_7_5] at h
theorem mul_7_3_5 (w : World) : Calls Tryd.prog 20 #[.int .i64 7, .int .i64 3, .int .i64 5] w fun e w' => e = .returned (.int .i64 1) ∧ w = w' :=
  mul_any 7 3 5 w (by omega) (by omega) (by omega) (by omega) (by omega) (by omega)

theorem awake_any (w : World) (hw : Wheel w) :
    Calls Tryd.prog 9 #[] w fun e w' => e = .returned (.bool true) ∧ w = w' := by
  have e7 := vB_7
  have e9 := vB_9
  go_enter Tryd.func9, Tryd.ntmps9
  go_wp2_with (first
    | (go_at_call 13; refine (inverse_7_5 _).mono ?_; rintro e w' ⟨rfl, rfl⟩)
    | (go_at_call 20; refine (mul_7_3_5 _).mono ?_; rintro e w' ⟨rfl, rfl⟩)
    | (go_at_call 32; refine (valid_any _ _ hw (by decide)).mono ?_; rintro e w' ⟨rfl, rfl⟩))
  go_ret
  exact ⟨rfl, rfl⟩
end Go.Proofs.YtdojjpbgmhkobaaDoor
