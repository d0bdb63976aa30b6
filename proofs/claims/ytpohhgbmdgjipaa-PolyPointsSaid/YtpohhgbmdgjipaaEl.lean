
/- Contracts of layer 1 in the field's own words. -/
import Derived.Test.YtpohhgbmdgjipaaPow
namespace Go.Proofs.Ytpohhgbmdgjipaa
open Go.RowKit
open Num
set_option linter.unusedVariables false

/-! ### The contracts in the field's own words -/
theorem add_el {p a b : Int} (w : World) (hp : 1 ≤ p) (hp2 : p ≤ 1073741824) (ha : El p a) (hb : El p b) :
    Calls Try.prog 41 #[.int .i64 p, .int .i64 a, .int .i64 b] w fun e w' => e = .returned (.int .i64 (addF p a b)) ∧ w = w' :=
  add_any p a b w hp hp2 ha.1 ha.2 hb.1 hb.2
theorem sub_el {p a b : Int} (w : World) (hp : 1 ≤ p) (hp2 : p ≤ 1073741824) (ha : El p a) (hb : El p b) :
    Calls Try.prog 36 #[.int .i64 p, .int .i64 a, .int .i64 b] w fun e w' => e = .returned (.int .i64 (subF p a b)) ∧ w = w' :=
  sub_any p a b w hp hp2 ha.1 ha.2 hb.1 hb.2
theorem mul_el {p a b : Int} (w : World) (hp : 1 ≤ p) (hp2 : p ≤ 1073741824) (ha : El p a) (hb : El p b) :
    Calls Try.prog 35 #[.int .i64 p, .int .i64 a, .int .i64 b] w fun e w' => e = .returned (.int .i64 (mulF p a b)) ∧ w = w' :=
  mul_any p a b w hp hp2 ha.1 ha.2 hb.1 hb.2
theorem ref_sub_el {p a b : Int} (w : World) (hp : 1 ≤ p) (hp2 : p ≤ 1073741824) (ha : El p a) (hb : El p b) :
    Calls Try.prog 39 #[.int .i64 p, .int .i64 a, .int .i64 b] w fun e w' => e = .returned (.int .i64 (subF p a b)) ∧ w = w' :=
  ref_sub p a b w hp hp2 ha.1 ha.2 hb.1 hb.2
theorem ref_pow_el {p a n : Int} (w : World) (hp : PrmI p) (hp2 : p ≤ 1073741824) (ha : El p a) :
    Calls Try.prog 49 #[.int .i64 p, .int .i64 a, .int .i64 n] w fun e w' => e = .returned (.int .i64 (pz p a n)) ∧ w = w' :=
  ref_pow_any p a n w hp hp2 ha.1 ha.2
/-- A number modulo p, whatever it is. -/
theorem mod_el {p n : Int} (w : World) (hp : 1 ≤ p) (hp2 : p ≤ 1073741824) :
    Calls Try.prog 30 #[.int .i64 n, .int .i64 p] w fun e w' => ∃ x, El p x ∧ e = .returned (.int .i64 x) ∧ w = w' :=
  (mod_any n p w hp (by omega)).mono fun e w' ⟨he, hw⟩ => ⟨_, el_mod hp n, he, hw⟩
end Go.Proofs.Ytpohhgbmdgjipaa
