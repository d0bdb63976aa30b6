
/- Plans that may not be valid: kit's AnyPlan. -/
import Derived.Test.YtdidplpbkfkdeaaGreatDoorHULaw
namespace Go.Proofs.YtdidplpbkfkdeaaGreatDoor
open Go.RowKit Go.Sort
open Num
set_option linter.unusedVariables false

def odd3 (n : Int) : Nat → Int
  | 0 => 0 | 1 => -1 | _ => n + 1
def odd4 (p : Int) : Nat → Int
  | 0 => 0 | 1 => 16 | 2 => 17 | _ => p
/-- A region whose orders all end alike, but for three numbers. -/
theorem region_oneJ {P : Program} {id : Nat} {ops : Array Oper} {d : Bool} {Q : Exit → Act → World → Prop} {a : Act} {w : World} (R : Int → World → Prop) (A : Int → Nat → Nat → Act) (hr : (Code.region id ops d).wp P (fun e a' W => e = .normal ∧ ∃ x j m, a' = A x j m ∧ R x W) a w)
    (h : ∀ x j m W, R x W → Q .normal (A x j m) W) : (Code.region id ops d).wp P Q a w :=
  Code.wp_mono (fun _ _ _ ⟨h1, x, j, m, h2, h3⟩ => by subst h1; subst h2; exact h x j m _ h3) hr
def odd8 : Nat → Int
  | 0 => 0 | 1 => 1 | 2 => 4 | 3 => 9 | 4 => -7 | 5 => 1073741824 | 6 => 1073741827 | _ => 500000004
theorem odd8_wf (j : Nat) : -9223372036854775808 ≤ odd8 j ∧ odd8 j ≤ 9223372036854775807 := by unfold odd8; split <;> omega
theorem wf_any {x : Int} (h : -9223372036854775808 ≤ x ∧ x ≤ 9223372036854775807) : (Lit.int .i64 x).wf = true := wf64 h.1 h.2
theorem odd3_le {n : Int} (h : 0 ≤ n ∧ n ≤ 7) (j : Nat) : odd3 n j ≤ 8 := by unfold odd3; split <;> omega
end Go.Proofs.YtdidplpbkfkdeaaGreatDoor
