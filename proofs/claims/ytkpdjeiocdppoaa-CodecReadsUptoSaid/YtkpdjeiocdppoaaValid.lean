
/- Contracts of Valid and Elements: the program's and the document's answers. -/
import Derived.Test.YtkpdjeiocdppoaaPow
import Derived.Laws.Rows
import Derived.Below
namespace Go.Proofs.Ytkpdjeiocdppoaa
open Go.RowKit
open Num
set_option linter.unusedVariables false

/-- The table of spokes, as it lies in memory. -/
def wheelCells : Array Value := #[.int .i64 7, .int .i64 11, .int .i64 13, .int .i64 17, .int .i64 19, .int .i64 23, .int .i64 29, .int .i64 31]
def first3 : Nat → Int
  | 0 => 2 | 1 => 3 | _ => 5
theorem first3_bound (k : Nat) : 2 ≤ first3 k ∧ first3 k ≤ 5 := by unfold first3; split <;> omega
/-- What the first loop has found behind k rounds. -/
def Three (q : Int) (k : Nat) : Prop := ∀ j, j < k → q % first3 j ≠ 0
theorem three_free {q : Int} {k : Nat} (hk : k < 3) (h : Three q k) : Free q (first3 k - 1) := by
  intro d hd hdm hx
  have : k = 0 ∨ k = 1 ∨ k = 2 := by omega
  rcases this with rfl | rfl | rfl
  · simp only [first3] at hdm; omega
  · have h0 := h 0 (by omega); simp only [first3] at hdm h0; obtain rfl : d = 2 := by omega
    exact h0 hx
  · have h0 := h 0 (by omega); have h1 := h 1 (by omega); simp only [first3] at hdm h0 h1
    have : d = 2 ∨ d = 3 ∨ d = 4 := by omega
    rcases this with rfl | rfl | rfl
    · exact h0 hx
    · exact h1 hx
    · omega
theorem three_succ {q : Int} {k : Nat} (h : Three q k) (h1 : q % first3 k ≠ 0) : Three q (k + 1) := by
  intro j hj
  by_cases e : j = k
  · subst e; exact h1
  · exact h j (by omega)

theorem ret_bool {a b : Bool} (h : a = b) : Ending.returned (.bool a) = .returned (.bool b) := by rw [h]

end Go.Proofs.Ytkpdjeiocdppoaa
