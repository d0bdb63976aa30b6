
/- Numbers that depend on a seed: the program's Stream. -/
import Derived.Test.YtkpdjeiocdppoaaSTxt
namespace Go.Proofs.Ytkpdjeiocdppoaa
open Go.RowKit
set_option linter.unusedVariables false

theorem infoI : (Try.prog.info? 3).map (fun i => (i.zero, i.size, i.bytes)) = some (some (.int .i64 0), 1, 8) := by kernel_rfl
theorem sum_len (m : List UInt8) : (Sha.sum m).length = 32 := rfl
theorem sev_in (l : List UInt8) : 0 ≤ sev l ∧ sev l < 72057594037927936 := sevN_le l 7 (by omega)
/-- The stream's number i. -/
def stm (p : Int) (seed : List UInt8) (i : Nat) : Int := sev (Sha.sum (([1] ++ txt seed) ++ txt (hf i 4))) % p
def stRow (S : Nat → Int) (k j : Nat) : Value := .int .i64 (if j < k then S j else 0)
theorem stRow_step (S : Nat → Int) (k : Nat) (v : Int) (h : S k = v) (j : Nat) : (if j = k then Value.int .i64 v else stRow S k j) = stRow S (k + 1) j := by
  subst h
  unfold stRow
  by_cases e : j = k
  · subst e; simp
  · rw [if_neg e]
    by_cases h1 : j < k
    · rw [if_pos h1, if_pos (by omega)]
    · rw [if_neg h1, if_neg (by omega)]

end Go.Proofs.Ytkpdjeiocdppoaa
