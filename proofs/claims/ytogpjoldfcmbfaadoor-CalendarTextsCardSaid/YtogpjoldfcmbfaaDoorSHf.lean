
/- A number's bytes, the highest first: the program's highestFirst. -/
import Derived.Test.YtogpjoldfcmbfaaDoorSSch
import Derived.Laws.IdiomStrings
namespace Go.Proofs.YtogpjoldfcmbfaaDoor
open Go.RowKit
set_option linter.unusedVariables false

theorem infoU8 : (Tryd.prog.info? 5).map (fun i => (i.zero, i.size, i.bytes)) = some (some (.int .u8 0), 1, 1) := by kernel_rfl
/-- The bytes of n, c of them, the highest first. -/
def hfb (n c j : Nat) : UInt8 := UInt8.ofNat (n / 256 ^ (c - 1 - j))
def hf (n c : Nat) : List UInt8 := (List.range c).map (hfb n c)
def hfRow (n c k j : Nat) : Value := .int .u8 (if c - 1 - j < k then ((hfb n c j).toNat : Int) else 0)
theorem hf_len (n c : Nat) : (hf n c).length = c := by simp [hf]
theorem hfb_val (n c j : Nat) : ((hfb n c j).toNat : Int) = ((n / 256 ^ (c - 1 - j) % 256 : Nat) : Int) := by
  unfold hfb
  simp
theorem hfRow_step (n c k : Nat) (hk : k < c) (x : Int) (hx : x = ((n / 256 ^ k % 256 : Nat) : Int)) (j : Nat) (hj : j < c) : (if j = c - 1 - k then Value.int .u8 x else hfRow n c k j) = hfRow n c (k + 1) j := by
  subst hx
  unfold hfRow
  by_cases h : j = c - 1 - k
  · rw [if_pos h, if_pos (by omega), hfb_val]
    congr 3
    rw [show c - 1 - j = k by omega]
  · rw [if_neg h]
    by_cases h2 : c - 1 - j < k
    · rw [if_pos h2, if_pos (by omega)]
    · rw [if_neg h2, if_neg (by omega)]

theorem shift_val (n k : Nat) : (n : Int) / 2 ^ (8 * k) % 256 = ((n / 256 ^ k % 256 : Nat) : Int) := by
  have e : (256 : Nat) ^ k = 2 ^ (8 * k) := by rw [Nat.pow_mul]
  rw [e]
  simp

end Go.Proofs.YtogpjoldfcmbfaaDoor
