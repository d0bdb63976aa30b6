
/- Numbers written in groups of seven bits: the document's PutInt. -/
import Derived.Test.YtogpjoldfcmbfaaDoorRPad
import Derived.Test.YtogpjoldfcmbfaaDoorVi
namespace Go.Proofs.YtogpjoldfcmbfaaDoor
open Go.RowKit
set_option linter.unusedVariables false

theorem or_128f : ∀ r : Fin 256, (r.val ||| 128) = r.val % 128 + 128 := by decide +kernel
theorem or_128 (r : Nat) (h : r < 256) : bits .or .u8 (r : Int) 128 = ((r % 128 + 128 : Nat) : Int) := by
  have h1 := u8_or_nat r 128 h (by omega)
  have e : r ||| 128 = r % 128 + 128 := or_128f ⟨r, h⟩
  rw [e] at h1
  exact h1
theorem u64_not (a : Nat) (ha : a < 18446744073709551616) : bits .xor .u64 IntKind.u64.max (a : Int) = 18446744073709551615 - (a : Int) := by
  have h := congrArg BitVec.toNat (BitVec.allOnes_xor (x := BitVec.ofNat 64 a))
  rw [BitVec.toNat_xor, BitVec.toNat_allOnes, BitVec.toNat_not, BitVec.toNat_ofNat, Nat.mod_eq_of_lt (by omega)] at h
  have h1 := u64_xor_nat (2 ^ 64 - 1) a (by omega) ha
  rw [h] at h1
  rw [show IntKind.u64.max = ((2 ^ 64 - 1 : Nat) : Int) from rfl, h1]
  omega

end Go.Proofs.YtogpjoldfcmbfaaDoor
