
/- Rotations of SHA-256: the program's and the document's. -/
import Derived.Test.YtogpjoldfcmbfaaDoorSha
import Derived.Test.YtogpjoldfcmbfaaDoorArith
namespace Go.Proofs.YtogpjoldfcmbfaaDoor
open Go.RowKit
set_option linter.unusedVariables false

theorem neg_and (n : Int) (h1 : 1 ≤ n) (h2 : n ≤ 31) : bits .and .u64 (IntKind.u64.wrap (-n)) 31 = 32 - n := by
  rw [IntKind.wrap_u64, show (-n) % 18446744073709551616 = 18446744073709551616 - n by omega, u64_and _ _ (by omega) (by omega) (by omega) (by omega)]
  obtain ⟨k, rfl⟩ := Int.eq_ofNat_of_zero_le (show 0 ≤ n by omega)
  have e : (18446744073709551616 - (k : Int)).toNat &&& (31 : Int).toNat = (18446744073709551616 - k) % 2 ^ 5 := by
    rw [show (31 : Int).toNat = 2 ^ 5 - 1 from rfl, Nat.and_two_pow_sub_one_eq_mod]
    congr 1
    omega
  rw [e]
  omega
def rots (x : Int) (l : List Int) : Int := l.foldl (fun m n => bits .xor .u32 m (Sha.rr x n)) 0
theorem rots_succ (x : Int) (l : List Int) (k : Nat) (hk : k < l.length) : bits .xor .u32 (rots x (l.take k)) (Sha.rr x (l.getD k 0)) = rots x (l.take (k + 1)) := by
  unfold rots
  rw [List.take_add_one, List.foldl_append]
  simp [List.getElem?_eq_getElem hk]
end Go.Proofs.YtogpjoldfcmbfaaDoor
