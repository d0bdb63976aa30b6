
/- Contracts of package field's arithmetic and of the document's answers for it: element, sum, difference, product, powers, inverses. -/
import Derived.Test.YtadhmmklhhaagaaDoorNum
import Derived.Test.YtadhmmklhhaagaaDoorChecked
import Derived.WalkKit
import Derived.IntWalk
import Derived.Lib.Hide
namespace Go.Proofs.YtadhmmklhhaagaaDoor
open Go.RowKit
set_option linter.unusedVariables false
open Num

theorem ret_int {k : IntKind} {a b : Int} (h : a = b) : Ending.returned (.int k a) = .returned (.int k b) := by rw [h]

theorem wf64 {n : Int} (h : -9223372036854775808 ≤ n) (h2 : n ≤ 9223372036854775807) : (Lit.int .i64 n).wf = true := by
  simp [Lit.wf, IntKind.min, IntKind.max, IntKind.signed, IntKind.bits]
  omega
theorem tmod_nonneg_eq (n p : Int) (hn : 0 ≤ n) : n.tmod p = n % p := Int.tmod_eq_emod_of_nonneg hn


theorem tmod_neg_low (n p : Int) (hp : 1 ≤ p) : -p < n.tmod p := by
  have h := Int.tmod_lt_of_pos (-n) (show 0 < p by omega)
  rw [Int.neg_tmod] at h
  omega
theorem tmod_neg_high (n p : Int) (hp : 1 ≤ p) (hn : n ≤ 0) : n.tmod p ≤ 0 := by
  have h := Int.tmod_nonneg p (show 0 ≤ -n by omega)
  rw [Int.neg_tmod] at h
  omega
theorem tmod_fix (n p : Int) (hp : 1 ≤ p) (h : n.tmod p < 0) : n.tmod p + p = n % p := by
  have h1 := tmod_neg_low n p hp
  have h2 : (n.tmod p + p) % p = n % p := by
    rw [Int.add_emod_right]
    have h3 := Int.mul_tdiv_add_tmod n p
    have h4 : n.tmod p = n - p * n.tdiv p := by omega
    rw [h4, Int.sub_mul_emod_self_left]
  rw [← h2]
  exact (Int.emod_eq_of_lt (by omega) (by omega)).symm
theorem tmod_zero_fix (n p : Int) (h : n.tmod p = 0) : 0 = n % p :=
  (Int.emod_eq_zero_of_dvd (Int.dvd_of_tmod_eq_zero h)).symm

theorem mul_bound {a b p : Int} (hp2 : p ≤ 1073741824) (ha : 0 ≤ a) (ha2 : a < p) (hb : 0 ≤ b) (hb2 : b < p) : 0 ≤ a * b ∧ a * b ≤ 1152921504606846976 := by
  have h1 := Int.mul_nonneg ha hb
  have h2 : a * b ≤ 1073741824 * 1073741824 := Int.mul_le_mul (by omega) (by omega) hb (by omega)
  exact ⟨h1, by omega⟩
end Go.Proofs.YtadhmmklhhaagaaDoor
