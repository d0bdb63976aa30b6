
/- Contracts of package field's powers and inverses, and of the document's answers for them. -/
import Derived.Test.YtadhmmklhhaagaaDoorArith
import Derived.WalkSmall
import Derived.OpenShut
namespace Go.Proofs.YtadhmmklhhaagaaDoor
open Go.RowKit
open Num
set_option linter.unusedVariables false

theorem odd_u64 {k : Nat} (hk : k < 18446744073709551616) (h : k % 2 = 1) : (bits BinOp.and IntKind.u64 (k : Int) 1 == 1) = true := by
  rw [and_one_u64 _ (by omega) (by omega)]; simp; omega
theorem even_u64 {k : Nat} (hk : k < 18446744073709551616) (h : k % 2 = 0) : (bits BinOp.and IntKind.u64 (k : Int) 1 == 1) = false := by
  rw [and_one_u64 _ (by omega) (by omega)]; simp; omega

theorem one_emod {p : Int} (hp : 2 ≤ p) : 1 % p = 1 := Int.emod_eq_of_lt (by omega) (by omega)

theorem ret_pair {k : IntKind} {a b : Int} {v : Value} (h : a = b) : Ending.returned (.tuple #[.int k a, v]) = .returned (.tuple #[.int k b, v]) := by rw [h]

/-! ### Pow -/
theorem neg_neg_u64 (m : Nat) (hm : 0 < m) (hm2 : m ≤ 9223372036854775808) : IntKind.u64.wrap (-IntKind.u64.wrap (-(m : Int))) = (m : Int) := by
  rw [IntKind.wrap_u64, IntKind.wrap_u64]
  omega

/-! ### The document's answers -/
theorem mod_twice (n p : Int) (hp : 1 ≤ p) : (n.tmod p + p) % p = n % p := by
  rw [Int.add_emod_right]
  have h3 := Int.mul_tdiv_add_tmod n p
  have h4 : n.tmod p = n - p * n.tdiv p := by omega
  rw [h4, Int.sub_mul_emod_self_left]
theorem mod_any (n p : Int) (w : World) (hp : 1 ≤ p) (hp2 : p ≤ 4611686018427387904) :
    Calls Tryd.prog 8 #[.int .i64 n, .int .i64 p] w fun e w' => e = .returned (.int .i64 (n % p)) ∧ w = w' := by
  have h1 : -p < n.tmod p := tmod_neg_low n p hp
  have h2 : n.tmod p < p := Int.tmod_lt_of_pos n (by omega)
  have h3 : 0 ≤ n.tmod p + p := by omega
  have H := Lib.hid (mod_twice n p hp)
  have h4 : 0 ≤ (n.tmod p + p) % p := Int.emod_nonneg _ (by omega)
  go_enter Tryd.func8, Tryd.ntmps8
  go_wp2
  go_ret
  exact ⟨ret_int H.out, rfl⟩
theorem and_one_i64 (k : Nat) (hk : k < 9223372036854775808) : bits BinOp.and IntKind.i64 (k : Int) 1 = ((k % 2 : Nat) : Int) := by
  have h1 : (BitVec.ofInt 64 (k : Int)).toNat = k := by
    rw [BitVec.ofInt_natCast, BitVec.toNat_ofNat]; exact Nat.mod_eq_of_lt (by omega)
  have h2 : (BitVec.ofInt 64 (1 : Int)).toNat = 1 := by decide
  show IntKind.i64.wrap ((BitVec.ofInt 64 (k : Int) &&& BitVec.ofInt 64 (1 : Int)).toNat : Int) = _
  rw [BitVec.toNat_and, h1, h2, Nat.and_one_is_mod, IntKind.wrap_i64]
  omega
theorem odd_i64 {k : Nat} (hk : k < 9223372036854775808) (h : k % 2 = 1) : (bits BinOp.and IntKind.i64 (k : Int) 1 == 1) = true := by
  rw [and_one_i64 _ hk, h]; rfl
theorem even_i64 {k : Nat} (hk : k < 9223372036854775808) (h : k % 2 = 0) : (bits BinOp.and IntKind.i64 (k : Int) 1 == 1) = false := by
  rw [and_one_i64 _ hk, h]; rfl

theorem pz_iv {p a : Int} (hp : 2 ≤ p) : pz p a (p - 2) = iv p a := by
  unfold pz iv; rw [if_pos (by omega)]
end Go.Proofs.YtadhmmklhhaagaaDoor
