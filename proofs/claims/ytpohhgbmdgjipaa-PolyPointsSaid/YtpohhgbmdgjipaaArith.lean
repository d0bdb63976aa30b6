
/- Contracts of package field's arithmetic and of the document's answers for it: element, sum, difference, product, powers, inverses. -/
import Derived.Test.YtpohhgbmdgjipaaNum
import Derived.Test.YtpohhgbmdgjipaaChecked
import Derived.WalkKit
import Derived.IntWalk
import Derived.Lib.Hide
namespace Go.Proofs.Ytpohhgbmdgjipaa
open Go.RowKit
set_option linter.unusedVariables false
open Num

theorem ret_int {k : IntKind} {a b : Int} (h : a = b) : Ending.returned (.int k a) = .returned (.int k b) := by rw [h]

theorem wf64 {n : Int} (h : -9223372036854775808 ≤ n) (h2 : n ≤ 9223372036854775807) : (Lit.int .i64 n).wf = true := by
  simp [Lit.wf, IntKind.min, IntKind.max, IntKind.signed, IntKind.bits]
  omega
theorem tmod_nonneg_eq (n p : Int) (hn : 0 ≤ n) : n.tmod p = n % p := Int.tmod_eq_emod_of_nonneg hn


theorem tmod_neg_low (n p : Int) (hp : 1 ≤ p) : -p < n.tmod p := by
  have h := Int.tmod_lt_of_pos (-n) (show 0 < p by omega)
  rw [Int.neg_tmod] at h
  omega
theorem tmod_neg_high (n p : Int) (hp : 1 ≤ p) (hn : n ≤ 0) : n.tmod p ≤ 0 := by
  have h := Int.tmod_nonneg p (show 0 ≤ -n by omega)
  rw [Int.neg_tmod] at h
  omega
theorem tmod_fix (n p : Int) (hp : 1 ≤ p) (h : n.tmod p < 0) : n.tmod p + p = n % p := by
  have h1 := tmod_neg_low n p hp
  have h2 : (n.tmod p + p) % p = n % p := by
    rw [Int.add_emod_right]
    have h3 := Int.mul_tdiv_add_tmod n p
    have h4 : n.tmod p = n - p * n.tdiv p := by omega
    rw [h4, Int.sub_mul_emod_self_left]
  rw [← h2]
  exact (Int.emod_eq_of_lt (by omega) (by omega)).symm
theorem tmod_zero_fix (n p : Int) (h : n.tmod p = 0) : 0 = n % p :=
  (Int.emod_eq_zero_of_dvd (Int.dvd_of_tmod_eq_zero h)).symm

/-- The element of a number that is not negative. -/
theorem element_pos (p n : Int) (w : World) (hp : 1 ≤ p) (hp2 : p ≤ 1073741824) (hn : 0 ≤ n) :
    Calls Try.prog 48 #[.int .i64 p, .int .i64 n] w fun e w' => e = .returned (.int .i64 (n % p)) ∧ w = w' := by
  have h1 : 0 ≤ n % p := Int.emod_nonneg _ (by omega)
  have h2 : n % p < p := Int.emod_lt_of_pos _ (by omega)
  have h3 : n.tmod p = n % p := Int.tmod_eq_emod_of_nonneg hn
  go_enter Try.func48, Try.ntmps48
  go_wp2
  go_ret
  exact ⟨rfl, rfl⟩
/-- The element of a negative number. -/
theorem element_neg (p n : Int) (w : World) (hp : 1 ≤ p) (hp2 : p ≤ 1073741824) (hn : n < 0) :
    Calls Try.prog 48 #[.int .i64 p, .int .i64 n] w fun e w' => e = .returned (.int .i64 (n % p)) ∧ w = w' := by
  have h1 : -p < n.tmod p := tmod_neg_low n p hp
  have h2 : n.tmod p ≤ 0 := tmod_neg_high n p hp (by omega)
  have h0 : ¬ 0 ≤ n := by omega
  by_cases h : n.tmod p < 0
  · have H := Lib.hid (tmod_fix n p hp h)
    go_enter Try.func48, Try.ntmps48
    go_wp2
    go_ret
    exact ⟨ret_int H.out, rfl⟩
  · have H := Lib.hid (tmod_zero_fix n p (by omega))
    have h3 : 0 ≤ n.tmod p := by omega
    have H3 := Lib.hid (show n.tmod p = 0 by omega)
    go_enter Try.func48, Try.ntmps48
    go_wp2
    go_ret
    exact ⟨ret_int (by rw [H3.out]; exact H.out), rfl⟩
theorem element_any (p n : Int) (w : World) (hp : 1 ≤ p) (hp2 : p ≤ 1073741824) :
    Calls Try.prog 48 #[.int .i64 p, .int .i64 n] w fun e w' => e = .returned (.int .i64 (n % p)) ∧ w = w' := by
  by_cases h : 0 ≤ n
  · exact element_pos p n w hp hp2 h
  · exact element_neg p n w hp hp2 (by omega)

/-! ### Sum, difference, product of elements -/

theorem add_any (p a b : Int) (w : World) (hp : 1 ≤ p) (hp2 : p ≤ 1073741824) (ha : 0 ≤ a) (ha2 : a < p) (hb : 0 ≤ b) (hb2 : b < p) :
    Calls Try.prog 41 #[.int .i64 p, .int .i64 a, .int .i64 b] w fun e w' => e = .returned (.int .i64 ((a + b) % p)) ∧ w = w' := by
  go_enter Try.func41, Try.ntmps41
  go_wp2_with (go_at_call 48; refine (element_any _ _ _ hp hp2).mono ?_; rintro e w' ⟨rfl, rfl⟩)
  go_ret
  exact ⟨rfl, rfl⟩
theorem sub_any (p a b : Int) (w : World) (hp : 1 ≤ p) (hp2 : p ≤ 1073741824) (ha : 0 ≤ a) (ha2 : a < p) (hb : 0 ≤ b) (hb2 : b < p) :
    Calls Try.prog 36 #[.int .i64 p, .int .i64 a, .int .i64 b] w fun e w' => e = .returned (.int .i64 ((a - b) % p)) ∧ w = w' := by
  go_enter Try.func36, Try.ntmps36
  go_wp2_with (go_at_call 48; refine (element_any _ _ _ hp hp2).mono ?_; rintro e w' ⟨rfl, rfl⟩)
  go_ret
  exact ⟨rfl, rfl⟩
theorem mul_bound {a b p : Int} (hp2 : p ≤ 1073741824) (ha : 0 ≤ a) (ha2 : a < p) (hb : 0 ≤ b) (hb2 : b < p) : 0 ≤ a * b ∧ a * b ≤ 1152921504606846976 := by
  have h1 := Int.mul_nonneg ha hb
  have h2 : a * b ≤ 1073741824 * 1073741824 := Int.mul_le_mul (by omega) (by omega) hb (by omega)
  exact ⟨h1, by omega⟩
theorem mul_any (p a b : Int) (w : World) (hp : 1 ≤ p) (hp2 : p ≤ 1073741824) (ha : 0 ≤ a) (ha2 : a < p) (hb : 0 ≤ b) (hb2 : b < p) :
    Calls Try.prog 35 #[.int .i64 p, .int .i64 a, .int .i64 b] w fun e w' => e = .returned (.int .i64 (a * b % p)) ∧ w = w' := by
  have hm := mul_bound hp2 ha ha2 hb hb2
  obtain ⟨hm1, hm2⟩ := hm
  go_enter Try.func35, Try.ntmps35
  go_wp2_with (go_at_call 48; refine (element_any _ _ _ hp hp2).mono ?_; rintro e w' ⟨rfl, rfl⟩)
  go_ret
  exact ⟨rfl, rfl⟩
end Go.Proofs.Ytpohhgbmdgjipaa
