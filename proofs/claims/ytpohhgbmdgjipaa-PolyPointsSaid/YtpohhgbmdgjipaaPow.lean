
/- Contracts of package field's powers and inverses, and of the document's answers for them. -/
import Derived.Test.YtpohhgbmdgjipaaArith
import Derived.WalkSmall
import Derived.OpenShut
namespace Go.Proofs.Ytpohhgbmdgjipaa
open Go.RowKit
open Num
set_option linter.unusedVariables false

theorem odd_u64 {k : Nat} (hk : k < 18446744073709551616) (h : k % 2 = 1) : (bits BinOp.and IntKind.u64 (k : Int) 1 == 1) = true := by
  rw [and_one_u64 _ (by omega) (by omega)]; simp; omega
theorem even_u64 {k : Nat} (hk : k < 18446744073709551616) (h : k % 2 = 0) : (bits BinOp.and IntKind.u64 (k : Int) 1 == 1) = false := by
  rw [and_one_u64 _ (by omega) (by omega)]; simp; omega

set_option maxHeartbeats 400000 in
theorem power_any (p a : Int) (n : Nat) (w : World) (hp : 1 ≤ p) (hp2 : p ≤ 1073741824) (ha : 0 ≤ a) (ha2 : a < p) (hn : n < 18446744073709551616) :
    Calls Try.prog 52 #[.int .i64 p, .int .i64 a, .int .u64 n] w fun e w' => e = .returned (.int .i64 (pw p a n)) ∧ w = w' := by
  have e1 : 0 ≤ (1 : Int) % p := Int.emod_nonneg _ (by omega)
  have e2 : (1 : Int) % p < p := Int.emod_lt_of_pos _ (by omega)
  go_enter Try.func52, Try.ntmps52
  go_wp2_with (go_at_call 48; refine (element_any _ _ _ hp hp2).mono ?_; rintro e w' ⟨rfl, rfl⟩)
  go_loop [1, 2, 7] (fun b m t => ∃ x y : Int, ∃ k : Nat, 0 ≤ x ∧ x < p ∧ 0 ≤ y ∧ y < p ∧ k ≤ n ∧ Hid (keep p y x k = pw p a n) ∧ b = .int .i64 x ∧ t = .int .i64 y ∧ m = .int .u64 k) (fun _ m _ => (intOf m).toNat)
  case atStart => exact ⟨a, 1 % p, n, ha, ha2, e1, e2, Nat.le_refl _, Lib.hid (keep_start p a n), rfl, rfl, rfl⟩
  case round =>
    obtain ⟨x, y, k, hx, hx2, hy, hy2, hk, hkeep, rfl, rfl, rfl⟩ := hrel
    have m1 : 0 ≤ x * x % p := Int.emod_nonneg _ (by omega)
    have m2 : x * x % p < p := Int.emod_lt_of_pos _ (by omega)
    by_cases h0 : 0 < k
    · by_cases h1 : k % 2 = 1
      · have hb := odd_u64 (by omega) h1
        have n1 : 0 ≤ y * x % p := Int.emod_nonneg _ (by omega)
        have n2 : y * x % p < p := Int.emod_lt_of_pos _ (by omega)
        have hkeep' := Lib.hid ((keep_odd p y x k h1).trans hkeep.out)
        clear h1
        go_wp2_with (go_at_call 35; refine (mul_any _ _ _ _ hp hp2 (by assumption) (by assumption) (by assumption) (by assumption)).mono ?_; rintro e w' ⟨rfl, rfl⟩)
        go_round
        case rel => exact ⟨x * x % p, y * x % p, k / 2, m1, m2, n1, n2, by omega, hkeep', rfl, rfl, by go_num⟩
        case measure => simp [intOf]; omega
      · have hb := even_u64 (k := k) (by omega) (by omega)
        have hkeep' := Lib.hid ((keep_even p y x k (by omega)).trans hkeep.out)
        clear h1
        go_wp2_with (go_at_call 35; refine (mul_any _ _ _ _ hp hp2 (by assumption) (by assumption) (by assumption) (by assumption)).mono ?_; rintro e w' ⟨rfl, rfl⟩)
        go_round
        case rel => exact ⟨x * x % p, y, k / 2, m1, m2, hy, hy2, by omega, hkeep', rfl, rfl, by go_num⟩
        case measure => simp [intOf]; omega
    · go_wp2
      go_ret
      exact ⟨ret_int (by obtain rfl : k = 0 := (by omega); rw [← hkeep.out, keep_end hy hy2]), rfl⟩

theorem one_emod {p : Int} (hp : 2 ≤ p) : 1 % p = 1 := Int.emod_eq_of_lt (by omega) (by omega)

theorem ret_pair {k : IntKind} {a b : Int} {v : Value} (h : a = b) : Ending.returned (.tuple #[.int k a, v]) = .returned (.tuple #[.int k b, v]) := by rw [h]

/-- The inverse of an element that is not 0. -/
theorem inverse_some (p a : Int) (w : World) (hp : 2 ≤ p) (hp2 : p ≤ 1073741824) (ha : 0 < a) (ha2 : a < p) :
    Calls Try.prog 46 #[.int .i64 p, .int .i64 a] w fun e w' => e = .returned (.tuple #[.int .i64 (iv p a), .int .i64 0]) ∧ w = w' := by
  have h1 : (a % p == 0) = false := by rw [Int.emod_eq_of_lt (by omega) ha2]; simp; omega
  obtain ⟨q, rfl⟩ := Int.eq_ofNat_of_zero_le (show 0 ≤ p by omega)
  have hq : ((q : Int) - 2) = ((q - 2 : Nat) : Int) := by omega
  go_enter Try.func46, Try.ntmps46
  go_wp2_with (first
    | (go_at_call 48; refine (element_any _ _ _ (by omega) hp2).mono ?_; rintro e w' ⟨rfl, rfl⟩)
    | (go_at_call 52; refine (power_any _ _ (q - 2) _ (by omega) hp2 (by omega) ha2 (by omega)).mono ?_; rintro e w' ⟨rfl, rfl⟩))
  go_ret2
  exact ⟨ret_pair (by unfold iv; rw [show ((q : Int) - 2).toNat = q - 2 by omega]), rfl⟩
theorem inverse_none (p : Int) (w : World) (hp : 2 ≤ p) (hp2 : p ≤ 1073741824) :
    Calls Try.prog 46 #[.int .i64 p, .int .i64 0] w fun e w' => e = .returned (.tuple #[.int .i64 0, .int .i64 7]) ∧ w = w' := by
  go_enter Try.func46, Try.ntmps46
  go_wp2_with (go_at_call 48; refine (element_any _ _ _ (by omega) hp2).mono ?_; rintro e w' ⟨rfl, rfl⟩)
  go_ret2
  exact ⟨rfl, rfl⟩

/-! ### Pow -/
theorem neg_neg_u64 (m : Nat) (hm : 0 < m) (hm2 : m ≤ 9223372036854775808) : IntKind.u64.wrap (-IntKind.u64.wrap (-(m : Int))) = (m : Int) := by
  rw [IntKind.wrap_u64, IntKind.wrap_u64]
  omega

/-! ### The document's answers -/
theorem mod_twice (n p : Int) (hp : 1 ≤ p) : (n.tmod p + p) % p = n % p := by
  rw [Int.add_emod_right]
  have h3 := Int.mul_tdiv_add_tmod n p
  have h4 : n.tmod p = n - p * n.tdiv p := by omega
  rw [h4, Int.sub_mul_emod_self_left]
theorem mod_any (n p : Int) (w : World) (hp : 1 ≤ p) (hp2 : p ≤ 4611686018427387904) :
    Calls Try.prog 30 #[.int .i64 n, .int .i64 p] w fun e w' => e = .returned (.int .i64 (n % p)) ∧ w = w' := by
  have h1 : -p < n.tmod p := tmod_neg_low n p hp
  have h2 : n.tmod p < p := Int.tmod_lt_of_pos n (by omega)
  have h3 : 0 ≤ n.tmod p + p := by omega
  have H := Lib.hid (mod_twice n p hp)
  have h4 : 0 ≤ (n.tmod p + p) % p := Int.emod_nonneg _ (by omega)
  go_enter Try.func30, Try.ntmps30
  go_wp2
  go_ret
  exact ⟨ret_int H.out, rfl⟩
theorem ref_sub (p a b : Int) (w : World) (hp : 1 ≤ p) (hp2 : p ≤ 1073741824) (ha : 0 ≤ a) (ha2 : a < p) (hb : 0 ≤ b) (hb2 : b < p) :
    Calls Try.prog 39 #[.int .i64 p, .int .i64 a, .int .i64 b] w fun e w' => e = .returned (.int .i64 ((a - b) % p)) ∧ w = w' := by
  have H := Lib.hid (Int.add_emod_right (a - b) p)
  go_enter Try.func39, Try.ntmps39
  go_wp2
  go_ret
  exact ⟨ret_int H.out, rfl⟩
theorem and_one_i64 (k : Nat) (hk : k < 9223372036854775808) : bits BinOp.and IntKind.i64 (k : Int) 1 = ((k % 2 : Nat) : Int) := by
  have h1 : (BitVec.ofInt 64 (k : Int)).toNat = k := by
    rw [BitVec.ofInt_natCast, BitVec.toNat_ofNat]; exact Nat.mod_eq_of_lt (by omega)
  have h2 : (BitVec.ofInt 64 (1 : Int)).toNat = 1 := by decide
  show IntKind.i64.wrap ((BitVec.ofInt 64 (k : Int) &&& BitVec.ofInt 64 (1 : Int)).toNat : Int) = _
  rw [BitVec.toNat_and, h1, h2, Nat.and_one_is_mod, IntKind.wrap_i64]
  omega
theorem odd_i64 {k : Nat} (hk : k < 9223372036854775808) (h : k % 2 = 1) : (bits BinOp.and IntKind.i64 (k : Int) 1 == 1) = true := by
  rw [and_one_i64 _ hk, h]; rfl
theorem even_i64 {k : Nat} (hk : k < 9223372036854775808) (h : k % 2 = 0) : (bits BinOp.and IntKind.i64 (k : Int) 1 == 1) = false := by
  rw [and_one_i64 _ hk, h]; rfl

set_option maxHeartbeats 400000 in
theorem ref_pow (p a n : Int) (w : World) (hp : 2 ≤ p) (hp2 : p ≤ 1073741824) (ha : 0 < a) (ha2 : a < p) (hn : (n == 0) = false) :
    Calls Try.prog 49 #[.int .i64 p, .int .i64 a, .int .i64 n] w fun e w' => e = .returned (.int .i64 (pw p a (n % (p - 1)).toNat)) ∧ w = w' := by
  have h1 : -(p - 1) < n.tmod (p - 1) := tmod_neg_low n (p - 1) (by omega)
  have h2 : n.tmod (p - 1) < p - 1 := Int.tmod_lt_of_pos n (by omega)
  have h3 : 0 ≤ n.tmod (p - 1) + p - 1 := by omega
  have h4 : 0 ≤ (n.tmod (p - 1) + p - 1) % (p - 1) := Int.emod_nonneg _ (by omega)
  have h5 : (n.tmod (p - 1) + p - 1) % (p - 1) < p - 1 := Int.emod_lt_of_pos _ (by omega)
  have h6 : (n.tmod (p - 1) + p - 1) % (p - 1) = n % (p - 1) := by
    have := mod_twice n (p - 1) (by omega)
    rw [← this]; congr 1; omega
  obtain ⟨m0, hm⟩ := Int.eq_ofNat_of_zero_le h4
  have hmp : m0 < p - 1 := by omega
  have e : (n % (p - 1)).toNat = m0 := by rw [← h6, hm]; simp
  rw [e]
  have e1 : 0 ≤ (1 : Int) % p := Int.emod_nonneg _ (by omega)
  have e2 : (1 : Int) % p < p := Int.emod_lt_of_pos _ (by omega)
  have ha0 : (a == 0) = false := by simp; omega
  have HM := Lib.hid hm
  clear h6 e h4 h5 hm
  go_enter Try.func49, Try.ntmps49
  go_wp2
  go_loop [1, 7, 8] (fun b m t => ∃ x y : Int, ∃ k : Nat, 0 ≤ x ∧ x < p ∧ 0 ≤ y ∧ y < p ∧ (k : Int) < p ∧ Hid (keep p y x k = pw p a m0) ∧ b = .int .i64 x ∧ t = .int .i64 y ∧ m = .int .i64 k) (fun _ m _ => (intOf m).toNat)
  case atStart => exact ⟨a, 1 % p, m0, by omega, ha2, e1, e2, by omega, Lib.hid (keep_start p a m0), rfl, rfl, by rw [HM.out]⟩
  case round =>
    obtain ⟨x, y, k, hx, hx2, hy, hy2, hk, hkeep, rfl, rfl, rfl⟩ := hrel
    have m1 : 0 ≤ x * x % p := Int.emod_nonneg _ (by omega)
    have m2 : x * x % p < p := Int.emod_lt_of_pos _ (by omega)
    obtain ⟨m3, m4⟩ := mul_bound hp2 hx hx2 hx hx2
    obtain ⟨m5, m6⟩ := mul_bound hp2 hy hy2 hx hx2
    by_cases h0 : 0 < k
    · by_cases h1 : k % 2 = 1
      · have hb := odd_i64 (k := k) (by omega) h1
        have n1 : 0 ≤ y * x % p := Int.emod_nonneg _ (by omega)
        have n2 : y * x % p < p := Int.emod_lt_of_pos _ (by omega)
        have hkeep' := Lib.hid ((keep_odd p y x k h1).trans hkeep.out)
        clear h1
        go_wp2
        go_round
        case rel => exact ⟨x * x % p, y * x % p, k / 2, m1, m2, n1, n2, by omega, hkeep', rfl, rfl, by go_num⟩
        case measure => simp [intOf]; omega
      · have hb := even_i64 (k := k) (by omega) (by omega)
        have hkeep' := Lib.hid ((keep_even p y x k (by omega)).trans hkeep.out)
        clear h1
        go_wp2
        go_round
        case rel => exact ⟨x * x % p, y, k / 2, m1, m2, hy, hy2, by omega, hkeep', rfl, rfl, by go_num⟩
        case measure => simp [intOf]; omega
    · go_wp2
      go_ret
      exact ⟨ret_int (by obtain rfl : k = 0 := (by omega); rw [← hkeep.out, keep_end hy hy2]), rfl⟩
theorem ref_pow_any (p a n : Int) (w : World) (hp : PrmI p) (hp2 : p ≤ 1073741824) (ha : 0 ≤ a) (ha2 : a < p) :
    Calls Try.prog 49 #[.int .i64 p, .int .i64 a, .int .i64 n] w fun e w' => e = .returned (.int .i64 (pz p a n)) ∧ w = w' := by
  have hp1 := hp.1
  by_cases hn : n = 0
  · subst hn
    have e1 : 0 ≤ (1 : Int) % p := Int.emod_nonneg _ (by omega)
    rw [pz_zero]
    go_enter Try.func49, Try.ntmps49
    go_wp2
    go_ret
    exact ⟨rfl, rfl⟩
  · have hn' : (n == 0) = false := by simp [hn]
    by_cases h0 : 0 < a
    · rw [pz_ref hp h0 ha2]
      exact ref_pow p a n w hp1 hp2 h0 ha2 hn'
    · obtain rfl : a = 0 := by omega
      rw [pz_zero_base hn]
      clear hn
      go_enter Try.func49, Try.ntmps49
      go_wp2
      go_ret
      exact ⟨rfl, rfl⟩
theorem pz_iv {p a : Int} (hp : 2 ≤ p) : pz p a (p - 2) = iv p a := by
  unfold pz iv; rw [if_pos (by omega)]
theorem ref_inverse_some (p a : Int) (w : World) (hp : PrmI p) (hp2 : p ≤ 1073741824) (ha : 0 < a) (ha2 : a < p) :
    Calls Try.prog 38 #[.int .i64 p, .int .i64 a] w fun e w' => e = .returned (.tuple #[.int .i64 (iv p a), .int .i64 0]) ∧ w = w' := by
  have hp1 := hp.1
  have H := Lib.hid (pz_iv (a := a) hp1)
  have h1 : (a == 0) = false := by simp; omega
  go_enter Try.func38, Try.ntmps38
  go_wp2_with (go_at_call 49; refine (ref_pow_any _ _ _ _ hp hp2 (by omega) ha2).mono ?_; rintro e w' ⟨rfl, rfl⟩)
  go_ret2
  exact ⟨ret_pair H.out, rfl⟩
theorem ref_inverse_none (p : Int) (w : World) :
    Calls Try.prog 38 #[.int .i64 p, .int .i64 0] w fun e w' => e = .returned (.tuple #[.int .i64 0, .int .i64 7]) ∧ w = w' := by
  go_enter Try.func38, Try.ntmps38
  go_wp2
  go_ret2
  exact ⟨rfl, rfl⟩
end Go.Proofs.Ytpohhgbmdgjipaa
