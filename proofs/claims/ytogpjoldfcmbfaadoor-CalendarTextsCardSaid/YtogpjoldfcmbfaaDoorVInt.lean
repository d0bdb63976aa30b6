
/- Numbers read: the document's Int. -/
import Derived.Test.YtogpjoldfcmbfaaDoorVPut
import Derived.OwnWalk
namespace Go.Proofs.YtogpjoldfcmbfaaDoor
open Go.RowKit
set_option linter.unusedVariables false

/-- What is read at a place: number, place after it, error. -/
def gotI (a : Int) : Vi.Got → Int × Int × Int
  | .missing => (0, a, 5)
  | .form => (0, a, 4)
  | .got u k => (Vi.uz u, a + (k : Int), 0)
def intR (l : List UInt8) (a : Int) : Int × Int × Int := if a < 0 ∨ (l.length : Int) < a then (0, a, 2) else gotI a (Vi.rd (l.drop a.toNat) 0 0)
def tri (r : Int × Int × Int) : Ending := .returned (.tuple #[.int .i64 r.1, .int .i64 r.2.1, .int .i64 r.2.2])
theorem rd_nil {l : List UInt8} {p i u : Nat} (h : l.length ≤ p) : Vi.rd (l.drop p) i u = .missing := by
  rw [List.drop_eq_nil_of_le h]; rfl
theorem rd_step {l : List UInt8} {p i u : Nat} (h : p < l.length) : Vi.rd (l.drop p) i u = if (i = 9 ∧ 1 < (l.getD p 0).toNat) ∨ (0 < i ∧ (l.getD p 0).toNat = 0) then .form
    else if 128 ≤ (l.getD p 0).toNat then Vi.rd (l.drop (p + 1)) (i + 1) (u + (l.getD p 0).toNat % 128 * 128 ^ i) else .got (u + (l.getD p 0).toNat % 128 * 128 ^ i) (i + 1) := by
  have e : l.drop p = l.getD p 0 :: l.drop (p + 1) := by
    rw [List.drop_eq_getElem_cons h]
    simp [List.getD, h]
  rw [e, Vi.rd]
theorem u8_and127f : ∀ r : Fin 256, (r.val &&& 127) = r.val % 128 := by decide +kernel
theorem u8_and127 (r : Nat) (h : r < 256) : bits .and .u8 (r : Int) 127 = ((r % 128 : Nat) : Int) := by
  have h1 := u8_and_nat r 127 h (by omega)
  rw [show r &&& 127 = r % 128 from u8_and127f ⟨r, h⟩] at h1
  exact h1
theorem or_grp (u m i : Nat) (hu : u < 128 ^ i) (h : u + m * 128 ^ i < 18446744073709551616) : bits .or .u64 (u : Int) ((m * 128 ^ i : Nat) : Int) = ((u + m * 128 ^ i : Nat) : Int) := by
  rw [u64_or_nat _ _ (by omega) (by omega)]
  have e : (128 : Nat) ^ i = 2 ^ (7 * i) := by rw [Nat.pow_mul]
  rw [e] at hu ⊢
  rw [Nat.mul_comm m, Nat.or_comm, ← Nat.two_pow_add_eq_or_of_lt hu]
  congr 1
  omega
theorem wrap64_eq (n : Int) : wrap64 n = IntKind.i64.wrap n := by
  rw [IntKind.wrap_i64]
  unfold wrap64
  first | rfl | omega
/-- What one group more comes to. -/
theorem grp_room (u c i : Nat) (hi : i ≤ 9) (hu : u < 128 ^ i) (h9 : i = 9 → c ≤ 1) : u + c % 128 * 128 ^ i < 18446744073709551616 ∧ u + c % 128 * 128 ^ i < 128 ^ (i + 1) := by
  have h2 : u + c % 128 * 128 ^ i < 128 ^ (i + 1) := by
    have : c % 128 * 128 ^ i ≤ 127 * 128 ^ i := Nat.mul_le_mul_right _ (by omega)
    rw [Nat.pow_succ]
    omega
  refine ⟨?_, h2⟩
  by_cases e : i = 9
  · subst e
    have := h9 rfl
    have h9 : (128 : Nat) ^ 9 = 9223372036854775808 := by decide
    have : c % 128 * 128 ^ 9 ≤ 1 * 128 ^ 9 := Nat.mul_le_mul_right _ (by omega)
    rw [h9] at hu this ⊢
    omega
  · have : (128 : Nat) ^ (i + 1) ≤ 128 ^ 9 := Nat.pow_le_pow_right (by omega) (by omega)
    have h9 : (128 : Nat) ^ 9 = 9223372036854775808 := by decide
    omega

end Go.Proofs.YtogpjoldfcmbfaaDoor
