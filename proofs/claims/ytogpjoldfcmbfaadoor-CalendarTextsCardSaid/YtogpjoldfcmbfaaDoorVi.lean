
/- Numbers in groups of seven bits: mathematics alone. -/
import Derived.Laws.BitsAllLaws
namespace Go.Proofs.YtogpjoldfcmbfaaDoor
namespace Vi
set_option linter.unusedVariables false

/-- A signed number as one without a sign. -/
def zz (n : Int) : Nat := if 0 ≤ n then (2 * n).toNat else (-2 * n - 1).toNat
def uz (u : Nat) : Int := if u % 2 = 1 then -((u / 2 : Nat) : Int) - 1 else ((u / 2 : Nat) : Int)
theorem uz_zz (n : Int) : uz (zz n) = n := by
  unfold uz zz
  split <;> split <;> omega
theorem zz_uz (u : Nat) : zz (uz u) = u := by
  unfold uz zz
  split <;> split <;> omega
theorem zz_lt (n : Int) (h : -9223372036854775808 ≤ n ∧ n ≤ 9223372036854775807) : zz n < 18446744073709551616 := by
  unfold zz; split <;> omega
theorem uz_in (u : Nat) (h : u < 18446744073709551616) : -9223372036854775808 ≤ uz u ∧ uz u ≤ 9223372036854775807 := by
  unfold uz; split <;> omega

/-- The groups of a number, the lowest first. -/
def grp (u : Nat) : List UInt8 := if h : u < 128 then [UInt8.ofNat u] else UInt8.ofNat (u % 128 + 128) :: grp (u / 128)
termination_by u
decreasing_by omega
theorem grp_lo {u : Nat} (h : u < 128) : grp u = [UInt8.ofNat u] := by rw [grp, dif_pos h]
theorem grp_hi {u : Nat} (h : ¬ u < 128) : grp u = UInt8.ofNat (u % 128 + 128) :: grp (u / 128) := by rw [grp, dif_neg h]
theorem grp_pos (u : Nat) : 1 ≤ (grp u).length := by
  rw [grp]; split <;> simp
theorem grp_len : ∀ (k u : Nat), u < 128 ^ k → 1 ≤ k → (grp u).length ≤ k
  | 0, _, _, h => by omega
  | k + 1, u, h, _ => by
    by_cases h1 : u < 128
    · rw [grp_lo h1]; simp
    · rw [grp_hi h1, List.length_cons]
      have hk : 1 ≤ k := by
        rcases Nat.eq_zero_or_pos k with rfl | h2
        · simp at h; omega
        · exact h2
      have := grp_len k (u / 128) (by rw [Nat.pow_succ] at h; omega) hk
      omega
theorem grp_len10 {u : Nat} (h : u < 18446744073709551616) : (grp u).length ≤ 10 := grp_len 10 u (by
  have : (128 : Nat) ^ 10 = 1180591620717411303424 := by decide
  omega) (by omega)

/-- What reading came to: nothing more, a fault of form, or a number and how many bytes it takes. -/
inductive Got
  | missing
  | form
  | got (u n : Nat)
deriving DecidableEq
/-- Reading of groups: i have been read, they make u. -/
def rd : List UInt8 → Nat → Nat → Got
  | [], _, _ => .missing
  | c :: r, i, u =>
    if (i = 9 ∧ 1 < c.toNat) ∨ (0 < i ∧ c.toNat = 0) then .form
    else if 128 ≤ c.toNat then rd r (i + 1) (u + c.toNat % 128 * 128 ^ i) else .got (u + c.toNat % 128 * 128 ^ i) (i + 1)
theorem rd_grp (rest : List UInt8) : ∀ (k v i u : Nat), v < 128 ^ k → v * 128 ^ i < 18446744073709551616 → (0 < i → 0 < v) → rd (grp v ++ rest) i u = .got (u + v * 128 ^ i) (i + (grp v).length)
  | 0, v, i, u, h0, h1, h2 => by
    have : v = 0 := by simpa using h0
    subst this
    have : i = 0 := by
      rcases Nat.eq_zero_or_pos i with h | h
      · exact h
      · exact absurd (h2 h) (by omega)
    subst this
    rw [grp_lo (by omega)]
    simp [rd]
  | k + 1, v, i, u, h0, h1, h2 => by
    have hi9 : i = 9 → v ≤ 1 := fun e => by
      subst e
      have : (128 : Nat) ^ 9 = 9223372036854775808 := by decide
      rw [this] at h1
      omega
    by_cases hv : v < 128
    · rw [grp_lo hv]
      have hc : (UInt8.ofNat v).toNat = v := by simp; omega
      rw [List.singleton_append, rd, hc, if_neg (by rintro (⟨e, h⟩ | ⟨h, e⟩); · have := hi9 e; omega
                                                    · have := h2 h; omega), if_neg (by omega), Nat.mod_eq_of_lt hv]
      rfl
    · have hc : (UInt8.ofNat (v % 128 + 128)).toNat = v % 128 + 128 := by simp; omega
      rw [grp_hi hv, List.cons_append, rd, hc, if_neg (by rintro (⟨e, h⟩ | ⟨h, e⟩); · have := hi9 e; omega
                                                          · omega), if_pos (by omega), rd_grp rest k (v / 128) (i + 1) _ (by rw [Nat.pow_succ] at h0; omega) ?_ (fun _ => by omega)]
      · rw [List.length_cons]
        congr 1
        · have e1 : (v % 128 + 128) % 128 = v % 128 := by omega
          have e2 : v / 128 * 128 ^ (i + 1) = (v / 128 * 128) * 128 ^ i := by rw [Nat.pow_succ]; rw [Nat.mul_comm (128 ^ i) 128, ← Nat.mul_assoc]
          rw [e1, e2, Nat.add_assoc, ← Nat.add_mul]
          congr 2
          omega
        · omega
      · have e2 : v / 128 * 128 ^ (i + 1) = (v / 128 * 128) * 128 ^ i := by rw [Nat.pow_succ]; rw [Nat.mul_comm (128 ^ i) 128, ← Nat.mul_assoc]
        rw [e2]
        exact Nat.lt_of_le_of_lt (Nat.mul_le_mul_right _ (by omega)) h1
/-- What was written is read, whatever stands behind. -/
theorem rd_zz (n : Int) (h : -9223372036854775808 ≤ n ∧ n ≤ 9223372036854775807) (rest : List UInt8) : rd (grp (zz n) ++ rest) 0 0 = .got (zz n) (grp (zz n)).length := by
  have h1 := zz_lt n h
  have h2 := rd_grp rest 10 (zz n) 0 0 (by
    have : (128 : Nat) ^ 10 = 1180591620717411303424 := by decide
    omega) (by simp; exact h1) (fun h => absurd h (by omega))
  simpa using h2
/-- What is read stands there, in the only way. -/
theorem rd_only : ∀ (l : List UInt8) (i u v n : Nat), rd l i u = .got v n → ∃ x k, v = u + x * 128 ^ i ∧ n = i + k ∧ 1 ≤ k ∧ l.take k = grp x ∧ k ≤ l.length ∧ (0 < i → 0 < x)
  | [], i, u, v, n, h => by cases h
  | c :: r, i, u, v, n, h => by
    rw [rd] at h
    split at h
    · cases h
    · rename_i hf
      have hcc : UInt8.ofNat c.toNat = c := by simp
      split at h
      · rename_i hc
        obtain ⟨x, k, rfl, rfl, hk, ht, hl, hx⟩ := rd_only r (i + 1) _ v n h
        have hx0 := hx (by omega)
        have hlt := c.toNat_lt
        refine ⟨c.toNat % 128 + 128 * x, k + 1, ?_, by omega, by omega, ?_, by rw [List.length_cons]; omega, fun _ => by omega⟩
        · rw [Nat.add_mul, Nat.pow_succ, Nat.add_assoc]
          congr 2
          rw [Nat.mul_comm 128 x, Nat.mul_assoc, Nat.mul_comm (128 ^ i) 128]
        · rw [List.take_succ_cons, ht, grp_hi (u := c.toNat % 128 + 128 * x) (by omega)]
          congr 1
          · rw [show (c.toNat % 128 + 128 * x) % 128 + 128 = c.toNat by omega, hcc]
          · rw [show (c.toNat % 128 + 128 * x) / 128 = x by omega]
      · rename_i hc
        simp only [Got.got.injEq] at h
        obtain ⟨rfl, rfl⟩ := h
        refine ⟨c.toNat, 1, by rw [Nat.mod_eq_of_lt (by omega)], rfl, by omega, ?_, by rw [List.length_cons]; omega, fun h => ?_⟩
        · rw [List.take_succ_cons, List.take_zero, grp_lo (by omega), hcc]
        · by_cases e : c.toNat = 0
          · exact absurd (.inr ⟨h, e⟩) hf
          · omega
end Vi
end Go.Proofs.YtogpjoldfcmbfaaDoor
