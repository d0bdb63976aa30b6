
/- The mathematics of days of other years: how far Add goes, when days are within years of each other, and that Add leads back. -/
import Derived.Test.YtogpjoldfcmbfaaDoorYWit
namespace Go.Proofs.YtogpjoldfcmbfaaDoor.Cal
set_option linter.unusedVariables false

theorem ann_self {x : Int} (h : dayB x = true) : annV (dY x) (dM x) (dD x) = x := by
  have hd := isDate_d h
  unfold annV
  have := hd.d2
  have := hd.eq
  rw [Int.min_eq_left (by omega)]; omega

theorem ann_ok {x k : Int} (h : dayB x = true) (h1 : 1 ≤ dY x + k) (h2 : dY x + k ≤ 9999) : okD (dY x + k) (dM x) (min (dD x) (lenD (dY x + k) (dM x))) = true := by
  have hd := isDate_d h
  have := len_range (dY x + k) (dM x)
  have := hd.d1
  exact (okD_iff _ _ _).2 ⟨h1, h2, hd.m1, hd.m2, by omega, by omega⟩

theorem add_in {x k : Int} (h : dayB x = true) (hk : -9999 ≤ k) (hk2 : k ≤ 9999) (h1 : 1 ≤ dY x + k) (h2 : dY x + k ≤ 9999) : addE 2 10 x k = 0 ∧ addV x k = annV (dY x + k) (dM x) (dD x) := by
  have hb : addB x k = true := (addB_iff x k).2 ⟨h, hk, hk2⟩
  have hok := ann_ok h h1 h2
  unfold addE addV dayE dayV annV
  rw [if_pos hb, if_pos hb, if_pos hok, if_pos hok]
  exact ⟨rfl, rfl⟩
theorem add_out {x k : Int} (h : dayB x = true) (hk : -9999 ≤ k) (hk2 : k ≤ 9999) (h2 : 9999 < dY x + k) : addE 2 10 x k = 10 ∧ addV x k = 0 := by
  have hb : addB x k = true := (addB_iff x k).2 ⟨h, hk, hk2⟩
  have hok : ¬ okD (dY x + k) (dM x) (min (dD x) (lenD (dY x + k) (dM x))) = true := fun hc => by have := (okD_iff _ _ _).1 hc; omega
  unfold addE addV dayE dayV
  rw [if_pos hb, if_pos hb, if_neg hok, if_neg hok]
  exact ⟨rfl, rfl⟩

theorem ann_far {x : Int} (h : dayB x = true) (k : Nat) (h2 : dY x + k ≤ 9999) : x + 365 * k ≤ annV (dY x + k) (dM x) (dD x) ∧ annV (dY x + k) (dM x) (dD x) ≤ x + 366 * k := by
  have hd := isDate_d h
  have hl := len_range (dY x) (dM x)
  have := ann_many (dY x) (dM x) (dD x) hd.y1 hd.m1 hd.m2 hd.d1 (by have := hd.d2; omega) k h2
  rwa [ann_self h] at this

theorem ann_grow {x : Int} (h : dayB x = true) (k j : Nat) (h2 : dY x + k + j ≤ 9999) : annV (dY x + k) (dM x) (dD x) + 365 * j ≤ annV (dY x + k + j) (dM x) (dD x) := by
  have hd := isDate_d h
  have hl := len_range (dY x) (dM x)
  exact (ann_many (dY x + k) (dM x) (dD x) (by have := hd.y1; omega) hd.m1 hd.m2 hd.d1 (by have := hd.d2; omega) j h2).1

/-- A day of the last years. -/
theorem late {x : Int} (h : dayB x = true) (k : Nat) (h2 : 9999 < dY x + k) : 3652058 - 366 * (k : Int) < x := by
  have hd := isDate_d h
  have hy := hd.year_lt
  obtain ⟨j, hj⟩ : ∃ j : Nat, dY x + j = 9999 := ⟨(9999 - dY x).toNat, by have := hd.y2; omega⟩
  have hm := (ann_many (dY x) 1 1 hd.y1 (by omega) (by omega) (by omega) (by omega) j (by omega)).2
  have e : ∀ y, annV y 1 1 = firstD y := fun y => by
    unfold annV
    have := len_range y 1
    rw [show cum y (1 - 1 : Int).toNat = 0 from rfl]; omega
  rw [e, e, hj] at hm
  have : firstD 9999 = 3651694 := by decide
  omega

theorem within_sym (a b k : Int) : withinB b a k = withinB a b k := by
  unfold withinB
  rw [Int.min_comm b a, Int.max_comm b a, Bool.and_comm (dayB b)]

/-- When two days are within k years. -/
theorem within_iff {a b : Int} {k : Nat} (ha : dayB a = true) (hb : dayB b = true) (hk : k ≤ 100) :
    withinB a b k = true ↔ (9999 < dY (min a b) + k ∨ (dY (min a b) + k ≤ 9999 ∧ max a b ≤ annV (dY (min a b) + k) (dM (min a b)) (dD (min a b)))) := by
  have hm := min_day ha hb
  have h1 := (isDate_d hm).y1
  rw [within_ok ⟨ha, hb, by omega, by omega⟩]
  by_cases h : dY (min a b) + k ≤ 9999
  · obtain ⟨e1, e2⟩ := add_in hm (by omega) (by omega) (by omega) h
    rw [e1, e2]
    simp only [Bool.or_eq_true, decide_eq_true_eq]
    constructor
    · rintro (h | h)
      · cases h
      · exact .inr ⟨by omega, h⟩
    · rintro (h | h)
      · omega
      · exact .inr h.2
  · obtain ⟨e1, e2⟩ := add_out (k := k) hm (by omega) (by omega) (by omega)
    rw [e1]
    simp only [beq_self_eq_true, Bool.true_or, true_iff]
    exact .inl (by omega)

theorem within_more {a b : Int} {k j : Nat} (ha : dayB a = true) (hb : dayB b = true) (hk : k + j ≤ 100) (h : withinB a b k = true) : withinB a b ((k : Int) + j) = true := by
  have e : ((k : Int) + j) = ((k + j : Nat) : Int) := by omega
  rw [e, within_iff ha hb hk]
  have h := (within_iff ha hb (by omega)).1 h
  by_cases hy : dY (min a b) + ((k + j : Nat) : Int) ≤ 9999
  · refine .inr ⟨hy, ?_⟩
    rcases h with h | ⟨_, h⟩
    · omega
    · have := ann_grow (min_day ha hb) k j (by omega)
      rw [show dY (min a b) + ((k + j : Nat) : Int) = dY (min a b) + k + j by omega]
      omega
  · exact .inl (by omega)

theorem within_self {a : Int} {k : Nat} (ha : dayB a = true) (hk : k ≤ 100) : withinB a a k = true := by
  rw [within_iff ha ha hk, Int.min_self, Int.max_self]
  by_cases hy : dY a + (k : Int) ≤ 9999
  · exact .inr ⟨hy, by have := (ann_far ha k hy).1; omega⟩
  · exact .inl (by omega)

theorem within_near {a b : Int} {k : Nat} (ha : dayB a = true) (hb : dayB b = true) (hk : k ≤ 100) (h : max a b - min a b ≤ 365 * k) : withinB a b k = true := by
  rw [within_iff ha hb hk]
  by_cases hy : dY (min a b) + (k : Int) ≤ 9999
  · exact .inr ⟨hy, by have := (ann_far (min_day ha hb) k hy).1; omega⟩
  · exact .inl (by omega)

theorem within_far {a b : Int} {k : Nat} (ha : dayB a = true) (hb : dayB b = true) (hk : k ≤ 100) (h : withinB a b k = true) : max a b - min a b ≤ 366 * k ∨ 3652058 - 366 * (k : Int) < min a b := by
  rcases (within_iff ha hb hk).1 h with h | ⟨h1, h2⟩
  · exact .inr (late (min_day ha hb) k h)
  · left; have := (ann_far (min_day ha hb) k h1).2; omega

/-- Add leads back, but for February 29. -/
theorem add_back {x : Int} (k : Nat) (h : dayB x = true) (hk : k ≤ 9999) (h2 : dY x + k ≤ 9999) :
    addE 2 10 (addV x k) (-(k : Int)) = 0 ∧ (addV (addV x k) (-(k : Int)) = x ∨ (addV (addV x k) (-(k : Int)) = x - 1 ∧ dM x = 2 ∧ dD x = 29)) := by
  have hd := isDate_d h
  have h1 := hd.y1
  obtain ⟨e1, e2⟩ := add_in (k := k) h (by omega) (by omega) (by omega) h2
  have hok := ann_ok (k := k) h (by omega) h2
  have hz : IsDate (addV x k) (dY x + k) (dM x) (min (dD x) (lenD (dY x + k) (dM x))) := by
    have := isDate_v hok
    rwa [show dayV (dY x + k) (dM x) (min (dD x) (lenD (dY x + k) (dM x))) = addV x k by
      unfold addV; rw [if_pos ((addB_iff x k).2 ⟨h, by omega, by omega⟩)]] at this
  have hzb : dayB (addV x k) = true := (dayB_iff _).2 hz.range
  obtain ⟨q1, q2, q3⟩ := d_of_isDate hz
  generalize addV x k = z at *
  have hyy : dY z + -(k : Int) = dY x := by omega
  obtain ⟨f1, f2⟩ := add_in (k := -(k : Int)) hzb (by omega) (by omega) (by omega) (by omega)
  refine ⟨f1, ?_⟩
  rw [f2, hyy, q2, q3]
  have hd2 := hd.d2
  have hd1 := hd.d1
  have hx := hd.eq
  by_cases hl : dD x ≤ lenD (dY x + k) (dM x)
  · left
    rw [Int.min_eq_left hl]
    exact ann_self h
  · have hm2 : dM x = 2 := by
      by_cases hm : dM x = 2
      · exact hm
      · rw [len_big (dY x) (dY x + k) (dM x) hm] at hd2; omega
    rw [hm2] at hl hd2 hx ⊢
    have a1 := len_feb (dY x)
    have a2 := len_feb (dY x + k)
    have b1 : lenD (dY x) 2 = 28 ∨ lenD (dY x) 2 = 29 := by rw [a1]; split <;> omega
    have b2 : lenD (dY x + k) 2 = 28 ∨ lenD (dY x + k) 2 = 29 := by rw [a2]; split <;> omega
    right
    refine ⟨?_, rfl, by omega⟩
    unfold annV
    omega
end Go.Proofs.YtogpjoldfcmbfaaDoor.Cal
