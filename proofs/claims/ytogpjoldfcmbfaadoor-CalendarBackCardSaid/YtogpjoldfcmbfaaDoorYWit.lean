
/- Which days are within some years: the program's Within, and the document's; the layer's word that a call is not asleep. -/
import Derived.Test.YtogpjoldfcmbfaaDoorYAdd
namespace Go.Proofs.YtogpjoldfcmbfaaDoor
open Go.RowKit
open Cal
set_option linter.unusedVariables false

theorem Cal.within_bad {a b k : Int} (h : ¬ (dayB a = true ∧ dayB b = true ∧ 0 ≤ k ∧ k ≤ 100)) : withinB a b k = false := by
  cases hx : withinB a b k
  · rfl
  · exfalso; apply h
    unfold withinB at hx
    simp only [Bool.and_eq_true, decide_eq_true_eq] at hx
    exact ⟨hx.1.1.1.1, hx.1.1.1.2, hx.1.1.2, hx.1.2⟩
theorem Cal.within_ok {a b k : Int} (h : dayB a = true ∧ dayB b = true ∧ 0 ≤ k ∧ k ≤ 100) : withinB a b k = (addE 2 10 (min a b) k == 10 || decide (max a b ≤ addV (min a b) k)) := by
  obtain ⟨h1, h2, h3, h4⟩ := h
  unfold withinB
  rw [h1, h2]; simp [h3, h4]
theorem Cal.add_code {n k : Int} (h : addB n k = true) : addE 2 10 n k = 0 ∨ addE 2 10 n k = 10 := by
  unfold addE; rw [if_pos h]; unfold dayE; split
  · exact .inl rfl
  · exact .inr rfl
theorem Cal.min_day {a b : Int} (h1 : dayB a = true) (h2 : dayB b = true) : dayB (min a b) = true := by
  have := (dayB_iff a).1 h1; have := (dayB_iff b).1 h2
  exact (dayB_iff _).2 ⟨by omega, by omega⟩

set_option maxHeartbeats 2000000 in
theorem within_any (a b k : Int) (w : World) (hw : Lens w) :
    Calls Tryd.prog 24 #[.int .i64 a, .int .i64 b, .int .i64 k] w fun e w' => e = .returned (.bool (withinB a b k)) ∧ Below w.heap.size w w' := by
  have HI := Lib.hid (isDay_any a w)
  have HI2 := Lib.hid (isDay_any b w)
  by_cases h : dayB a = true ∧ dayB b = true ∧ 0 ≤ k ∧ k ≤ 100
  · rw [within_ok h]
    obtain ⟨h1, h2, h3, h4⟩ := h
    rw [h1] at HI
    rw [h2] at HI2
    have HMN := min_lay Tryd.prog a b
    have HMX := max_lay Tryd.prog a b
    have HA := Lib.hid (add_days (min a b) k w hw)
    generalize addE 2 10 (min a b) k = ee at *
    generalize addV (min a b) k = V at *
    generalize min a b = MN at *
    generalize max a b = MX at *
    clear h1 h2 hw
    go_enter Tryd.func24, Tryd.ntmps24
    go_wp2_with fail
    refine HI.out.mono ?_
    rintro e w' ⟨rfl, rfl⟩
    go_wp2_with fail
    refine HI2.out.mono ?_
    rintro e w' ⟨rfl, rfl⟩
    go_wp2_with fail
    refine HA.out.mono ?_
    rintro e w1 ⟨rfl, hb⟩
    have HB := Lib.hid hb
    clear hb HI HI2 HA
    cases hz : (ee == 10)
    · by_cases hy : MX ≤ V
      · go_wp2
        go_ret
        exact ⟨ret_bool (by rw [hz]; simp <;> omega), HB.out⟩
      · go_wp2
        go_ret
        exact ⟨ret_bool (by rw [hz]; simp <;> omega), HB.out⟩
    · go_wp2
      go_ret
      exact ⟨ret_bool (by rw [hz]; rfl), HB.out⟩
  · rw [within_bad h]
    have hx : dayB a = false ∨ (dayB a = true ∧ (dayB b = false ∨ (dayB b = true ∧ (k < 0 ∨ (¬ k < 0 ∧ 100 < k))))) := by
      cases ha : dayB a
      · exact .inl rfl
      · right; refine ⟨rfl, ?_⟩
        cases hb : dayB b
        · exact .inl rfl
        · right; refine ⟨rfl, ?_⟩
          have : ¬ (0 ≤ k ∧ k ≤ 100) := fun hc => h ⟨ha, hb, hc.1, hc.2⟩
          omega
    clear h hw
    rcases hx with ha | ⟨ha, hb | ⟨hb, hk⟩⟩
    · rw [ha] at HI
      clear ha HI2
      go_enter Tryd.func24, Tryd.ntmps24
      go_wp2_with fail
      refine HI.out.mono ?_
      rintro e w' ⟨rfl, rfl⟩
      go_wp2
      go_ret
      exact ⟨rfl, Below.refl _ _⟩
    · rw [ha] at HI
      rw [hb] at HI2
      clear ha hb
      go_enter Tryd.func24, Tryd.ntmps24
      go_wp2_with fail
      refine HI.out.mono ?_
      rintro e w' ⟨rfl, rfl⟩
      go_wp2_with fail
      refine HI2.out.mono ?_
      rintro e w' ⟨rfl, rfl⟩
      go_wp2
      go_ret
      exact ⟨rfl, Below.refl _ _⟩
    · rw [ha] at HI
      rw [hb] at HI2
      clear ha hb
      rcases hk with hk | ⟨hk, hk2⟩
      all_goals
        go_enter Tryd.func24, Tryd.ntmps24
        go_wp2_with fail
        refine HI.out.mono ?_
        rintro e w' ⟨rfl, rfl⟩
        go_wp2_with fail
        refine HI2.out.mono ?_
        rintro e w' ⟨rfl, rfl⟩
        go_wp2
        go_ret
        exact ⟨rfl, Below.refl _ _⟩

set_option maxHeartbeats 2000000 in
theorem rwithin_any (a b k : Int) (w : World) :
    Calls Tryd.prog 25 #[.int .i64 a, .int .i64 b, .int .i64 k] w fun e w' => e = .returned (.bool (withinB a b k)) ∧ w = w' := by
  have HMN := min_lay Tryd.prog a b
  have HMX := max_lay Tryd.prog a b
  by_cases h : dayB a = true ∧ dayB b = true ∧ 0 ≤ k ∧ k ≤ 100
  · rw [within_ok h]
    obtain ⟨h1, h2, h3, h4⟩ := h
    have g1 := (dayB_iff a).1 h1
    have g2 := (dayB_iff b).1 h2
    have m1 : ¬ min a b < 0 := by omega
    have m2 : ¬ 3652058 < max a b := by omega
    have HA := Lib.hid (radd_days (min a b) k w)
    have hcode := add_code ((addB_iff (min a b) k).2 ⟨min_day h1 h2, by omega, by omega⟩)
    generalize addE 2 10 (min a b) k = ee at *
    generalize addV (min a b) k = V at *
    generalize min a b = MN at *
    generalize max a b = MX at *
    clear h1 h2 g1 g2
    go_enter Tryd.func25, Tryd.ntmps25
    go_wp2_with fail
    refine HA.out.mono ?_
    rintro e w1 ⟨rfl, rfl⟩
    clear HA
    rcases hcode with rfl | rfl
    · by_cases hy : MX ≤ V
      · go_wp2
        go_ret
        exact ⟨ret_bool (by simp <;> omega), rfl⟩
      · go_wp2
        go_ret
        exact ⟨ret_bool (by simp <;> omega), rfl⟩
    · go_wp2
      go_ret
      exact ⟨rfl, rfl⟩
  · rw [within_bad h]
    have hx : min a b < 0 ∨ (¬ min a b < 0 ∧ (3652058 < max a b ∨ (¬ 3652058 < max a b ∧ (k < 0 ∨ (¬ k < 0 ∧ 100 < k))))) := by
      have hq : ¬ ((0 ≤ a ∧ a ≤ 3652058) ∧ (0 ≤ b ∧ b ≤ 3652058) ∧ 0 ≤ k ∧ k ≤ 100) := fun hc => h ⟨(dayB_iff a).2 hc.1, (dayB_iff b).2 hc.2.1, hc.2.2.1, hc.2.2.2⟩
      omega
    generalize min a b = MN at *
    generalize max a b = MX at *
    clear h
    rcases hx with hx | ⟨hx, hx2 | ⟨hx2, hk | ⟨hk, hk2⟩⟩⟩
    all_goals
      go_enter Tryd.func25, Tryd.ntmps25
      go_wp2
      go_ret
      exact ⟨rfl, rfl⟩

set_option maxHeartbeats 2000000 in
theorem awake10_any (w : World) (hw : Lens w) : Calls Tryd.prog 16 #[] w fun e w' => e = .returned (.bool true) ∧ w = w' := by
  have HA := Lib.hid (day_any 1 1 1 w hw)
  have HB := Lib.hid (day_any 1 12 31 w hw)
  have HC := Lib.hid (leap_any 2000 w)
  have HD := Lib.hid (leap_any 1900 w)
  rw [show dayV 1 1 1 = 0 by decide, show dayE 10 1 1 1 = 0 by decide] at HA
  rw [show dayV 1 12 31 = 364 by decide, show dayE 10 1 12 31 = 0 by decide] at HB
  rw [show leapB 2000 = true by decide] at HC
  rw [show leapB 1900 = false by decide] at HD
  clear hw
  go_enter Tryd.func16, Tryd.ntmps16
  go_wp2_with fail
  refine HA.out.mono ?_
  rintro e w' ⟨rfl, rfl⟩
  go_wp2_with fail
  refine HB.out.mono ?_
  rintro e w' ⟨rfl, rfl⟩
  go_wp2_with fail
  refine HC.out.mono ?_
  rintro e w' ⟨rfl, rfl⟩
  go_wp2_with fail
  refine HD.out.mono ?_
  rintro e w' ⟨rfl, rfl⟩
  go_wp2
  go_ret
  exact ⟨rfl, rfl⟩
end Go.Proofs.YtogpjoldfcmbfaaDoor
