
/- The document's leap years, days of a month, number of a date. -/
import Derived.Test.YtogpjoldfcmbfaaDoorYPr2
namespace Go.Proofs.YtogpjoldfcmbfaaDoor
open Go.RowKit
open Cal
set_option linter.unusedVariables false

set_option maxHeartbeats 1000000 in
theorem rleap_any (y : Int) (w : World) :
    Calls Tryd.prog 13 #[.int .i64 y] w fun e w' => e = .returned (.bool (leapB y)) ∧ w = w' := by
  by_cases h1 : 1 ≤ y
  · by_cases h2 : y ≤ 9999
    · obtain ⟨b1, e1⟩ : ∃ b, decide (y % 4 = 0) = b := ⟨_, rfl⟩
      obtain ⟨b2, e2⟩ : ∃ b, decide (y % 100 = 0) = b := ⟨_, rfl⟩
      obtain ⟨b3, e3⟩ : ∃ b, decide (y % 400 = 0) = b := ⟨_, rfl⟩
      have HR : Hid (leapB y = (b1 && (!b2 || b3))) := by
        show _ = _
        unfold leapB; rw [e1, e2, e3]; simp [h1, h2]
      have t1 : y.tmod 4 = y % 4 := Int.tmod_eq_emod_of_nonneg (by omega)
      have t2 : y.tmod 100 = y % 100 := Int.tmod_eq_emod_of_nonneg (by omega)
      have t3 : y.tmod 400 = y % 400 := Int.tmod_eq_emod_of_nonneg (by omega)
      have f1 : (y % 4 == 0) = b1 := by rw [← e1]; exact (Bool.beq_eq_decide_eq _ _)
      have f2 : (y % 100 == 0) = b2 := by rw [← e2]; exact (Bool.beq_eq_decide_eq _ _)
      have f2' : (y % 100 != 0) = !b2 := by rw [← f2]; rfl
      have f3 : (y % 400 == 0) = b3 := by rw [← e3]; exact (Bool.beq_eq_decide_eq _ _)
      rw [HR.out]
      have r1 := Int.emod_nonneg y (show (4 : Int) ≠ 0 by omega)
      have r2 := Int.emod_nonneg y (show (100 : Int) ≠ 0 by omega)
      have r3 := Int.emod_nonneg y (show (400 : Int) ≠ 0 by omega)
      have s1 := Int.emod_lt_of_pos y (show (0 : Int) < 4 by omega)
      have s2 := Int.emod_lt_of_pos y (show (0 : Int) < 100 by omega)
      have s3 := Int.emod_lt_of_pos y (show (0 : Int) < 400 by omega)
      clear HR e1 e2 e3
      generalize y % 4 = q1 at *
      generalize y % 100 = q2 at *
      generalize y % 400 = q3 at *
      go_enter Tryd.func13, Tryd.ntmps13
      cases b1
      · go_wp2
        go_ret
        exact ⟨rfl, rfl⟩
      cases b2
      · go_wp2
        go_ret
        exact ⟨rfl, rfl⟩
      · go_wp2
        go_ret
        exact ⟨ret_bool (by simp), rfl⟩
    · have HR : Hid (leapB y = false) := by show _ = _; unfold leapB; simp [h2]
      rw [HR.out]
      go_enter Tryd.func13, Tryd.ntmps13
      go_wp2
      go_ret
      exact ⟨rfl, rfl⟩
  · have HR : Hid (leapB y = false) := by show _ = _; unfold leapB; simp [h1]
    rw [HR.out]
    go_enter Tryd.func13, Tryd.ntmps13
    go_wp2
    go_ret
    exact ⟨rfl, rfl⟩

set_option maxHeartbeats 1000000 in
theorem rlength_any (y m : Int) (w : World) :
    Calls Tryd.prog 28 #[.int .i64 y, .int .i64 m] w fun e w' => e = .returned (.int .i64 (lenD y m)) ∧ w = w' := by
  by_cases h4 : m = 4
  · subst h4
    have HE : Hid (lenD y 4 = 30) := by show _ = _; unfold lenD; rw [if_pos (by omega)]
    generalize lenD y 4 = A at *
    go_enter Tryd.func28, Tryd.ntmps28
    go_wp2
    go_ret
    exact ⟨ret_int HE.out.symm, rfl⟩
  by_cases h6 : m = 6
  · subst h6
    have HE : Hid (lenD y 6 = 30) := by show _ = _; unfold lenD; rw [if_pos (by omega)]
    generalize lenD y 6 = A at *
    go_enter Tryd.func28, Tryd.ntmps28
    go_wp2
    go_ret
    exact ⟨ret_int HE.out.symm, rfl⟩
  by_cases h9 : m = 9
  · subst h9
    have HE : Hid (lenD y 9 = 30) := by show _ = _; unfold lenD; rw [if_pos (by omega)]
    generalize lenD y 9 = A at *
    go_enter Tryd.func28, Tryd.ntmps28
    go_wp2
    go_ret
    exact ⟨ret_int HE.out.symm, rfl⟩
  by_cases h11 : m = 11
  · subst h11
    have HE : Hid (lenD y 11 = 30) := by show _ = _; unfold lenD; rw [if_pos (by omega)]
    generalize lenD y 11 = A at *
    go_enter Tryd.func28, Tryd.ntmps28
    go_wp2
    go_ret
    exact ⟨ret_int HE.out.symm, rfl⟩
  by_cases h2 : m = 2
  · subst h2
    have HE := Lib.hid (len_feb y)
    have HL := Lib.hid (rleap_any y w)
    generalize lenD y 2 = A at *
    generalize leapB y = b at *
    clear h4 h6 h9 h11
    go_enter Tryd.func28, Tryd.ntmps28
    cases b
    · go_wp2_with (go_at_call 13; refine HL.out.mono ?_; rintro e w' ⟨rfl, rfl⟩)
      go_ret
      exact ⟨ret_int (by rw [HE.out]; simp), rfl⟩
    · go_wp2_with (go_at_call 13; refine HL.out.mono ?_; rintro e w' ⟨rfl, rfl⟩)
      go_ret
      exact ⟨ret_int (by rw [HE.out]; simp), rfl⟩
  · have HE : Hid (lenD y m = 31) := by show _ = _; unfold lenD; rw [if_neg (by omega), if_neg h2]
    generalize lenD y m = A at *
    have g4 : (m == 4) = false := by simp only [beq_eq_false_iff_ne]; omega
    have g6 : (m == 6) = false := by simp only [beq_eq_false_iff_ne]; omega
    have g9 : (m == 9) = false := by simp only [beq_eq_false_iff_ne]; omega
    have g11 : (m == 11) = false := by simp only [beq_eq_false_iff_ne]; omega
    have g2 : (m == 2) = false := by simp only [beq_eq_false_iff_ne]; omega
    clear h4 h6 h9 h11 h2
    go_enter Tryd.func28, Tryd.ntmps28
    go_wp2
    go_ret
    exact ⟨ret_int HE.out.symm, rfl⟩

set_option maxHeartbeats 2000000 in
theorem rday_any (y m d : Int) (w : World) :
    Calls Tryd.prog 11 #[.int .i64 y, .int .i64 m, .int .i64 d] w fun e w' => e = .returned (.tuple #[.int .i64 (dayV y m d), .int .i64 (dayE 10 y m d)]) ∧ w = w' := by
  by_cases hok : 1 ≤ y ∧ y ≤ 9999 ∧ 1 ≤ m ∧ m ≤ 12 ∧ 1 ≤ d ∧ d ≤ lenD y m
  · obtain ⟨e1, e2⟩ := v_good (ed := 10) hok
    have HE := Lib.hid e1
    rw [e2]
    obtain ⟨h1, h2, h3, h4, h5, h6⟩ := hok
    obtain ⟨k, rfl⟩ : ∃ k : Nat, m = (k : Int) + 1 := ⟨(m - 1).toNat, by omega⟩
    have hkk : ((k : Int) + 1 - 1).toNat = k := by omega
    rw [hkk] at HE
    have hk : k < 12 := by omega
    have HL : Hid (∀ (j : Nat) (w : World), Calls Tryd.prog 28 #[.int .i64 y, .int .i64 ((j : Int) + 1)] w fun e w' => e = .returned (.int .i64 (lenD y ((j : Int) + 1))) ∧ w = w') := fun j w => rlength_any y _ w
    have t1 : (y - 1).tdiv 4 = (y - 1) / 4 := Int.tdiv_eq_ediv_of_nonneg (by omega)
    have t2 : (y - 1).tdiv 100 = (y - 1) / 100 := Int.tdiv_eq_ediv_of_nonneg (by omega)
    have t3 : (y - 1).tdiv 400 = (y - 1) / 400 := Int.tdiv_eq_ediv_of_nonneg (by omega)
    have HFE : Hid (firstD y = 365 * (y - 1) + (y - 1) / 4 - (y - 1) / 100 + (y - 1) / 400) := rfl
    have s1 : 0 ≤ (y - 1) / 4 ∧ (y - 1) / 4 ≤ 20000 := by omega
    have s2 : 0 ≤ (y - 1) / 100 ∧ (y - 1) / 100 ≤ 20000 := by omega
    have s3 : 0 ≤ (y - 1) / 400 ∧ (y - 1) / 400 ≤ 20000 := by omega
    obtain ⟨s1a, s1b⟩ := s1
    obtain ⟨s2a, s2b⟩ := s2
    obtain ⟨s3a, s3b⟩ := s3
    obtain ⟨l1, l2⟩ := len_range y ((k : Int) + 1)
    have HLk := HL.out k w
    obtain ⟨f1, f2⟩ := first_range y (by omega) (by omega)
    have HC : Hid (∀ j : Nat, j ≤ 12 → 0 ≤ cum y j ∧ cum y j ≤ 400) := fun j hj => cum_range y j hj
    have HCS : Hid (∀ j : Nat, cum y (j + 1) = cum y j + lenD y ((j : Int) + 1)) := fun j => rfl
    have HLR : Hid (∀ j : Int, 28 ≤ lenD y j ∧ lenD y j ≤ 31) := fun j => len_range y j
    generalize dayV y ((k : Int) + 1) d = R at *
    generalize firstD y = F at *
    generalize (y - 1) / 4 = q1 at *
    generalize (y - 1) / 100 = q2 at *
    generalize (y - 1) / 400 = q3 at *
    have HK2 := Lib.hid HLk
    generalize lenD y ((k : Int) + 1) = A at HK2 h6 l1 l2
    clear HLk e1 e2 hkk
    have g1 : ¬ y < 1 := by omega
    have g2 : ¬ 9999 < y := by omega
    have g3 : ¬ (k : Int) + 1 < 1 := by omega
    have g4 : ¬ 12 < (k : Int) + 1 := by omega
    have g5 : ¬ d < 1 := by omega
    have g6 : ¬ A < d := by omega
    go_enter Tryd.func11, Tryd.ntmps11
    go_wp2_with fail
    refine HK2.out.mono ?_
    rintro e w' ⟨rfl, rfl⟩
    go_wp2
    rw [← HFE.out]
    have HZ : Hid (F + d - 1 + cum y 0 = F + d - 1) := by show _ = _; simp [cum]
    go_loop [9, 10] (fun a b => ∃ (j : Nat) (c : Int), j ≤ k ∧ 0 ≤ c ∧ c ≤ 400 ∧ Hid (c = cum y j) ∧ a = .int .i64 (F + c) ∧ b = .int .i64 ((j : Int) + 1)) (fun _ b => k + 1 - (intOf b).toNat)
    case atStart => exact ⟨0, 0, by omega, by omega, by omega, rfl, by simp, rfl⟩
    case round =>
      obtain ⟨j, c, hj, hc1, hc2, hcj, rfl, rfl⟩ := hrel
      by_cases hlt : j < k
      · have HQ := Lib.hid (HL.out j w)
        obtain ⟨q1, q2⟩ := HLR.out ((j : Int) + 1)
        have HCj := Lib.hid (HC.out (j + 1) (by omega))
        have HS := Lib.hid (HCS.out j)
        obtain ⟨T, hT⟩ : ∃ T, lenD y ((j : Int) + 1) = T := ⟨_, rfl⟩
        rw [hT] at HQ q1 q2 HS
        have HS2 : Hid (c + T = cum y (j + 1)) := by show _ = _; rw [HS.out, ← hcj.out]
        have c1 : 0 ≤ c + T ∧ c + T ≤ 400 := by rw [HS2.out]; exact HCj.out
        obtain ⟨c1, c2⟩ := c1
        have hlt' : (j : Int) + 1 < (k : Int) + 1 := by omega
        clear hT HS HCj HK2
        go_wp2_with (go_at_call 28; refine HQ.out.mono ?_; rintro e w' ⟨rfl, rfl⟩)
        go_round
        case rel => exact ⟨j + 1, c + T, by omega, c1, c2, HS2, by rw [← Int.add_assoc], by go_num⟩
        case measure => simp [intOf]; omega
      · obtain rfl : j = k := by omega
        have HR : Hid (F + c + d - 1 = R) := by show _ = _; rw [HE.out, hcj.out]
        clear HK2 HL hcj
        go_wp2
        go_ret2
        exact ⟨ret_pair HR.out, rfl⟩
  · obtain ⟨e1, e2⟩ := v_bad (ed := 10) hok
    rw [e1, e2]
    clear e1 e2
    by_cases h1 : y < 1
    · clear hok
      go_enter Tryd.func11, Tryd.ntmps11
      go_wp2
      go_ret2
      exact ⟨rfl, rfl⟩
    by_cases h2 : 9999 < y
    · clear hok
      go_enter Tryd.func11, Tryd.ntmps11
      go_wp2
      go_ret2
      exact ⟨rfl, rfl⟩
    by_cases h3 : m < 1
    · clear hok
      go_enter Tryd.func11, Tryd.ntmps11
      go_wp2
      go_ret2
      exact ⟨rfl, rfl⟩
    by_cases h4 : 12 < m
    · clear hok
      go_enter Tryd.func11, Tryd.ntmps11
      go_wp2
      go_ret2
      exact ⟨rfl, rfl⟩
    by_cases h5 : d < 1
    · clear hok
      go_enter Tryd.func11, Tryd.ntmps11
      go_wp2
      go_ret2
      exact ⟨rfl, rfl⟩
    · have h6 : lenD y m < d := by omega
      obtain ⟨k, rfl⟩ : ∃ k : Nat, m = (k : Int) + 1 := ⟨(m - 1).toNat, by omega⟩
      have HK2 := Lib.hid (rlength_any y ((k : Int) + 1) w)
      generalize lenD y ((k : Int) + 1) = A at HK2 h6
      clear hok
      go_enter Tryd.func11, Tryd.ntmps11
      go_wp2_with fail
      refine HK2.out.mono ?_
      rintro e w' ⟨rfl, rfl⟩
      go_wp2
      go_ret2
      exact ⟨rfl, rfl⟩
end Go.Proofs.YtogpjoldfcmbfaaDoor
