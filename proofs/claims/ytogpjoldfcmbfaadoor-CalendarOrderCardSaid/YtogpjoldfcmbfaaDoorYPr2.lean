
/- The first day of a year, the number of a date: the program's and the document's. -/
import Derived.Test.YtogpjoldfcmbfaaDoorYPr1
namespace Go.Proofs.YtogpjoldfcmbfaaDoor
open Go.RowKit
open Cal
set_option linter.unusedVariables false

theorem first_range (y : Int) (h1 : -20000 ≤ y) (h2 : y ≤ 20000) : -8000000 ≤ firstD y ∧ firstD y ≤ 8000000 := by unfold firstD; omega

theorem firstDay_any (y : Int) (w : World) (h1 : 1 ≤ y) (h2 : y ≤ 20000) :
    Calls Tryd.prog 27 #[.int .i64 y] w fun e w' => e = .returned (.int .i64 (firstD y)) ∧ w = w' := by
  have t1 : (y - 1).tdiv 4 = (y - 1) / 4 := Int.tdiv_eq_ediv_of_nonneg (by omega)
  have t2 : (y - 1).tdiv 100 = (y - 1) / 100 := Int.tdiv_eq_ediv_of_nonneg (by omega)
  have t3 : (y - 1).tdiv 400 = (y - 1) / 400 := Int.tdiv_eq_ediv_of_nonneg (by omega)
  have HE : Hid (firstD y = 365 * (y - 1) + (y - 1) / 4 - (y - 1) / 100 + (y - 1) / 400) := rfl
  have s1 : 0 ≤ (y - 1) / 4 ∧ (y - 1) / 4 ≤ 20000 := by omega
  have s2 : 0 ≤ (y - 1) / 100 ∧ (y - 1) / 100 ≤ 20000 := by omega
  have s3 : 0 ≤ (y - 1) / 400 ∧ (y - 1) / 400 ≤ 20000 := by omega
  obtain ⟨s1a, s1b⟩ := s1
  obtain ⟨s2a, s2b⟩ := s2
  obtain ⟨s3a, s3b⟩ := s3
  generalize firstD y = R at *
  generalize (y - 1) / 4 = q1 at *
  generalize (y - 1) / 100 = q2 at *
  generalize (y - 1) / 400 = q3 at *
  go_enter Tryd.func27, Tryd.ntmps27
  go_wp2
  go_ret
  exact ⟨ret_int HE.out.symm, rfl⟩

theorem isDay_any (n : Int) (w : World) :
    Calls Tryd.prog 29 #[.int .i64 n] w fun e w' => e = .returned (.bool (dayB n)) ∧ w = w' := by
  by_cases h1 : 0 ≤ n
  · by_cases h2 : n ≤ 3652058
    · have HR : Hid (dayB n = true) := (dayB_iff n).2 ⟨h1, h2⟩
      rw [HR.out]
      go_enter Tryd.func29, Tryd.ntmps29
      go_wp2
      go_ret
      exact ⟨rfl, rfl⟩
    · have HR : Hid (dayB n = false) := by show _ = _; unfold dayB; simp [h2]
      rw [HR.out]
      go_enter Tryd.func29, Tryd.ntmps29
      go_wp2
      go_ret
      exact ⟨rfl, rfl⟩
  · have HR : Hid (dayB n = false) := by show _ = _; unfold dayB; simp [h1]
    rw [HR.out]
    go_enter Tryd.func29, Tryd.ntmps29
    go_wp2
    go_ret
    exact ⟨rfl, rfl⟩

theorem v_bad {y m d ed : Int} (h : ¬ (1 ≤ y ∧ y ≤ 9999 ∧ 1 ≤ m ∧ m ≤ 12 ∧ 1 ≤ d ∧ d ≤ lenD y m)) : dayV y m d = 0 ∧ dayE ed y m d = ed := by
  have : ¬ okD y m d = true := fun hc => h ((okD_iff y m d).1 hc)
  unfold dayV dayE
  rw [if_neg this, if_neg this]; exact ⟨rfl, rfl⟩
theorem v_good {y m d ed : Int} (h : 1 ≤ y ∧ y ≤ 9999 ∧ 1 ≤ m ∧ m ≤ 12 ∧ 1 ≤ d ∧ d ≤ lenD y m) : dayV y m d = firstD y + cum y (m - 1).toNat + d - 1 ∧ dayE ed y m d = 0 := by
  have : okD y m d = true := (okD_iff y m d).2 h
  unfold dayV dayE
  rw [if_pos this, if_pos this]; exact ⟨rfl, rfl⟩

theorem cum_range (y : Int) (k : Nat) (h : k ≤ 12) : 0 ≤ cum y k ∧ cum y k ≤ 400 := by
  have h1 := cum_mono y k 12 h
  have h2 := cum_all y
  have h3 := len_range y 2
  have h4 := cum_nonneg y k
  omega

set_option maxHeartbeats 2000000 in
theorem day_any (y m d : Int) (w : World) (hw : Lens w) :
    Calls Tryd.prog 10 #[.int .i64 y, .int .i64 m, .int .i64 d] w fun e w' => e = .returned (.tuple #[.int .i64 (dayV y m d), .int .i64 (dayE 10 y m d)]) ∧ w = w' := by
  by_cases hok : 1 ≤ y ∧ y ≤ 9999 ∧ 1 ≤ m ∧ m ≤ 12 ∧ 1 ≤ d ∧ d ≤ lenD y m
  · obtain ⟨e1, e2⟩ := v_good (ed := 10) hok
    have HE := Lib.hid e1
    rw [e2]
    obtain ⟨h1, h2, h3, h4, h5, h6⟩ := hok
    obtain ⟨k, rfl⟩ : ∃ k : Nat, m = (k : Int) + 1 := ⟨(m - 1).toNat, by omega⟩
    have hkk : ((k : Int) + 1 - 1).toNat = k := by omega
    rw [hkk] at HE
    have hk : k < 12 := by omega
    have HL : Hid (∀ (j : Nat) (w : World), j < 12 → Lens w → Calls Tryd.prog 26 #[.int .i64 y, .int .i64 ((j : Int) + 1)] w fun e w' => e = .returned (.int .i64 (lenD y ((j : Int) + 1))) ∧ w = w') := fun j w hj hw => length_any y j w hw hj
    have HF := Lib.hid (firstDay_any y w h1 (by omega))
    have HLN := Lib.hid hw
    obtain ⟨l1, l2⟩ := len_range y ((k : Int) + 1)
    have HLk := HL.out k w hk hw
    obtain ⟨f1, f2⟩ := first_range y (by omega) (by omega)
    have HC : Hid (∀ j : Nat, j ≤ 12 → 0 ≤ cum y j ∧ cum y j ≤ 400) := fun j hj => cum_range y j hj
    have HCS : Hid (∀ j : Nat, cum y (j + 1) = cum y j + lenD y ((j : Int) + 1)) := fun j => rfl
    have HLR : Hid (∀ j : Int, 28 ≤ lenD y j ∧ lenD y j ≤ 31) := fun j => len_range y j
    generalize dayV y ((k : Int) + 1) d = R at *
    generalize firstD y = F at *
    have HK2 := Lib.hid HLk
    generalize lenD y ((k : Int) + 1) = A at HK2 h6 l1 l2
    clear HLk hw e1 e2 hkk
    have g1 : ¬ y < 1 := by omega
    have g2 : ¬ 9999 < y := by omega
    have g3 : ¬ (k : Int) + 1 < 1 := by omega
    have g4 : ¬ 12 < (k : Int) + 1 := by omega
    have g5 : ¬ d < 1 := by omega
    have g6 : ¬ A < d := by omega
    go_enter Tryd.func10, Tryd.ntmps10
    go_wp2_with fail
    refine HK2.out.mono ?_
    rintro e w' ⟨rfl, rfl⟩
    go_wp2_with fail
    refine HF.out.mono ?_
    rintro e w' ⟨rfl, rfl⟩
    go_wp2
    have HZ : Hid (F + d - 1 + cum y 0 = F + d - 1) := by show _ = _; simp [cum]
    go_loop [8, 9] (fun a b => ∃ (j : Nat) (c : Int), j ≤ k ∧ 0 ≤ c ∧ c ≤ 400 ∧ Hid (c = cum y j) ∧ a = .int .i64 (F + d - 1 + c) ∧ b = .int .i64 ((j : Int) + 1)) (fun _ b => k + 1 - (intOf b).toNat)
    case atStart => exact ⟨0, 0, by omega, by omega, by omega, rfl, by simp, rfl⟩
    case round =>
      obtain ⟨j, c, hj, hc1, hc2, hcj, rfl, rfl⟩ := hrel
      by_cases hlt : j < k
      · have HQ := Lib.hid (HL.out j w (by omega) HLN.out)
        obtain ⟨q1, q2⟩ := HLR.out ((j : Int) + 1)
        have HCj := Lib.hid (HC.out (j + 1) (by omega))
        have HS := Lib.hid (HCS.out j)
        obtain ⟨T, hT⟩ : ∃ T, lenD y ((j : Int) + 1) = T := ⟨_, rfl⟩
        rw [hT] at HQ q1 q2 HS
        have HS2 : Hid (c + T = cum y (j + 1)) := by show _ = _; rw [HS.out, ← hcj.out]
        have c1 : 0 ≤ c + T ∧ c + T ≤ 400 := by rw [HS2.out]; exact HCj.out
        obtain ⟨c1, c2⟩ := c1
        have hlt' : (j : Int) + 1 < (k : Int) + 1 := by omega
        clear hT HS HCj HF HK2
        go_wp2_with (go_at_call 26; refine HQ.out.mono ?_; rintro e w' ⟨rfl, rfl⟩)
        go_round
        case rel => exact ⟨j + 1, c + T, by omega, c1, c2, HS2, by rw [show F + d - 1 + (c + T) = F + d - 1 + c + T by omega], by go_num⟩
        case measure => simp [intOf]; omega
      · obtain rfl : j = k := by omega
        have HR : Hid (F + d - 1 + c = R) := by show _ = _; rw [HE.out, hcj.out]; omega
        clear HF HK2 HL hcj
        go_wp2
        go_ret2
        exact ⟨ret_pair HR.out, rfl⟩
  · obtain ⟨e1, e2⟩ := v_bad (ed := 10) hok
    rw [e1, e2]
    clear e1 e2
    by_cases h1 : y < 1
    · clear hok
      go_enter Tryd.func10, Tryd.ntmps10
      go_wp2
      go_ret2
      exact ⟨rfl, rfl⟩
    by_cases h2 : 9999 < y
    · clear hok
      go_enter Tryd.func10, Tryd.ntmps10
      go_wp2
      go_ret2
      exact ⟨rfl, rfl⟩
    by_cases h3 : m < 1
    · clear hok
      go_enter Tryd.func10, Tryd.ntmps10
      go_wp2
      go_ret2
      exact ⟨rfl, rfl⟩
    by_cases h4 : 12 < m
    · clear hok
      go_enter Tryd.func10, Tryd.ntmps10
      go_wp2
      go_ret2
      exact ⟨rfl, rfl⟩
    by_cases h5 : d < 1
    · clear hok
      go_enter Tryd.func10, Tryd.ntmps10
      go_wp2
      go_ret2
      exact ⟨rfl, rfl⟩
    · have h6 : lenD y m < d := by omega
      obtain ⟨k, rfl⟩ : ∃ k : Nat, m = (k : Int) + 1 := ⟨(m - 1).toNat, by omega⟩
      have HK2 := Lib.hid (length_any y k w hw (by omega))
      generalize lenD y ((k : Int) + 1) = A at HK2 h6
      clear hok
      go_enter Tryd.func10, Tryd.ntmps10
      go_wp2_with fail
      refine HK2.out.mono ?_
      rintro e w' ⟨rfl, rfl⟩
      go_wp2
      go_ret2
      exact ⟨rfl, rfl⟩
end Go.Proofs.YtogpjoldfcmbfaaDoor
