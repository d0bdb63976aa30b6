
/- The document's date of a day. -/
import Derived.Test.YtogpjoldfcmbfaaDoorYRf1
import Derived.Test.YtogpjoldfcmbfaaDoorYDat
namespace Go.Proofs.YtogpjoldfcmbfaaDoor
open Go.RowKit
open Cal
set_option linter.unusedVariables false

theorem day_first {y ed : Int} (h1 : 1 ≤ y) (h2 : y ≤ 9999) : dayV y 1 1 = firstD y ∧ dayE ed y 1 1 = 0 := by
  have hl := len_range y 1
  have := v_good (ed := ed) (y := y) (m := 1) (d := 1) ⟨h1, h2, by omega, by omega, by omega, by omega⟩
  refine ⟨?_, this.2⟩
  rw [this.1, show cum y (1 - 1 : Int).toNat = 0 from rfl]; omega
theorem first_high (y : Int) (h : 0 ≤ y) : firstD (y + 1) ≤ 366 * y := by unfold firstD; omega

set_option maxHeartbeats 4000000 in
theorem rdate_any (n : Int) (w : World) :
    Calls Tryd.prog 15 #[.int .i64 n] w fun e w' => e = .returned (.tuple #[.int .i64 (dY n), .int .i64 (dM n), .int .i64 (dD n), .int .i64 (dE 2 n)]) ∧ w = w' := by
  by_cases h : dayB n = true
  · have hd := isDate_d h
    obtain ⟨z1, z2⟩ := (dayB_iff n).1 h
    have e4 : dE 2 n = 0 := by unfold dE; rw [if_pos h]
    rw [e4]
    have h1 := hd.y1
    have h2 := hd.y2
    obtain ⟨f1, f2⟩ := hd.year_lt
    have hfs := first_succ _ h1 h2
    obtain ⟨r1, r2⟩ := first_range (dY n) (by omega) (by omega)
    have hst : n / 366 + 1 ≤ dY n := by have := first_high (dY n) (by omega); omega
    have hst0 : 0 ≤ n / 366 := by omega
    have ht : n.tdiv 366 = n / 366 := Int.tdiv_eq_ediv_of_nonneg z1
    have HDY : Hid (∀ y w, Calls Tryd.prog 11 #[.int .i64 y, .int .i64 1, .int .i64 1] w fun e w' => e = .returned (.tuple #[.int .i64 (dayV y 1 1), .int .i64 (dayE 10 y 1 1)]) ∧ w = w') := fun y w => rday_any y 1 1 w
    have HD1 : Hid (∀ y, 1 ≤ y → y < dY n → dayV (y + 1) 1 1 = firstD (y + 1) ∧ dayE 10 (y + 1) 1 1 = 0 ∧ firstD (y + 1) ≤ n) := fun y ha hb => by
      have := day_first (ed := 10) (y := y + 1) (by omega) (by omega)
      have := first_mono (show y + 1 ≤ dY n by omega)
      exact ⟨by omega, by omega, by omega⟩
    have HD2 : Hid ((dY n = 9999 ∧ dayE 10 (dY n + 1) 1 1 = 10) ∨ (dayV (dY n + 1) 1 1 = firstD (dY n + 1) ∧ dayE 10 (dY n + 1) 1 1 = 0 ∧ n < firstD (dY n + 1))) := by
      by_cases hy : dY n = 9999
      · exact .inl ⟨hy, (v_bad (by omega)).2⟩
      · have := day_first (ed := 10) (y := dY n + 1) (by omega) (by omega)
        exact .inr ⟨this.1, this.2, by omega⟩
    have HD3 := Lib.hid (day_first (ed := 10) h1 h2)
    have HL : Hid (∀ (j : Nat) (w : World), Calls Tryd.prog 28 #[.int .i64 (dY n), .int .i64 ((j : Int) + 1)] w fun e w' => e = .returned (.int .i64 (lenD (dY n) ((j : Int) + 1))) ∧ w = w') := fun j w => rlength_any (dY n) _ w
    have HU : Hid (∀ (j : Nat) (r : Int), j < 12 → n = firstD (dY n) + cum (dY n) j + r → 0 ≤ r → r < lenD (dY n) ((j : Int) + 1) → ((j : Int) + 1) = dM n ∧ r + 1 = dD n) := fun j r hj he h0 hr => by
      have hg : IsDate n (dY n) ((j : Int) + 1) (r + 1) := ⟨h1, h2, by omega, by omega, by omega, by omega, by rw [show ((j : Int) + 1 - 1).toNat = j by omega]; omega⟩
      have := hg.unique hd
      exact ⟨this.2.1, this.2.2⟩
    have HC : Hid (∀ j : Nat, j ≤ 12 → 0 ≤ cum (dY n) j ∧ cum (dY n) j ≤ 400) := fun j hj => cum_range _ j hj
    have HCS : Hid (∀ j : Nat, cum (dY n) (j + 1) = cum (dY n) j + lenD (dY n) ((j : Int) + 1)) := fun j => rfl
    have HLR : Hid (∀ j : Int, 28 ≤ lenD (dY n) j ∧ lenD (dY n) j ≤ 31) := fun j => len_range _ j
    have HEND : Hid (n - firstD (dY n) < cum (dY n) 12) := by show _ < _; omega
    have g1 : ¬ n < 0 := by omega
    have g2 : ¬ 3652058 < n := by omega
    generalize dY n = Y at *
    generalize dM n = MM at *
    generalize dD n = DD at *
    generalize n / 366 = Q at *
    clear hd h hfs f2 e4
    go_enter Tryd.func15, Tryd.ntmps15
    go_wp2
    go_loop [6, 7, 8] (fun a _ _ => ∃ y : Int, 1 ≤ y ∧ y ≤ Y ∧ a = .int .i64 y) (fun a _ _ => 10000 - (intOf a).toNat)
    case atStart => exact ⟨Q + 1, by omega, by omega, rfl⟩
    case round =>
      obtain ⟨y, ya, yb, rfl⟩ := hrel
      by_cases hlt : y < Y
      · have HQ := Lib.hid (HDY.out (y + 1) w)
        obtain ⟨d1, d2, d3⟩ := HD1.out y ya hlt
        rw [d1, d2] at HQ
        generalize firstD (y + 1) = G at *
        clear d1 d2 f1
        go_wp2_with (go_at_call 11; refine HQ.out.mono ?_; rintro e w' ⟨rfl, rfl⟩)
        go_round
        case rel => exact ⟨y + 1, by omega, by omega, by go_num⟩
        case measure => simp [intOf]; omega
      · obtain rfl : y = Y := by omega
        obtain ⟨b1, b2⟩ := HD3.out
        have HQ0 := Lib.hid (HDY.out y w)
        rw [b1, b2] at HQ0
        have HQ := Lib.hid (HDY.out (y + 1) w)
        have HD2' := HD2.out
        clear HD2
        obtain ⟨v, hv⟩ : ∃ v, dayV (y + 1) 1 1 = v := ⟨_, rfl⟩
        obtain ⟨ee, hee⟩ : ∃ v, dayE 10 (y + 1) 1 1 = v := ⟨_, rfl⟩
        rw [hv, hee] at HQ HD2'
        obtain ⟨F, hF⟩ : ∃ F, firstD y = F := ⟨_, rfl⟩
        rw [hF] at HQ0 HU HEND f1 r1 r2
        have hex : (ee != 0) = true ∨ (ee = 0 ∧ n < v) := by
          rcases HD2' with ⟨_, rfl⟩ | ⟨rfl, rfl, h⟩
          · exact .inl rfl
          · exact .inr ⟨rfl, h⟩
        clear HD2' hv hee hF b1 b2 hlt hst ht hst0
        go_wp2_with fail
        refine HQ.out.mono ?_
        rintro e w' ⟨rfl, rfl⟩
        have hex2 : (ee != 0) = true ∨ ((ee != 0) = false ∧ n < v) := by
          rcases hex with h | ⟨rfl, h⟩
          · exact .inl h
          · exact .inr ⟨rfl, h⟩
        clear hex
        rcases hex2 with h | ⟨h, h'⟩
        all_goals
          go_wp2_with fail
          refine HQ0.out.mono ?_
          rintro e w' ⟨rfl, rfl⟩
          go_wp2
          go_loop [11, 12] (fun b a => ∃ (j : Nat) (c : Int), j < 12 ∧ 0 ≤ c ∧ c ≤ n - F ∧ Hid (c = cum y j) ∧ a = .int .i64 (n - F - c) ∧ b = .int .i64 ((j : Int) + 1)) (fun b _ => 12 - (intOf b).toNat)
          case atStart => exact ⟨0, 0, by omega, by omega, by omega, rfl, by simp, rfl⟩
          case round =>
            obtain ⟨j, c, hj, hc1, hc2, hcj, rfl, rfl⟩ := hrel
            have HQ := Lib.hid (HL.out j w)
            obtain ⟨q1, q2⟩ := HLR.out ((j : Int) + 1)
            have HS := Lib.hid (HCS.out j)
            have HUj := Lib.hid (HU.out j (n - F - c) hj (by rw [← hcj.out]; omega))
            obtain ⟨T, hT⟩ : ∃ T, lenD y ((j : Int) + 1) = T := ⟨_, rfl⟩
            rw [hT] at HQ q1 q2 HS HUj
            have HS2 : Hid (c + T = cum y (j + 1)) := by show _ = _; rw [HS.out, ← hcj.out]
            by_cases hlt : T ≤ n - F - c
            · have hj2 : j + 1 < 12 := by
                by_cases hx : j + 1 < 12
                · exact hx
                · obtain rfl : j = 11 := by omega
                  have := HEND.out
                  have := HS2.out
                  rw [show (11 + 1 : Nat) = 12 by rfl] at this
                  omega
              clear hT HS HUj HEND
              go_wp2_with (go_at_call 28; refine HQ.out.mono ?_; rintro e w' ⟨rfl, rfl⟩)
              go_round
              case rel => exact ⟨j + 1, c + T, by omega, by omega, by omega, HS2, by rw [show n - F - (c + T) = n - F - c - T by omega], by go_num⟩
              case measure => simp [intOf]; omega
            · obtain ⟨u1, u2⟩ := HUj.out (by omega) (by omega)
              have U1 := Lib.hid u1
              have U2 := Lib.hid u2
              clear hT HS HUj HEND u1 u2 HU
              go_wp2_with (go_at_call 28; refine HQ.out.mono ?_; rintro e w' ⟨rfl, rfl⟩)
              refine bodyPost_ret (results_tmp4 rfl _ _ _) rfl ?_
              exact ⟨ret_date rfl U1.out U2.out, rfl⟩
  · obtain ⟨e1, e2, e3, e4⟩ := date_bad (er := 2) h
    rw [e1, e2, e3, e4]
    have hx : n < 0 ∨ (¬ n < 0 ∧ 3652058 < n) := by
      have : ¬ (0 ≤ n ∧ n ≤ 3652058) := fun hc => h ((dayB_iff n).2 hc)
      omega
    clear h e1 e2 e3 e4
    go_enter Tryd.func15, Tryd.ntmps15
    rcases hx with h | ⟨h, h'⟩
    · go_wp2
      (try simp only [Exit.inBlock, Exit.then])
      refine bodyPost_ret (results_tmp4 rfl _ _ _) rfl ?_
      exact ⟨rfl, rfl⟩
    · go_wp2
      (try simp only [Exit.inBlock, Exit.then])
      refine bodyPost_ret (results_tmp4 rfl _ _ _) rfl ?_
      exact ⟨rfl, rfl⟩
end Go.Proofs.YtogpjoldfcmbfaaDoor
