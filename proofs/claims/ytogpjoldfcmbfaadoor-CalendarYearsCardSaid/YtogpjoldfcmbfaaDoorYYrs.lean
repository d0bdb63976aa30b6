
/- The walk of CalendarYears. -/
import Derived.Test.YtogpjoldfcmbfaaDoorYLaw
namespace Go.Proofs.YtogpjoldfcmbfaaDoor
open Go.RowKit Go.Sort Go.Shelf
open Cal
set_option linter.unusedVariables false

theorem v_range (y m d : Int) : 0 ≤ dayV y m d ∧ dayV y m d ≤ 3652058 := by
  by_cases h : okD y m d = true
  · exact (isDate_v h).range
  · unfold dayV; rw [if_neg h]; omega
theorem addV_range (n k : Int) : 0 ≤ addV n k ∧ addV n k ≤ 3652058 := by
  unfold addV; split
  · exact v_range _ _ _
  · omega

set_option maxRecDepth 100000 in
set_option maxHeartbeats 8000000 in
theorem calendarYears_walk (n m y : Int) (w : World) (hw : Lens w) (wn : (Lit.int .i64 n).wf = true) (wm : (Lit.int .i64 m).wf = true) (wy : (Lit.int .i64 y).wf = true) :
    Calls Tryd.prog 5 #[.int .i64 n, .int .i64 m, .int .i64 y] w fun e w' => e = .returned (.bool true) ∧ Below w.heap.size w w' := by
  obtain ⟨n1, n1a, n1b, _, N1⟩ := mod_q n 3652059 (by omega) (by omega)
  obtain ⟨n2, n2a, n2b, _, N2⟩ := mod_q n 100 (by omega) (by omega)
  obtain ⟨m1, m1a, m1b, _, M1⟩ := mod_q m 3652059 (by omega) (by omega)
  obtain ⟨m2, m2a, m2b, _, M2⟩ := mod_q m 3 (by omega) (by omega)
  obtain ⟨y1, y1a, y1b, _, Y1⟩ := mod_q y 110 (by omega) (by omega)
  obtain ⟨y2, y2a, y2b, _, Y2⟩ := mod_q y 10003 (by omega) (by omega)
  obtain ⟨y3, y3a, y3b, _, Y3⟩ := mod_q y 50 (by omega) (by omega)
  have HW := Lib.hid hw
  clear hw wy wm wn
  go_enter Tryd.func5, Tryd.ntmps5
  go_wp2_with fail
  refine (N1.out _).mono ?_
  rintro e w' ⟨rfl, rfl⟩
  go_wp2_with fail
  refine (N2.out _).mono ?_
  rintro e w' ⟨rfl, rfl⟩
  go_wp2
  have HL1 := Lib.hid (lit3 w n n1 (59 + 365 * n2) 3)
  have HB1 := Lib.hid (al_below w (.cells #[.int .i64 n, .int .i64 n1, .int .i64 (59 + 365 * n2)] 3))
  obtain ⟨g, hg⟩ : ∃ g, w.heap.size = g := ⟨_, rfl⟩
  have HG := Lib.hid hg
  have HW1 := Lib.hid (HW.out.below HB1.out)
  rw [hg] at HL1 HB1 ⊢
  clear hg
  generalize w.alloc (.cells #[.int .i64 n, .int .i64 n1, .int .i64 (59 + 365 * n2)] 3) = w1 at *
  go_loopw [26] (fun s wr => ∃ k : Nat, k ≤ 3 ∧ s = .int .i64 k ∧ Hid (Below g w wr ∧ LitI wr g [n, n1, 59 + 365 * n2] ∧ Lens wr)) (fun s _ => 3 - (intOf s).toNat)
  case atStart => exact ⟨0, by omega, rfl, HB1.out, HL1.out, HW1.out⟩
  case round =>
    obtain ⟨k, hk, rfl, hr⟩ := hrel
    have HR := Lib.hid hr
    clear hr
    obtain ⟨wo, hwo⟩ : ∃ wo, wo = wr := ⟨_, rfl⟩
    subst hwo
    by_cases hlt : k < 3
    · have hc := HR.out.out.2.1.2 k hlt
      generalize [n, n1, 59 + 365 * n2].getD k 0 = K at hc
      go_wp2_with fail
      refine (Y1.out _).mono ?_
      rintro e w' ⟨rfl, rfl⟩
      clear hc
      go_wp2_with fail
      refine (Y2.out _).mono ?_
      rintro e w' ⟨rfl, rfl⟩
      go_wp2
      have HLA := Lib.hid (lit3 wo y (y1 - 4) (-y2) 3)
      have HBA := Lib.hid (al_below wo (.cells #[.int .i64 y, .int .i64 (y1 - 4), .int .i64 (-y2)] 3))
      obtain ⟨ga, hga⟩ : ∃ g, wo.heap.size = g := ⟨_, rfl⟩
      have HGA := Lib.hid hga
      have HWA := Lib.hid (HR.out.out.2.2.below HBA.out)
      have HZA := Lib.hid (HR.out.out.1.size)
      rw [hga] at HLA HBA ⊢
      clear hga
      generalize wo.alloc (.cells #[.int .i64 y, .int .i64 (y1 - 4), .int .i64 (-y2)] 3) = wa at *
      go_loopw [39] (fun s wr => ∃ k : Nat, k ≤ 3 ∧ s = .int .i64 k ∧ Hid (Below ga wo wr ∧ LitI wr ga [y, y1 - 4, -y2] ∧ Lens wr)) (fun s _ => 3 - (intOf s).toNat)
      case atStart => exact ⟨0, by omega, rfl, HBA.out, HLA.out, HWA.out⟩
      case round =>
        obtain ⟨j, hj, rfl, hr⟩ := hrel
        have HRB := Lib.hid hr
        clear hr
        obtain ⟨wi, hwi⟩ : ∃ wo, wo = wr := ⟨_, rfl⟩
        subst hwi
        by_cases hltj : j < 3
        · have hc := HRB.out.out.2.1.2 j hltj
          generalize [y, y1 - 4, -y2].getD j 0 = Y at hc
          have A1 : Hid (∀ w, Lens w → Calls Tryd.prog 22 #[.int .i64 K, .int .i64 Y] w fun e w' => e = .returned (.tuple #[.int .i64 (addV K Y), .int .i64 (addE 2 10 K Y)]) ∧ Below w.heap.size w w') := fun w hw => add_days K Y w hw
          have A2 : Hid (∀ w, Calls Tryd.prog 23 #[.int .i64 K, .int .i64 Y] w fun e w' => e = .returned (.tuple #[.int .i64 (addV K Y), .int .i64 (addE 2 10 K Y)]) ∧ w = w') := fun w => radd_days K Y w
          have B1 : Hid (∀ w, Lens w → Calls Tryd.prog 24 #[.int .i64 K, .int .i64 m, .int .i64 Y] w fun e w' => e = .returned (.bool (withinB K m Y)) ∧ Below w.heap.size w w') := fun w hw => within_any K m Y w hw
          have B2 : Hid (∀ w, Calls Tryd.prog 25 #[.int .i64 K, .int .i64 m, .int .i64 Y] w fun e w' => e = .returned (.bool (withinB K m Y)) ∧ w = w') := fun w => rwithin_any K m Y w
          have C1 : Hid (∀ w, Lens w → Calls Tryd.prog 24 #[.int .i64 K, .int .i64 m1, .int .i64 Y] w fun e w' => e = .returned (.bool (withinB K m1 Y)) ∧ Below w.heap.size w w') := fun w hw => within_any K m1 Y w hw
          have C2 : Hid (∀ w, Calls Tryd.prog 25 #[.int .i64 K, .int .i64 m1, .int .i64 Y] w fun e w' => e = .returned (.bool (withinB K m1 Y)) ∧ w = w') := fun w => rwithin_any K m1 Y w
          obtain ⟨q, _, _, _, Q1⟩ := mod_q K 3652059 (by omega) (by omega)
          have E : Hid (∀ w, Calls Tryd.prog 23 #[.int .i64 q, .int .i64 y3] w fun e w' => e = .returned (.tuple #[.int .i64 (addV q y3), .int .i64 (addE 2 10 q y3)]) ∧ w = w') := fun w => radd_days q y3 w
          obtain ⟨ga1, ga2⟩ := addV_range q y3
          generalize addV K Y = v1 at *
          generalize addE 2 10 K Y = v2 at *
          generalize withinB K m Y = b1 at *
          generalize withinB K m1 Y = b2 at *
          generalize addV q y3 = G at *
          generalize addE 2 10 q y3 = GE at *
          have F1 : Hid (∀ w, Lens w → Calls Tryd.prog 24 #[.int .i64 K, .int .i64 (G + m2 - 1), .int .i64 y3] w fun e w' => e = .returned (.bool (withinB K (G + m2 - 1) y3)) ∧ Below w.heap.size w w') := fun w hw => within_any K _ y3 w hw
          have F2 : Hid (∀ w, Calls Tryd.prog 25 #[.int .i64 K, .int .i64 (G + m2 - 1), .int .i64 y3] w fun e w' => e = .returned (.bool (withinB K (G + m2 - 1) y3)) ∧ w = w') := fun w => rwithin_any K _ y3 w
          generalize withinB K (G + m2 - 1) y3 = b3 at *
          have n1 := neq_self v1
          have n2 := neq_self v2
          have n3 := neqb_self b1
          have n4 := neqb_self b2
          have n5 := neqb_self b3
          go_wp2_with fail
          refine (A1.out wi HRB.out.out.2.2).mono ?_
          rintro e w2 ⟨rfl, hb⟩
          have HB2 := Lib.hid hb
          have HW2 := Lib.hid (HRB.out.out.2.2.below hb)
          clear hb hc A1
          go_wp2_with fail
          refine (A2.out w2).mono ?_
          rintro e w' ⟨rfl, rfl⟩
          clear A2
          go_wp2_with fail
          refine (B1.out w2 HW2.out).mono ?_
          rintro e w3 ⟨rfl, hb⟩
          have HB3 := Lib.hid (HB2.out.trans (hb.mono HB2.out.size))
          have HW3 := Lib.hid (HW2.out.below hb)
          clear hb B1 HB2 HW2
          go_wp2_with fail
          refine (B2.out w3).mono ?_
          rintro e w' ⟨rfl, rfl⟩
          clear B2
          go_wp2_with fail
          refine (M1.out w3).mono ?_
          rintro e w' ⟨rfl, rfl⟩
          go_wp2_with fail
          refine (C1.out w3 HW3.out).mono ?_
          rintro e w4 ⟨rfl, hb⟩
          have HB4 := Lib.hid (HB3.out.trans (hb.mono HB3.out.size))
          have HW4 := Lib.hid (HW3.out.below hb)
          clear hb C1 HB3 HW3
          go_wp2_with fail
          refine (M1.out w4).mono ?_
          rintro e w' ⟨rfl, rfl⟩
          go_wp2_with fail
          refine (C2.out w4).mono ?_
          rintro e w' ⟨rfl, rfl⟩
          clear C2
          go_wp2_with fail
          refine (Q1.out w4).mono ?_
          rintro e w' ⟨rfl, rfl⟩
          go_wp2_with fail
          refine (Y3.out w4).mono ?_
          rintro e w' ⟨rfl, rfl⟩
          go_wp2_with fail
          refine (E.out w4).mono ?_
          rintro e w' ⟨rfl, rfl⟩
          clear E Q1
          go_wp2_with fail
          refine (M2.out w4).mono ?_
          rintro e w' ⟨rfl, rfl⟩
          go_wp2_with fail
          refine (Y3.out w4).mono ?_
          rintro e w' ⟨rfl, rfl⟩
          go_wp2_with fail
          refine (F1.out w4 HW4.out).mono ?_
          rintro e w5 ⟨rfl, hb⟩
          have HB5 := Lib.hid (HB4.out.trans (hb.mono HB4.out.size))
          have HW5 := Lib.hid (HW4.out.below hb)
          clear hb F1 HB4 HW4
          go_wp2_with fail
          refine (M2.out w5).mono ?_
          rintro e w' ⟨rfl, rfl⟩
          go_wp2_with fail
          refine (Y3.out w5).mono ?_
          rintro e w' ⟨rfl, rfl⟩
          go_wp2_with fail
          refine (F2.out w5).mono ?_
          rintro e w' ⟨rfl, rfl⟩
          clear F2
          go_wp2
          go_roundw
          case rel => exact ⟨j + 1, by omega, by go_num, HRB.out.out.1.trans (HB5.out.mono (by rw [← HGA.out]; exact HRB.out.out.1.size)), HRB.out.out.2.1.below HB5.out, HW5.out⟩
          case measure => simp [intOf]; omega
        · obtain rfl : j = 3 := by omega
          go_wp2
          go_roundw
          case rel => exact ⟨k + 1, by omega, by go_num, HR.out.out.1.trans (HRB.out.out.1.mono (by rw [← HG.out, ← HGA.out]; exact HZA.out)), HR.out.out.2.1.below (by rw [HGA.out]; exact HRB.out.out.1), HRB.out.out.2.2⟩
          case measure => simp [intOf]; omega
    · obtain rfl : k = 3 := by omega
      have A := Lib.hid (awake10_any wo HR.out.out.2.2)
      go_wp2_with fail
      refine A.out.mono ?_
      rintro e w' ⟨rfl, rfl⟩
      go_wp2
      go_ret
      exact ⟨rfl, by rw [HG.out]; exact HR.out.out.1⟩
end Go.Proofs.YtogpjoldfcmbfaaDoor
