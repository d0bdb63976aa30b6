
/- The walk of CalendarDays. -/
import Derived.Test.YtogpjoldfcmbfaaDoorYLaw
namespace Go.Proofs.YtogpjoldfcmbfaaDoor
open Go.RowKit Go.Sort Go.Shelf
open Cal
set_option linter.unusedVariables false

set_option maxRecDepth 100000 in
set_option maxHeartbeats 8000000 in
theorem calendarDays_walk (y m d n : Int) (w : World) (hw : Lens w) (wy : (Lit.int .i64 y).wf = true) (wm : (Lit.int .i64 m).wf = true) (wd : (Lit.int .i64 d).wf = true) (wn : (Lit.int .i64 n).wf = true) :
    Calls Tryd.prog 3 #[.int .i64 y, .int .i64 m, .int .i64 d, .int .i64 n] w fun e w' => e = .returned (.bool true) ∧ Below w.heap.size w w' := by
  obtain ⟨y1, y1a, y1b, _, Y1⟩ := mod_q y 10002 (by omega) (by omega)
  obtain ⟨y2, y2a, y2b, _, Y2⟩ := mod_q y 9999 (by omega) (by omega)
  obtain ⟨m1, m1a, m1b, _, M1⟩ := mod_q m 14 (by omega) (by omega)
  obtain ⟨d1, d1a, d1b, _, D1⟩ := mod_q d 33 (by omega) (by omega)
  obtain ⟨d2, d2a, d2b, _, D2⟩ := mod_q d 5 (by omega) (by omega)
  obtain ⟨n1, n1a, n1b, _, N1⟩ := mod_q n 3652059 (by omega) (by omega)
  obtain ⟨n2, n2a, n2b, _, N2⟩ := mod_q n 3 (by omega) (by omega)
  have HW := Lib.hid hw
  clear hw wy wm wd wn
  go_enter Tryd.func3, Tryd.ntmps3
  go_wp2_with fail
  refine (Y1.out _).mono ?_
  rintro e w' ⟨rfl, rfl⟩
  go_wp2_with fail
  refine (Y2.out _).mono ?_
  rintro e w' ⟨rfl, rfl⟩
  go_wp2
  have HL1 := Lib.hid (lit3 w y (y1 - 1) (1 + y2) 3)
  have HB1 := Lib.hid (al_below w (.cells #[.int .i64 y, .int .i64 (y1 - 1), .int .i64 (1 + y2)] 3))
  obtain ⟨g, hg⟩ : ∃ g, w.heap.size = g := ⟨_, rfl⟩
  have HG := Lib.hid hg
  have HW1 := Lib.hid (HW.out.below HB1.out)
  rw [hg] at HL1 HB1 ⊢
  clear hg
  generalize w.alloc (.cells #[.int .i64 y, .int .i64 (y1 - 1), .int .i64 (1 + y2)] 3) = w1 at *
  go_loopw [38] (fun s wr => ∃ k : Nat, k ≤ 3 ∧ s = .int .i64 k ∧ Hid (Below g w wr ∧ LitI wr g [y, y1 - 1, 1 + y2] ∧ Lens wr)) (fun s _ => 3 - (intOf s).toNat)
  case atStart => exact ⟨0, by omega, rfl, HB1.out, HL1.out, HW1.out⟩
  case round =>
    obtain ⟨k, hk, rfl, hr⟩ := hrel
    have HR := Lib.hid hr
    clear hr
    obtain ⟨wo, hwo⟩ : ∃ wo, wo = wr := ⟨_, rfl⟩
    subst hwo
    by_cases hlt : k < 3
    · have hc := HR.out.out.2.1.2 k hlt
      generalize [y, y1 - 1, 1 + y2].getD k 0 = Y at hc
      go_wp2_with fail
      refine (M1.out _).mono ?_
      rintro e w' ⟨rfl, rfl⟩
      clear hc
      go_wp2
      have HLA := Lib.hid (lit3 wo m m1 2 3)
      have HBA := Lib.hid (al_below wo (.cells #[.int .i64 m, .int .i64 m1, .int .i64 2] 3))
      obtain ⟨ga, hga⟩ : ∃ g, wo.heap.size = g := ⟨_, rfl⟩
      have HGA := Lib.hid hga
      have HWA := Lib.hid (HR.out.out.2.2.below HBA.out)
      have HZA := Lib.hid (HR.out.out.1.size)
      rw [hga] at HLA HBA ⊢
      clear hga
      generalize wo.alloc (.cells #[.int .i64 m, .int .i64 m1, .int .i64 2] 3) = wa at *
      go_loopw [47] (fun s wr => ∃ k : Nat, k ≤ 3 ∧ s = .int .i64 k ∧ Hid (Below ga wo wr ∧ LitI wr ga [m, m1, 2] ∧ Lens wr)) (fun s _ => 3 - (intOf s).toNat)
      case atStart => exact ⟨0, by omega, rfl, HBA.out, HLA.out, HWA.out⟩
      case round =>
        obtain ⟨j, hj, rfl, hr⟩ := hrel
        have HRB := Lib.hid hr
        clear hr
        obtain ⟨wi, hwi⟩ : ∃ wo, wo = wr := ⟨_, rfl⟩
        subst hwi
        by_cases hltj : j < 3
        · have hc := HRB.out.out.2.1.2 j hltj
          generalize [m, m1, 2].getD j 0 = MM at hc
          go_wp2_with fail
          refine (D1.out _).mono ?_
          rintro e w' ⟨rfl, rfl⟩
          clear hc
          go_wp2_with fail
          refine (D2.out _).mono ?_
          rintro e w' ⟨rfl, rfl⟩
          go_wp2
          have HLC := Lib.hid (lit3 wi d d1 (28 + d2) 3)
          have HBC := Lib.hid (al_below wi (.cells #[.int .i64 d, .int .i64 d1, .int .i64 (28 + d2)] 3))
          obtain ⟨gc, hgc⟩ : ∃ g, wi.heap.size = g := ⟨_, rfl⟩
          have HGC := Lib.hid hgc
          have HWC := Lib.hid (HRB.out.out.2.2.below HBC.out)
          have HZC := Lib.hid (HRB.out.out.1.size)
          rw [hgc] at HLC HBC ⊢
          clear hgc
          generalize wi.alloc (.cells #[.int .i64 d, .int .i64 d1, .int .i64 (28 + d2)] 3) = wc at *
          go_loop [59] (fun s => ∃ k : Nat, k ≤ 3 ∧ s = .int .i64 k) (fun s => 3 - (intOf s).toNat)
          case atStart => exact ⟨0, by omega, rfl⟩
          case round =>
            obtain ⟨i, hi, rfl⟩ := hrel
            by_cases hlti : i < 3
            · have hc := HLC.out.2 i hlti
              generalize [d, d1, 28 + d2].getD i 0 = D at hc
              have A := Lib.hid (day_any Y MM D wc HWC.out)
              have B := Lib.hid (rday_any Y MM D wc)
              obtain ⟨v, hv⟩ : ∃ v, dayV Y MM D = v := ⟨_, rfl⟩
              obtain ⟨x, hx⟩ : ∃ v, dayE 10 Y MM D = v := ⟨_, rfl⟩
              rw [hv, hx] at A B
              clear hv hx
              have n1 := neq_self v
              have n2 := neq_self x
              go_wp2_with fail
              refine A.out.mono ?_
              rintro e w' ⟨rfl, rfl⟩
              go_wp2_with fail
              refine B.out.mono ?_
              rintro e w' ⟨rfl, rfl⟩
              go_wp2
              go_round
              case rel => exact ⟨i + 1, by omega, by go_num⟩
              case measure => simp [intOf]; omega
            · obtain rfl : i = 3 := by omega
              go_wp2
              go_roundw
              case rel => exact ⟨j + 1, by omega, by go_num, HRB.out.out.1.trans (HBC.out.mono (by rw [← HGA.out, ← HGC.out]; exact HZC.out)), HRB.out.out.2.1.below (by rw [HGC.out]; exact HBC.out), HWC.out⟩
              case measure => simp [intOf]; omega
        · obtain rfl : j = 3 := by omega
          have A := Lib.hid (leap_any Y wi)
          have B := Lib.hid (rleap_any Y wi)
          generalize leapB Y = b at *
          have n1 := neqb_self b
          go_wp2_with fail
          refine A.out.mono ?_
          rintro e w' ⟨rfl, rfl⟩
          go_wp2_with fail
          refine B.out.mono ?_
          rintro e w' ⟨rfl, rfl⟩
          go_wp2
          go_roundw
          case rel => exact ⟨k + 1, by omega, by go_num, HR.out.out.1.trans (HRB.out.out.1.mono (by rw [← HG.out, ← HGA.out]; exact HZA.out)), HR.out.out.2.1.below (by rw [HGA.out]; exact HRB.out.out.1), HRB.out.out.2.2⟩
          case measure => simp [intOf]; omega
    · obtain rfl : k = 3 := by omega
      go_wp2_with fail
      refine (N1.out _).mono ?_
      rintro e w' ⟨rfl, rfl⟩
      go_wp2_with fail
      refine (N2.out _).mono ?_
      rintro e w' ⟨rfl, rfl⟩
      go_wp2
      have HLA := Lib.hid (lit3 wo n n1 (3652058 + n2 - 1) 3)
      have HBA := Lib.hid (al_below wo (.cells #[.int .i64 n, .int .i64 n1, .int .i64 (3652058 + n2 - 1)] 3))
      obtain ⟨ga, hga⟩ : ∃ g, wo.heap.size = g := ⟨_, rfl⟩
      have HGA := Lib.hid hga
      have HWA := Lib.hid (HR.out.out.2.2.below HBA.out)
      have HZA := Lib.hid (HR.out.out.1.size)
      rw [hga] at HLA HBA ⊢
      clear hga
      generalize wo.alloc (.cells #[.int .i64 n, .int .i64 n1, .int .i64 (3652058 + n2 - 1)] 3) = wa at *
      have HBG := Lib.hid (HR.out.out.1.trans (HBA.out.mono (by rw [← HG.out, ← HGA.out]; exact HZA.out)))
      go_loopw [102] (fun s wr => ∃ k : Nat, k ≤ 3 ∧ s = .int .i64 k ∧ Hid (Below g w wr ∧ LitI wr ga [n, n1, 3652058 + n2 - 1] ∧ Lens wr)) (fun s _ => 3 - (intOf s).toNat)
      case atStart => exact ⟨0, by omega, rfl, HBG.out, HLA.out, HWA.out⟩
      case round =>
        obtain ⟨j, hj, rfl, hr⟩ := hrel
        have HRB := Lib.hid hr
        clear hr
        obtain ⟨wi, hwi⟩ : ∃ wo, wo = wr := ⟨_, rfl⟩
        subst hwi
        by_cases hltj : j < 3
        · have hc := HRB.out.out.2.1.2 j hltj
          generalize [n, n1, 3652058 + n2 - 1].getD j 0 = N at hc
          have A := Lib.hid (date_any N wi HRB.out.out.2.2)
          have B := Lib.hid (fun w => rdate_any N w)
          generalize dY N = a1 at *
          generalize dM N = a2 at *
          generalize dD N = a3 at *
          generalize dE 2 N = a4 at *
          have n1 := neq_self a1
          have n2 := neq_self a2
          have n3 := neq_self a3
          have n4 := neq_self a4
          go_wp2_with fail
          refine A.out.mono ?_
          rintro e w2 ⟨rfl, hb⟩
          have HB2 := Lib.hid hb
          clear hb hc
          go_wp2_with fail
          refine (B.out w2).mono ?_
          rintro e w' ⟨rfl, rfl⟩
          go_wp2
          go_roundw
          case rel => exact ⟨j + 1, by omega, by go_num, HRB.out.out.1.trans (HB2.out.mono (by rw [← HG.out]; exact HRB.out.out.1.size)), HRB.out.out.2.1.below HB2.out, HRB.out.out.2.2.below HB2.out⟩
          case measure => simp [intOf]; omega
        · obtain rfl : j = 3 := by omega
          have A := Lib.hid (awake10_any wi HRB.out.out.2.2)
          go_wp2_with fail
          refine A.out.mono ?_
          rintro e w' ⟨rfl, rfl⟩
          go_wp2
          go_ret
          exact ⟨rfl, by rw [HG.out]; exact HRB.out.out.1⟩
end Go.Proofs.YtogpjoldfcmbfaaDoor
