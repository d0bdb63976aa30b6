
/- The walk of CalendarWithin. -/
import Derived.Test.YtogpjoldfcmbfaaDoorYLaw
import Derived.Test.YtogpjoldfcmbfaaDoorYMt2
import Derived.Deep.DeepCutAuto
import Derived.Deep.Cut
namespace Go.Proofs.YtogpjoldfcmbfaaDoor
open Go.RowKit Go.Sort Go.Shelf
open Cal
set_option linter.unusedVariables false

theorem wf_u8 {a : Int} (h : (Lit.int .u8 a).wf = true) : ∃ n : Nat, a = n ∧ n < 256 := by
  simp [Lit.wf, IntKind.min, IntKind.max, IntKind.signed, IntKind.bits] at h
  exact ⟨a.toNat, by omega, by omega⟩
theorem even_or (b : Int) : (b.tmod 2 == 0) = true ∨ (b.tmod 2 == 0) = false := by cases b.tmod 2 == 0 <;> simp

set_option maxRecDepth 100000 in
set_option maxHeartbeats 8000000 in
theorem calendarWithin_walk (a b : Int) (u v : Nat) (w : World) (hw : Lens w) (wa : (Lit.int .i64 a).wf = true) (wb : (Lit.int .i64 b).wf = true) (wu : u < 256) (wv : v < 256) :
    Calls Tryd.prog 7 #[.int .i64 a, .int .i64 b, .int .u8 u, .int .u8 v] w fun e w' => e = .returned (.bool true) ∧ Below w.heap.size w w' := by
  obtain ⟨x, xa, xb, _, X⟩ := mod_q a 3652059 (by omega) (by omega)
  obtain ⟨y1, y1a, y1b, _, Y1⟩ := mod_q b 3652059 (by omega) (by omega)
  obtain ⟨y2, y2a, y2b, _, Y2⟩ := mod_q b 40000 (by omega) (by omega)
  obtain ⟨k, hk, hk2⟩ : ∃ k : Nat, ((u : Int)).tmod 90 = (k : Int) ∧ k ≤ 89 := ⟨u % 90, by rw [Int.tmod_eq_emod_of_nonneg (by omega)]; omega, by omega⟩
  obtain ⟨j, hj, hj2⟩ : ∃ j : Nat, ((v : Int)).tmod 10 = (j : Int) ∧ j ≤ 9 := ⟨v % 10, by rw [Int.tmod_eq_emod_of_nonneg (by omega)]; omega, by omega⟩
  have HW := Lib.hid hw
  have HALL : Hid (∀ y : Int, 0 ≤ y → y ≤ 3652058 → ∃ (bb : Bool) (MN MX : Int), 0 ≤ MN ∧ MN ≤ MX ∧ MX ≤ 3652058 ∧ (∀ (ts : Array TypeId) (t : TypeId) (W : World), (Builtin.min_ ts t #[.int .i64 x, .int .i64 y]).run Tryd.prog W = .ok (.int .i64 MN) W) ∧ (∀ (ts : Array TypeId) (t : TypeId) (W : World), (Builtin.max_ ts t #[.int .i64 x, .int .i64 y]).run Tryd.prog W = .ok (.int .i64 MX) W) ∧
      Hid (∀ w, Lens w → Calls Tryd.prog 24 #[.int .i64 x, .int .i64 y, .int .i64 k] w fun e w' => e = .returned (.bool bb) ∧ Below w.heap.size w w') ∧
      Hid (∀ w, Lens w → Calls Tryd.prog 24 #[.int .i64 y, .int .i64 x, .int .i64 k] w fun e w' => e = .returned (.bool bb) ∧ Below w.heap.size w w') ∧
      Hid (∀ w, Lens w → bb = true → Calls Tryd.prog 24 #[.int .i64 x, .int .i64 y, .int .i64 ((k : Int) + j)] w fun e w' => e = .returned (.bool true) ∧ Below w.heap.size w w') ∧
      Hid (∀ w, Lens w → Calls Tryd.prog 24 #[.int .i64 x, .int .i64 x, .int .i64 k] w fun e w' => e = .returned (.bool true) ∧ Below w.heap.size w w') ∧
      Hid ((bb = true ∧ (MX - MN ≤ 366 * k ∨ (¬ MX - MN ≤ 366 * k ∧ 3652058 - 366 * (k : Int) < MN))) ∨ (bb = false ∧ 365 * (k : Int) < MX - MN))) := fun y hy hy2 => by
    have hx : dayB x = true := (dayB_iff x).2 ⟨xa, by omega⟩
    have hyd : dayB y = true := (dayB_iff y).2 ⟨hy, hy2⟩
    refine ⟨withinB x y k, min x y, max x y, by omega, by omega, by omega, min_lay _ x y, max_lay _ x y, fun w hw => within_any x y k w hw, fun w hw => ?_, fun w hw hb => ?_, fun w hw => ?_, ?_⟩
    · have := within_any y x k w hw
      rwa [within_sym] at this
    · have := within_any x y ((k : Int) + j) w hw
      rwa [within_more hx hyd (by omega) hb] at this
    · have := within_any x x k w hw
      rwa [within_self hx (by omega)] at this
    · cases hbb : withinB x y k
      · right; refine ⟨rfl, ?_⟩
        by_cases hc : max x y - min x y ≤ 365 * k
        · rw [within_near hx hyd (by omega) hc] at hbb; cases hbb
        · omega
      · left; refine ⟨rfl, ?_⟩
        have := within_far hx hyd (by omega) hbb
        omega
  clear hw wa wb
  go_enter Tryd.func7, Tryd.ntmps7
  go_wp2_with fail
  refine (X.out _).mono ?_
  rintro e w' ⟨rfl, rfl⟩
  go_wp2_with fail
  refine (Y1.out _).mono ?_
  rintro e w' ⟨rfl, rfl⟩
  have HMF := min_lay Tryd.prog 3652058 (x + y2)
  have HYY : Hid (0 ≤ min 3652058 (x + y2) ∧ min 3652058 (x + y2) ≤ 3652058) := by show _ ∧ _; omega
  generalize min 3652058 (x + y2) = Y3 at *
  obtain ⟨bq, hbq⟩ : ∃ q, (b.tmod 2 == 0) = q := ⟨_, rfl⟩
  go_upto_if 20 with fail
  go_cut [10] (fun s W => ∃ Y : Int, 0 ≤ Y ∧ Y ≤ 3652058 ∧ s = .int .i64 Y ∧ w = W)
  case first =>
    cases bq
    · go_wp2
      go_meet
      exact ⟨y1, y1a, by omega, rfl, rfl⟩
    · go_wp2_with fail
      refine (Y2.out _).mono ?_
      rintro e w' ⟨rfl, rfl⟩
      go_wp2
      go_meet
      exact ⟨Y3, HYY.out.1, HYY.out.2, rfl, rfl⟩
  case rest =>
    obtain ⟨Y, hY1, hY2, rfl, rfl⟩ := hcut
    clear hbq X Y1 Y2 y1a y1b y2a y2b
    obtain ⟨bb, MN, MX, r1, r2, r3, hmn, hmx, A1, A2, A3, A4, A5⟩ := HALL.out Y hY1 hY2
    clear HALL HYY HMF
    go_wp2_with fail
    refine (A1.out w HW.out).mono ?_
    rintro e w1 ⟨rfl, hb⟩
    have HB1 := Lib.hid hb
    have HW1 := Lib.hid (HW.out.below hb)
    clear hb A1
    have hA5 := A5.out
    clear A5
    rcases hA5 with ⟨rfl, hA5⟩ | ⟨rfl, hA5⟩
    · go_wp2_with fail
      refine (A2.out w1 HW1.out).mono ?_
      rintro e w2 ⟨rfl, hb⟩
      have HB2 := Lib.hid (HB1.out.trans (hb.mono HB1.out.size))
      have HW2 := Lib.hid (HW1.out.below hb)
      clear hb A2 HB1 HW1
      go_wp2_with fail
      refine (A3.out w2 HW2.out trivial).mono ?_
      rintro e w3 ⟨rfl, hb⟩
      have HB3 := Lib.hid (HB2.out.trans (hb.mono HB2.out.size))
      have HW3 := Lib.hid (HW2.out.below hb)
      clear hb A3 HB2 HW2
      go_wp2_with fail
      refine (A4.out w3 HW3.out).mono ?_
      rintro e w4 ⟨rfl, hb⟩
      have HB4 := Lib.hid (HB3.out.trans (hb.mono HB3.out.size))
      have HW4 := Lib.hid (HW3.out.below hb)
      clear hb A4 HB3 HW3
      have AW := Lib.hid (awake10_any w4 HW4.out)
      clear HW4 xa xb wu wv hk hj hj2 hY1 hY2
      have hB : 365 * (k : Int) < MX - MN ∨ ¬ 365 * (k : Int) < MX - MN := by omega
      rcases hA5 with h | ⟨h, h'⟩ <;> rcases hB with hB | hB
      all_goals
        go_wp2_with fail
        refine AW.out.mono ?_
        rintro e w' ⟨rfl, rfl⟩
        go_wp2
        go_ret
        exact ⟨by first | rfl | exact ret_bool (by simp), HB4.out⟩
    · go_wp2_with fail
      refine (A2.out w1 HW1.out).mono ?_
      rintro e w2 ⟨rfl, hb⟩
      have HB2 := Lib.hid (HB1.out.trans (hb.mono HB1.out.size))
      have HW2 := Lib.hid (HW1.out.below hb)
      clear hb A2 HB1 HW1 A3
      go_wp2_with fail
      refine (A4.out w2 HW2.out).mono ?_
      rintro e w4 ⟨rfl, hb⟩
      have HB4 := Lib.hid (HB2.out.trans (hb.mono HB2.out.size))
      have HW4 := Lib.hid (HW2.out.below hb)
      clear hb A4 HB2 HW2
      have AW := Lib.hid (awake10_any w4 HW4.out)
      clear HW4 xa xb wu wv hk hj hj2 hY1 hY2
      by_cases h : MX - MN ≤ 366 * k
      all_goals
        go_wp2_with fail
        refine AW.out.mono ?_
        rintro e w' ⟨rfl, rfl⟩
        go_wp2
        go_ret
        exact ⟨by first | rfl | exact ret_bool (by simp), HB4.out⟩
end Go.Proofs.YtogpjoldfcmbfaaDoor
