
/- Days of other years: the program's Add and Within, and the document's; the layer's word that a call is not asleep. -/
import Derived.Test.YtogpjoldfcmbfaaDoorYRf2
namespace Go.Proofs.YtogpjoldfcmbfaaDoor
open Go.RowKit
open Cal
set_option linter.unusedVariables false

namespace Cal
def addB (n k : Int) : Bool := dayB n && decide (-9999 ≤ k) && decide (k ≤ 9999)
theorem addB_iff (n k : Int) : addB n k = true ↔ dayB n = true ∧ -9999 ≤ k ∧ k ≤ 9999 := by simp [addB, and_assoc]
def addV (n k : Int) : Int := if addB n k = true then dayV (dY n + k) (dM n) (min (dD n) (lenD (dY n + k) (dM n))) else 0
def addE (er ed n k : Int) : Int := if addB n k = true then dayE ed (dY n + k) (dM n) (min (dD n) (lenD (dY n + k) (dM n))) else er
def withinB (a b k : Int) : Bool := dayB a && dayB b && decide (0 ≤ k) && decide (k ≤ 100) && (addE 2 10 (min a b) k == 10 || decide (max a b ≤ addV (min a b) k))
end Cal

theorem min_lay (P : Program) (a b : Int) : ∀ (ts : Array TypeId) (t : TypeId) (W : World), (Builtin.min_ ts t #[.int .i64 a, .int .i64 b]).run P W = .ok (.int .i64 (min a b)) W := fun ts t W => by
  rw [run_min_int2]; congr 2; split <;> omega
theorem max_lay (P : Program) (a b : Int) : ∀ (ts : Array TypeId) (t : TypeId) (W : World), (Builtin.max_ ts t #[.int .i64 a, .int .i64 b]).run P W = .ok (.int .i64 (max a b)) W := fun ts t W => by
  rw [run_max_int2]; congr 2; split <;> omega

set_option maxHeartbeats 2000000 in
theorem add_days (n k : Int) (w : World) (hw : Lens w) :
    Calls Tryd.prog 22 #[.int .i64 n, .int .i64 k] w fun e w' => e = .returned (.tuple #[.int .i64 (addV n k), .int .i64 (addE 2 10 n k)]) ∧ Below w.heap.size w w' := by
  have HI := Lib.hid (isDay_any n w)
  by_cases h : addB n k = true
  · obtain ⟨hb, k1, k2⟩ := (addB_iff n k).1 h
    have e1 : addV n k = dayV (dY n + k) (dM n) (min (dD n) (lenD (dY n + k) (dM n))) := by unfold addV; rw [if_pos h]
    have e2 : addE 2 10 n k = dayE 10 (dY n + k) (dM n) (min (dD n) (lenD (dY n + k) (dM n))) := by unfold addE; rw [if_pos h]
    rw [e1, e2]
    have hd := isDate_d hb
    obtain ⟨j, hj, hj2⟩ : ∃ j : Nat, dM n = (j : Int) + 1 ∧ j < 12 := ⟨(dM n - 1).toNat, by have := hd.m1; omega, by have := hd.m1; have := hd.m2; omega⟩
    have HDT := Lib.hid (date_any n w hw)
    rw [hb] at HI
    have h1 := hd.y1
    have h2 := hd.y2
    have HLN := Lib.hid hw
    have hw1 : IntKind.i64.wrap (dY n + k) = dY n + k := by rw [IntKind.wrap_i64]; omega
    rw [hj] at HDT ⊢
    have HLE : Hid (∀ w, Lens w → Calls Tryd.prog 26 #[.int .i64 (dY n + k), .int .i64 ((j : Int) + 1)] w fun e w' => e = .returned (.int .i64 (lenD (dY n + k) ((j : Int) + 1))) ∧ w = w') := fun w hw => length_any _ j w hw hj2
    generalize dE 2 n = ee at *
    generalize dD n = DD at *
    generalize dY n = Y at *
    have HMN := min_lay Tryd.prog DD (lenD (Y + k) ((j : Int) + 1))
    have HDA : Hid (∀ w, Lens w → Calls Tryd.prog 10 #[.int .i64 (Y + k), .int .i64 ((j : Int) + 1), .int .i64 (min DD (lenD (Y + k) ((j : Int) + 1)))] w fun e w' => e = .returned (.tuple #[.int .i64 (dayV (Y + k) ((j : Int) + 1) (min DD (lenD (Y + k) ((j : Int) + 1)))), .int .i64 (dayE 10 (Y + k) ((j : Int) + 1) (min DD (lenD (Y + k) ((j : Int) + 1))))]) ∧ w = w') := fun w hw => day_any _ _ _ w hw
    generalize dayV (Y + k) ((j : Int) + 1) (min DD (lenD (Y + k) ((j : Int) + 1))) = RV at *
    generalize dayE 10 (Y + k) ((j : Int) + 1) (min DD (lenD (Y + k) ((j : Int) + 1))) = RE at *
    generalize min DD (lenD (Y + k) ((j : Int) + 1)) = MM at *
    generalize lenD (Y + k) ((j : Int) + 1) = LL at *
    have g1 : ¬ k < -9999 := by omega
    have g2 : ¬ 9999 < k := by omega
    clear h hb e1 e2 hd hw k1 k2 hj
    go_enter Tryd.func22, Tryd.ntmps22
    go_wp2_with fail
    refine HI.out.mono ?_
    rintro e w' ⟨rfl, rfl⟩
    go_wp2_with fail
    refine HDT.out.mono ?_
    rintro e w1 ⟨rfl, hb⟩
    have HB := Lib.hid hb
    have HL1 := Lib.hid (HLN.out.below hb)
    clear hb
    go_wp2_with fail
    refine (HLE.out w1 HL1.out).mono ?_
    rintro e w' ⟨rfl, rfl⟩
    go_wp2_with fail
    refine (HDA.out w1 HL1.out).mono ?_
    rintro e w' ⟨rfl, rfl⟩
    go_wp2
    go_ret2
    exact ⟨rfl, HB.out⟩
  · have e1 : addV n k = 0 := by unfold addV; rw [if_neg h]
    have e2 : addE 2 10 n k = 2 := by unfold addE; rw [if_neg h]
    rw [e1, e2]
    have hx : dayB n = false ∨ (dayB n = true ∧ (k < -9999 ∨ (¬ k < -9999 ∧ 9999 < k))) := by
      cases hb : dayB n
      · exact .inl rfl
      · right; refine ⟨rfl, ?_⟩
        have : ¬ (-9999 ≤ k ∧ k ≤ 9999) := fun hc => h ((addB_iff n k).2 ⟨hb, hc⟩)
        omega
    clear h e1 e2 hw
    rcases hx with hb | ⟨hb, hk | ⟨hk, hk2⟩⟩
    all_goals
      rw [hb] at HI
      clear hb
      go_enter Tryd.func22, Tryd.ntmps22
      go_wp2_with fail
      refine HI.out.mono ?_
      rintro e w' ⟨rfl, rfl⟩
      go_wp2
      go_ret2
      exact ⟨rfl, Below.refl _ _⟩

set_option maxHeartbeats 2000000 in
theorem radd_days (n k : Int) (w : World) :
    Calls Tryd.prog 23 #[.int .i64 n, .int .i64 k] w fun e w' => e = .returned (.tuple #[.int .i64 (addV n k), .int .i64 (addE 2 10 n k)]) ∧ w = w' := by
  have HDT := Lib.hid (rdate_any n w)
  by_cases h : addB n k = true
  · obtain ⟨hb, k1, k2⟩ := (addB_iff n k).1 h
    have e1 : addV n k = dayV (dY n + k) (dM n) (min (dD n) (lenD (dY n + k) (dM n))) := by unfold addV; rw [if_pos h]
    have e2 : addE 2 10 n k = dayE 10 (dY n + k) (dM n) (min (dD n) (lenD (dY n + k) (dM n))) := by unfold addE; rw [if_pos h]
    have e3 : dE 2 n = 0 := by unfold dE; rw [if_pos hb]
    rw [e1, e2]
    rw [e3] at HDT
    have hd := isDate_d hb
    have h1 := hd.y1
    have h2 := hd.y2
    have hw1 : IntKind.i64.wrap (dY n + k) = dY n + k := by rw [IntKind.wrap_i64]; omega
    have HLE : Hid (∀ w, Calls Tryd.prog 28 #[.int .i64 (dY n + k), .int .i64 (dM n)] w fun e w' => e = .returned (.int .i64 (lenD (dY n + k) (dM n))) ∧ w = w') := fun w => rlength_any _ _ w
    have HBD : Hid (dY n + k < 1 ∨ 9999 < dY n + k → dayV (dY n + k) (dM n) (min (dD n) (lenD (dY n + k) (dM n))) = 0 ∧ dayE 10 (dY n + k) (dM n) (min (dD n) (lenD (dY n + k) (dM n))) = 10) := fun hx => v_bad (by omega)
    generalize dM n = MO at *
    generalize dD n = DD at *
    generalize dY n = Y at *
    have HMN := min_lay Tryd.prog DD (lenD (Y + k) MO)
    have HDA : Hid (∀ w, Calls Tryd.prog 11 #[.int .i64 (Y + k), .int .i64 MO, .int .i64 (min DD (lenD (Y + k) MO))] w fun e w' => e = .returned (.tuple #[.int .i64 (dayV (Y + k) MO (min DD (lenD (Y + k) MO))), .int .i64 (dayE 10 (Y + k) MO (min DD (lenD (Y + k) MO)))]) ∧ w = w') := fun w => rday_any _ _ _ w
    generalize dayV (Y + k) MO (min DD (lenD (Y + k) MO)) = RV at *
    generalize dayE 10 (Y + k) MO (min DD (lenD (Y + k) MO)) = RE at *
    generalize min DD (lenD (Y + k) MO) = MM at *
    generalize lenD (Y + k) MO = LL at *
    have g1 : ¬ k < -9999 := by omega
    have g2 : ¬ 9999 < k := by omega
    have hcs : Y + k < 1 ∨ (¬ Y + k < 1 ∧ (9999 < Y + k ∨ ¬ 9999 < Y + k)) := by omega
    clear h hb e1 e2 hd k1 k2 e3
    rcases hcs with hx | ⟨hx, hy | hy⟩
    · obtain ⟨b1, b2⟩ := HBD.out (.inl hx)
      rw [b1, b2]
      clear HBD b1 b2
      go_enter Tryd.func23, Tryd.ntmps23
      go_wp2_with fail
      refine HDT.out.mono ?_
      rintro e w' ⟨rfl, rfl⟩
      go_wp2
      go_ret2
      exact ⟨rfl, rfl⟩
    · obtain ⟨b1, b2⟩ := HBD.out (.inr hy)
      rw [b1, b2]
      clear HBD b1 b2
      go_enter Tryd.func23, Tryd.ntmps23
      go_wp2_with fail
      refine HDT.out.mono ?_
      rintro e w' ⟨rfl, rfl⟩
      go_wp2
      go_ret2
      exact ⟨rfl, rfl⟩
    · clear HBD
      go_enter Tryd.func23, Tryd.ntmps23
      go_wp2_with fail
      refine HDT.out.mono ?_
      rintro e w' ⟨rfl, rfl⟩
      go_wp2_with fail
      refine (HLE.out _).mono ?_
      rintro e w' ⟨rfl, rfl⟩
      go_wp2_with fail
      refine (HDA.out _).mono ?_
      rintro e w' ⟨rfl, rfl⟩
      go_wp2
      go_ret2
      exact ⟨rfl, rfl⟩
  · have e1 : addV n k = 0 := by unfold addV; rw [if_neg h]
    have e2 : addE 2 10 n k = 2 := by unfold addE; rw [if_neg h]
    rw [e1, e2]
    have hx : dE 2 n = 2 ∨ (dE 2 n = 0 ∧ (k < -9999 ∨ (¬ k < -9999 ∧ 9999 < k))) := by
      cases hb : dayB n
      · left; unfold dE; rw [hb]; rfl
      · right; refine ⟨by unfold dE; rw [hb]; rfl, ?_⟩
        have : ¬ (-9999 ≤ k ∧ k ≤ 9999) := fun hc => h ((addB_iff n k).2 ⟨hb, hc⟩)
        omega
    clear h e1 e2
    generalize dY n = Y at *
    generalize dM n = MO at *
    generalize dD n = DD at *
    generalize dE 2 n = ee at *
    rcases hx with rfl | ⟨rfl, hk | ⟨hk, hk2⟩⟩
    all_goals
      go_enter Tryd.func23, Tryd.ntmps23
      go_wp2_with fail
      refine HDT.out.mono ?_
      rintro e w' ⟨rfl, rfl⟩
      go_wp2
      go_ret2
      exact ⟨rfl, rfl⟩
end Go.Proofs.YtogpjoldfcmbfaaDoor
