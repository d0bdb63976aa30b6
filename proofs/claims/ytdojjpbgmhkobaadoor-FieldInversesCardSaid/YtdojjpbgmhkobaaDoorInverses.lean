/- The walk of FieldInverses. -/
import Derived.Test.YtdojjpbgmhkobaaDoorLawA
namespace Go.Proofs.YtdojjpbgmhkobaaDoor
open Go.RowKit
open Num
set_option linter.unusedVariables false

set_option maxHeartbeats 1000000 in
theorem fieldInverses_walk (s : Value) (l : List Int) (a m n : Int) (w : World) (hw : Wheel w) (hs : Ints w s l) (wa : (Lit.int .i64 a).wf = true) (wm : (Lit.int .u16 m).wf = true) (wn : (Lit.int .u16 n).wf = true) :
    Calls Tryd.prog 6 #[s, .int .i64 a, .int .u16 m, .int .u16 n] w fun e w' => e = .returned (.bool true) ∧ Below w.heap.size w w' := by
  obtain ⟨m0, m1⟩ := bounds_u16 wm
  obtain ⟨n0, n1⟩ := bounds_u16 wn
  by_cases hl : (l.length : Int) ≤ 500
  · have hl' : decide ((l.length : Int) ≤ 500) = true := by simpa using hl
    go_enter Tryd.func6, Tryd.ntmps6
    go_wp2_with (first
      | (go_at_call 8; refine (light_any _ _ _ hs).mono ?_; rintro e w' ⟨rfl, rfl⟩)
      | (go_at_call 10; refine (roll_any _ _ (by obtain ⟨x, y, h, _⟩ := hs; exact ⟨x, _, y, h⟩)).mono ?_; rintro e w' ⟨rfl, rfl⟩))
    refine (prime_any _ s l _ (dice_new hs)).mono ?_
    rintro e w1 ⟨p, hprm, hp2, rfl, hd1, hbut⟩
    have hbel := (But.trans (But.alloc w.heap.size w _) hbut).below (Nat.le_refl _) (Nat.le_refl _)
    have hw1 := start_wheel hw hbel
    have hp0 : 2 ≤ p := hprm.1
    have hp1 : 1 ≤ p := by omega
    have HB := Lib.hid hbel
    have HP := Lib.hid hprm
    clear hbel hbut hd1 hs hw hprm wm wn
    have hp3 : p ≤ 1073741824 := by omega
    have hone := one_mod hp0
    go_wp2_with fail
    refine (mod_el _ hp1 hp3).mono ?_; rintro e w' ⟨x, hx, rfl, rfl⟩
    by_cases hx0 : 0 < x
    · go_wp2_with (go_at_call 13; refine (inverse_some _ _ _ hp0 hp3 hx0 hx.2).mono ?_; rintro e w' ⟨rfl, rfl⟩)
      have f0 : (x == 0) = false := by simp; omega
      have wf1 := wf64 (n := p - 1) (by omega) (by omega)
      have wf2 := wf64 (n := m) (by omega) (by omega)
      have wf3 := wf64 (n := n) (by omega) (by omega)
      have wf4 := wf64 (n := m + n) (by omega) (by omega)
      have wf5 := wf64 (n := -m) (by omega) (by omega)
      have e1 := beq_of (mulF_iv HP.out hx0 hx.2)
      have e2 := beq_of (pz_top HP.out hx0 hx.2)
      have e3 := beq_of (pz_add (p := p) (x := x) m0 n0)
      have e4 := beq_of (pz_neg HP.out hx0 hx.2 m0)
      have g1 : IntKind.i64.wrap (m + n) = m + n := IntWalk.i64_in _ (by omega)
      have g2 : IntKind.i64.wrap (p - 1) = p - 1 := IntWalk.i64_in _ (by omega)
      have g3 : IntKind.i64.wrap (-m) = -m := IntWalk.i64_in _ (by omega)
      have g4 : (1 : Int).tmod p = 1 := by rw [Int.tmod_eq_emod_of_nonneg (by omega)]; exact hone
      go_quiet ((first
        | (go_at_call 23; exact quiet_left (pow_el _ hp0 hp3 hx (by assumption)))
        | (go_at_call 20; exact quiet_left (mul_el _ hp1 hp3 (by first | assumption | exact el_pz hp1 _ _ | exact el_iv hp1 _) (by first | assumption | exact el_pz hp1 _ _ | exact el_iv hp1 _)))
        | (go_at_call 9; exact quiet_left (awake_any _ hw1))))
      go_wp2
      go_ret
      exact ⟨rfl, below_drewN HB.out _⟩
    · obtain rfl : x = 0 := by have := hx.1; omega
      have e1 := beq_of (pz_zero' (a := 0) hp0)
      go_wp2_with (go_at_call 13; refine (inverse_none _ _ hp0 hp3).mono ?_; rintro e w' ⟨rfl, rfl⟩)
      go_quiet ((first
        | (go_at_call 23; exact quiet_left (pow_el _ hp0 hp3 (el_zero hp1) (by decide)))
        | (go_at_call 9; exact quiet_left (awake_any _ hw1))))
      go_wp2
      go_ret
      exact ⟨rfl, below_drewN HB.out _⟩
  · have hl' : decide ((l.length : Int) ≤ 500) = false := by simpa using hl
    clear hl
    go_enter Tryd.func6, Tryd.ntmps6
    go_wp2_with (first
      | (go_at_call 8; refine (light_any _ _ _ hs).mono ?_; rintro e w' ⟨rfl, rfl⟩)
      | (go_at_call 9; refine (awake_any _ hw).mono ?_; rintro e w' ⟨rfl, rfl⟩))
    go_ret
    exact ⟨rfl, Below.refl _ _⟩
end Go.Proofs.YtdojjpbgmhkobaaDoor
