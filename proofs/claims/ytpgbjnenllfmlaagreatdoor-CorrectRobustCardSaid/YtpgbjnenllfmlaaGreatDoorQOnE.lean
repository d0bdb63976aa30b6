
/- The document's One: its errors. -/
import Derived.Test.YtpgbjnenllfmlaaGreatDoorQOne
namespace Go.Proofs.YtpgbjnenllfmlaaGreatDoor
open Go.RowKit Go.Sort
open Num
set_option linter.unusedVariables false

theorem elB_parts {p : Int} {l : List Int} (h : elB p l = true) : Els p l ∧ vB p = true := by
  unfold elB at h
  rw [Bool.and_eq_true, List.all_eq_true] at h
  refine ⟨fun x hx => ?_, h.2⟩
  have := h.1 x hx
  unfold okB at this
  rw [Bool.and_eq_true, decide_eq_true_eq, decide_eq_true_eq] at this
  exact this
set_option maxRecDepth 100000 in
set_option maxHeartbeats 8000000 in
theorem ref7_one_any (p need lies : Int) (ax ay : Option Addr) (n m cx cy : Nat) (xs ys : List Int) (w : World) (hpw : (Lit.int .i64 p).wf = true) (hnw : (Lit.int .i64 need).wf = true) (hlw : (Lit.int .i64 lies).wf = true) (hsx : Ints w (.slice ax n cx) xs) (hcx : n ≤ cx) (hcx2 : cx ≤ 9223372036854775807) (hsy : Ints w (.slice ay m cy) ys) (hnx : xs.length = n) (hny : ys.length = m) (hn : n ≤ 1000) (hm : m ≤ 1000) :
    Calls Tryz.prog 42 #[.int .i64 p, .int .i64 need, .int .i64 lies, .slice ax n cx, .slice ay m cy] w (OneW p need lies xs ys w) := by
  have HE1 := Lib.hid (ref_elements p (.slice ax n cx) xs w hpw hsx)
  have HE2 := Lib.hid (ref_elements p (.slice ay m cy) ys w hpw hsy)
  have HTW := Lib.hid (twice_any ax n cx xs w hsx hnx hn hcx hcx2)
  have HNX := Lib.hid hnx
  have HNY := Lib.hid hny
  obtain ⟨l1, l2⟩ := wf_range hlw
  obtain ⟨k1, k2⟩ := wf_range hnw
  obtain ⟨b1, hb1⟩ : ∃ b, elB p xs = b := ⟨_, rfl⟩
  obtain ⟨b2, hb2⟩ : ∃ b, elB p ys = b := ⟨_, rfl⟩
  obtain ⟨b3, hb3⟩ : ∃ b, dupB xs = b := ⟨_, rfl⟩
  rw [hb1] at HE1
  rw [hb2] at HE2
  rw [hb3] at HTW
  have HB1 := Lib.hid hb1
  have HB2 := Lib.hid hb2
  have HB3 := Lib.hid hb3
  clear hb1 hb2 hb3
  cases b1 with
  | false =>
    have HC : Hid (oneC p need lies xs ys = 1) := oneC_bad fun h => by
      have := elB_of7 (vB_out h.1).1 (vB_out h.1).2 h.2.2.2.2.2.1
      rw [HB1.out] at this; cases this
    clear hsx hsy hpw hnw hlw
    go_enter Tryz.func42, Tryz.ntmps42
    go_wp2_with fail
    refine HE1.out.mono ?_
    rintro e w1 ⟨rfl, rfl⟩
    go_wp2_with fail
    go_ret2
    exact oneW_bad HC.out (by omega) (Below.refl _ _)
  | true =>
    cases b2 with
    | false =>
      have HC : Hid (oneC p need lies xs ys = 1) := oneC_bad fun h => by
        have := elB_of7 (vB_out h.1).1 (vB_out h.1).2 h.2.2.2.2.2.2.1
        rw [HB2.out] at this; cases this
      clear hsx hsy hpw hnw hlw
      go_enter Tryz.func42, Tryz.ntmps42
      go_wp2_with fail
      refine HE1.out.mono ?_
      rintro e w1 ⟨rfl, rfl⟩
      go_wp2_with fail
      refine HE2.out.mono ?_
      rintro e w2 ⟨rfl, rfl⟩
      go_wp2_with fail
      go_ret2
      exact oneW_bad HC.out (by omega) (Below.refl _ _)
    | true =>
      by_cases h1 : need < 1
      · have HC : Hid (oneC p need lies xs ys = 1) := oneC_bad fun h => by have := h.2.1; omega
        have d1 : decide (need < 1) = true := by simpa using h1
        clear hsx hsy hpw hnw hlw
        go_enter Tryz.func42, Tryz.ntmps42
        go_wp2_with fail
        refine HE1.out.mono ?_
        rintro e w1 ⟨rfl, rfl⟩
        go_wp2_with fail
        refine HE2.out.mono ?_
        rintro e w2 ⟨rfl, rfl⟩
        go_wp2_with fail
        go_ret2
        exact oneW_bad HC.out (by omega) (Below.refl _ _)
      have d1 : decide (need < 1) = false := by simpa using h1
      by_cases h2 : lies < 0
      · have HC : Hid (oneC p need lies xs ys = 1) := oneC_bad fun h => by have := h.2.2.1; omega
        have d2 : decide (lies < 0) = true := by simpa using h2
        clear hsx hsy hpw hnw hlw
        go_enter Tryz.func42, Tryz.ntmps42
        go_wp2_with fail
        refine HE1.out.mono ?_
        rintro e w1 ⟨rfl, rfl⟩
        go_wp2_with fail
        refine HE2.out.mono ?_
        rintro e w2 ⟨rfl, rfl⟩
        go_wp2_with fail
        go_ret2
        exact oneW_bad HC.out (by omega) (Below.refl _ _)
      have d2 : decide (lies < 0) = false := by simpa using h2
      by_cases h3 : n = m
      rotate_left
      · have HC : Hid (oneC p need lies xs ys = 1) := oneC_bad fun h => by have := h.2.2.2.1; rw [HNX.out, HNY.out] at this; exact h3 this
        have d3 : ((n : Int) != (m : Int)) = true := by simp only [bne_iff_ne, ne_eq]; omega
        have d3' : ¬ ((n : Int) = (m : Int)) := by omega
        clear hsx hsy hpw hnw hlw
        go_enter Tryz.func42, Tryz.ntmps42
        go_wp2_with fail
        refine HE1.out.mono ?_
        rintro e w1 ⟨rfl, rfl⟩
        go_wp2_with fail
        refine HE2.out.mono ?_
        rintro e w2 ⟨rfl, rfl⟩
        go_wp2_with fail
        go_ret2
        exact oneW_bad HC.out (by omega) (Below.refl _ _)
      subst h3
      by_cases h4 : 16 < n
      · have HC : Hid (oneC p need lies xs ys = 1) := oneC_bad fun h => by have := h.2.2.2.2.1; rw [HNX.out] at this; omega
        have d4 : decide (16 < n) = true := by simpa using h4
        have d4' : decide ((16 : Int) < (n : Int)) = true := by simp; omega
        clear hsx hsy hpw hnw hlw
        go_enter Tryz.func42, Tryz.ntmps42
        go_wp2_with fail
        refine HE1.out.mono ?_
        rintro e w1 ⟨rfl, rfl⟩
        go_wp2_with fail
        refine HE2.out.mono ?_
        rintro e w2 ⟨rfl, rfl⟩
        go_wp2_with fail
        go_ret2
        exact oneW_bad HC.out (by omega) (Below.refl _ _)
      have d4 : decide (16 < n) = false := by simpa using h4
      have d4' : decide ((16 : Int) < (n : Int)) = false := by simp; omega
      have d4'' : ¬ ((16 : Int) < (n : Int)) := by omega
      have hel : Els p xs ∧ vB p = true := elB_parts HB1.out
      have hel2 : Els p ys ∧ vB p = true := elB_parts HB2.out
      cases b3 with
      | true =>
        have h5 : 0 < n := by
          rcases Nat.eq_zero_or_pos n with h | h
          · have : xs = [] := List.length_eq_zero_iff.1 (by rw [HNX.out, h])
            have h9 := HB3.out
            rw [this] at h9; cases h9
          · exact h
        have HC : Hid (oneC p need lies xs ys = 1) := oneC_bad fun h => by
          have := dup_of_nodup h.2.2.2.2.2.2.2
          rw [HB3.out] at this; cases this
        have d5 : decide (0 < n) = true := by simpa using h5
        have d5' : decide ((0 : Int) < (n : Int)) = true := by simp; omega
        have d5'' : (0 : Int) < (n : Int) := by omega
        clear hsx hsy hpw hnw hlw
        clear hel hel2
        go_enter Tryz.func42, Tryz.ntmps42
        go_wp2_with fail
        refine HE1.out.mono ?_
        rintro e w1 ⟨rfl, rfl⟩
        go_wp2_with fail
        refine HE2.out.mono ?_
        rintro e w2 ⟨rfl, rfl⟩
        go_wp2_with fail
        refine HTW.out.mono ?_
        rintro e w3 ⟨rfl, rfl⟩
        go_wp2_with fail
        go_ret2
        exact oneW_bad HC.out (by omega) (Below.refl _ _)
      | false =>
        have HALL : Hid (vB p = true ∧ 1 ≤ need ∧ 0 ≤ lies ∧ xs.length = ys.length ∧ xs.length ≤ 16 ∧ Els p xs ∧ Els p ys ∧ xs.Nodup) := ⟨hel.2, by omega, by omega, by rw [HNX.out, HNY.out], by rw [HNX.out]; omega, hel.1, hel2.1, nodup_of HB3.out⟩
        obtain ⟨T, hT⟩ : ∃ T, 2 * lies = T := ⟨_, rfl⟩
        obtain ⟨D, hD⟩ : ∃ D, (n : Int) - T = D := ⟨_, rfl⟩
        by_cases h6 : (n : Int) < lies
        · have HC : Hid (oneC p need lies xs ys = 5) := oneC_few HALL.out (by rw [HNX.out]; omega)
          have d6 : decide ((n : Int) < lies) = true := by simpa using h6
          clear hT hD
          by_cases h5 : 0 < n
          · have d5 : decide (0 < n) = true := by simpa using h5
            have d5' : decide ((0 : Int) < (n : Int)) = true := by simp; omega
            have d5'' : (0 : Int) < (n : Int) := by omega
            clear hsx hsy hpw hnw hlw
            clear hel hel2
            go_enter Tryz.func42, Tryz.ntmps42
            go_wp2_with fail
            refine HE1.out.mono ?_
            rintro e w1 ⟨rfl, rfl⟩
            go_wp2_with fail
            refine HE2.out.mono ?_
            rintro e w2 ⟨rfl, rfl⟩
            go_wp2_with fail
            refine HTW.out.mono ?_
            rintro e w3 ⟨rfl, rfl⟩
            go_wp2_with fail
            go_ret2
            exact oneW_bad HC.out (by omega) (Below.refl _ _)
          · obtain rfl : n = 0 := by omega
            clear hsx hsy hpw hnw hlw
            clear hel hel2
            go_enter Tryz.func42, Tryz.ntmps42
            go_wp2_with fail
            refine HE1.out.mono ?_
            rintro e w1 ⟨rfl, rfl⟩
            go_wp2_with fail
            refine HE2.out.mono ?_
            rintro e w2 ⟨rfl, rfl⟩
            go_wp2_with fail
            go_ret2
            exact oneW_bad HC.out (by omega) (Below.refl _ _)
        have d6 : decide ((n : Int) < lies) = false := by simpa using h6
        have u1 : IntKind.i64.wrap (2 * lies) = T := by rw [IntKind.wrap_i64]; omega
        have u2 : IntKind.i64.wrap ((n : Int) - T) = D := by rw [IntKind.wrap_i64]; omega
        by_cases h7 : D < need
        · have HC : Hid (oneC p need lies xs ys = 5) := oneC_few HALL.out (by rw [HNX.out]; omega)
          have d7 : decide (D < need) = true := by simpa using h7
          clear hT hD
          by_cases h5 : 0 < n
          · have d5 : decide (0 < n) = true := by simpa using h5
            have d5' : decide ((0 : Int) < (n : Int)) = true := by simp; omega
            have d5'' : (0 : Int) < (n : Int) := by omega
            clear hsx hsy hpw hnw hlw
            clear hel hel2
            go_enter Tryz.func42, Tryz.ntmps42
            go_wp2_with fail
            refine HE1.out.mono ?_
            rintro e w1 ⟨rfl, rfl⟩
            go_wp2_with fail
            refine HE2.out.mono ?_
            rintro e w2 ⟨rfl, rfl⟩
            go_wp2_with fail
            refine HTW.out.mono ?_
            rintro e w3 ⟨rfl, rfl⟩
            go_wp2_with fail
            go_ret2
            exact oneW_bad HC.out (by omega) (Below.refl _ _)
          · obtain rfl : n = 0 := by omega
            obtain rfl : lies = 0 := by omega
            clear hsx hsy hpw hnw hlw
            clear hel hel2
            go_enter Tryz.func42, Tryz.ntmps42
            go_wp2_with fail
            refine HE1.out.mono ?_
            rintro e w1 ⟨rfl, rfl⟩
            go_wp2_with fail
            refine HE2.out.mono ?_
            rintro e w2 ⟨rfl, rfl⟩
            go_wp2_with fail
            go_ret2
            exact oneW_bad HC.out (by omega) (Below.refl _ _)
        obtain ⟨k, rfl⟩ := Int.eq_ofNat_of_zero_le (show 0 ≤ need by omega)
        obtain ⟨t, rfl⟩ := Int.eq_ofNat_of_zero_le (show 0 ≤ lies by omega)
        exact ref7_one_good p k t n ax ay cx cy xs ys w (vB_out hel.2).1 (vB_out hel.2).2 (by omega) (by omega) (by omega) hel.1 hel2.1 hsx hcx hcx2 hsy hnx hny HB3.out hpw (oneC_ok HALL.out (by rw [HNX.out]; omega))
end Go.Proofs.YtpgbjnenllfmlaaGreatDoor
