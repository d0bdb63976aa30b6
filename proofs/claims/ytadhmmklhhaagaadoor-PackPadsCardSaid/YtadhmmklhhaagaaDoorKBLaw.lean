
/- The walk of PackBack. -/
import Derived.Test.YtadhmmklhhaagaaDoorKPk
import Derived.Test.YtadhmmklhhaagaaDoorStrs
import Derived.Test.YtadhmmklhhaagaaDoorVPts
namespace Go.Proofs.YtadhmmklhhaagaaDoor
open Go.RowKit
open Num
set_option linter.unusedVariables false

set_option maxRecDepth 100000 in
set_option maxHeartbeats 16000000 in
theorem packBack_walkF (F : Pk) (v : Value) (t : List Int) (s : ByteArray) (n : Nat) (w : World) (hw : Tb w) (hv : Ints w v t) (hs : s.size ≤ 140737488355328) (hn : n < 256) :
    Calls Tryd.prog 5 #[v, .string s, .int .u8 n] w fun e w' => e = .returned (.bool true) ∧ Below w.heap.size w w' := by
  obtain ⟨N, hN⟩ : ∃ k, s.size = k := ⟨_, rfl⟩
  rw [hN] at hs
  have hw0 := hw.size
  by_cases hl : (t.length : Int) ≤ 500
  · have hl' : decide ((t.length : Int) ≤ 500) = true := by simpa using hl
    clear hl
    by_cases hg : N ≤ 200
    · have c1 : decide ((200 : Int) < (N : Int)) = false := decide_eq_false (by omega)
      have HW := Lib.hid hw
      clear hw
      go_enter Tryd.func5, Tryd.ntmps5
      go_wp2_with (first
        | (go_at_call 14; refine (light_any _ _ _ hv).mono ?_; rintro e w' ⟨rfl, rfl⟩)
        | (go_at_call 15; refine (roll_any _ _ (by obtain ⟨x, y, h, _⟩ := hv; exact ⟨x, _, y, h⟩)).mono ?_; rintro e w' ⟨rfl, rfl⟩))
      refine (prime_any _ v t _ (dice_new hv)).mono ?_
      rintro e w1 ⟨p, hprm, hp2, rfl, hd1, hbut⟩
      have hb1 := (But.trans (But.alloc w.heap.size w _) hbut).below (Nat.le_refl _) (Nat.le_refl _)
      have hp0 : 2 ≤ p := hprm.1
      have W1 := Lib.hid hb1
      have HW1 := HW.out.below hw0 hb1
      have s1 := hb1.size
      have hcl := cnt_le p N
      have hP := F.packOk p s w1 HW1 hprm hp2 (by omega) (by rw [hN]; omega)
      rw [hN] at hP
      obtain ⟨L, hL⟩ : ∃ L, packL p s.data.toList = L := ⟨_, rfl⟩
      have hLl : L.length = cnt p N := by rw [← hL, packL_len, ← Lib.size_eq, hN]
      have hin : ∀ x ∈ L, 0 ≤ x ∧ x < p := by rw [← hL]; exact packL_in hp0 _
      have hsl : s.data.toList.length = N := by rw [← Lib.size_eq]; exact hN
      have hback : UnpackS p L N (s.data.toList, 0) := by rw [← hL, ← hsl]; exact unpack_back p _
      rw [hL] at hP
      have hC := F.count p N
      obtain ⟨K, hK⟩ : ∃ k, cnt p N = k := ⟨_, rfl⟩
      rw [hK] at hP hLl hC
      have hKb : K ≤ 1600 := by omega
      have HP := Lib.hid hP
      have HC := Lib.hid (fun w hw => hC w hw hp0 hp2 (by omega))
      have HIN := Lib.hid hin
      have HLL := Lib.hid hLl
      have HBK := Lib.hid hback
      have HPR := Lib.hid hprm
      clear hd1 hbut hv hb1 HW1 hcl hP hL hLl hin hback hC hK hprm hsl
      go_wp2_with fail
      refine HP.out.mono ?_
      rintro e w2 ⟨aa, ca, rfl, hi2, h2⟩
      have HI2 := Lib.hid hi2
      have W2 := Lib.hid (W1.out.trans (h2.mono s1))
      have s2 : w.heap.size ≤ w2.heap.size := W2.out.size
      clear hi2 h2 W1 HP
      go_wp2_with fail
      go_loop [11, 38] (fun _ i => ∃ k : Nat, k ≤ K ∧ i = .int .i64 k) (fun _ i => K - (intOf i).toNat)
      case atStart => exact ⟨0, by omega, rfl⟩
      case round =>
        obtain ⟨k, hk, rfl⟩ := hrel
        by_cases hlt : k < K
        · obtain ⟨b1, o1, rfl, hc1⟩ := Ints.at' HI2.out hlt
          have hx := HIN.out (L.getD k 0) (by
            have hk2 : k < L.length := by have := HLL.out; omega
            rw [List.getD_eq_getElem?_getD, List.getElem?_eq_getElem hk2]
            exact List.getElem_mem hk2)
          generalize L.getD k 0 = x at *
          have d1 : decide (x < 0) = false := decide_eq_false (by omega)
          have d2 : decide (p ≤ x) = false := decide_eq_false (by omega)
          clear hx
          go_wp2
          go_round
          case rel => exact ⟨k + 1, by omega, by go_num⟩
          case measure => simp [intOf]; omega
        · have HW2 := HW.out.below hw0 W2.out
          have HU1 := Lib.hid (F.unpack p aa K ca L N w2 HW2 HPR.out hp2 HI2.out (by omega) (by omega))
          clear HW2
          go_wp2_with fail
          refine HU1.out.mono ?_
          rintro e w3 ⟨r1, rfl, hu1, h3⟩
          have hr1 : r1 = (s.data.toList, 0) := hu1.same HBK.out
          subst hr1
          have HI3 := Lib.hid (HI2.out.below (Nat.le_refl _) h3)
          have W3 := Lib.hid (W2.out.trans (h3.mono s2))
          have s3 : w.heap.size ≤ w3.heap.size := W3.out.size
          have he1 : two (s.data.toList, 0) = .returned (.tuple #[.string s, .int .i64 0]) := by
            show Ending.returned (.tuple #[.string ⟨s.data.toList.toArray⟩, .int .i64 0]) = _
            simp
          rw [he1]
          have HW3 := HW.out.below hw0 W3.out
          have HU2 := Lib.hid (F.unpack p aa K ca L n w3 HW3 HPR.out hp2 HI3.out (by omega) (by omega))
          clear h3 hu1 he1 HW3 HI2 HU1 W2
          go_wp2_with fail
          refine HU2.out.mono ?_
          rintro e w4 ⟨r2, rfl, hu2, h4⟩
          have W4 := Lib.hid (W3.out.trans (h4.mono s3))
          have s4 : w.heap.size ≤ w4.heap.size := W4.out.size
          have HA := Lib.hid (awake5_any F w4 (HW.out.below hw0 W4.out))
          have HC4 := Lib.hid (HC.out w4 (HW.out.below hw0 W4.out))
          clear h4 HU2 W3 HI3 HC
          rcases hu2 with ⟨x, hx1, hx2, rfl⟩ | ⟨_, rfl⟩
          · obtain ⟨V, hV⟩ : ∃ V : ByteArray, (⟨x.toArray⟩ : ByteArray) = V := ⟨_, rfl⟩
            have hVs : V.size = n := by rw [← hV, Lib.size_eq]; exact hx1
            have hcs : (((n : Int) == (N : Int)) = true) ∨ (((n : Int) == (N : Int)) = false ∧ (V.toList == s.toList) = false) := by
              by_cases h : n = N
              · left; rw [h]; simp
              · right
                refine ⟨by simp only [beq_eq_false_iff_ne]; omega, ?_⟩
                rw [beq_dec]
                exact decide_eq_false fun e => h (by rw [← hVs, ← hN, e])
            have he2 : two (x, 0) = .returned (.tuple #[.string V, .int .i64 0]) := by
              show Ending.returned (.tuple #[.string ⟨x.toArray⟩, .int .i64 0]) = _
              rw [hV]
            rw [he2]
            clear hx1 hx2 hV he2
            rcases hcs with q1 | ⟨q1, q2⟩
            all_goals
              go_wp2_with (first
                | (go_at_call 20; refine HC4.out.mono ?_; rintro e w' ⟨rfl, rfl⟩)
                | (go_at_call 7; refine HA.out.mono ?_))
              rintro e w5 ⟨rfl, h5⟩
              have W5 := Lib.hid (W4.out.trans (h5.mono s4))
              clear h5 W4
              go_wp2
              go_ret
              exact ⟨rfl, W5.out⟩
          · have he2 : two ([], 4) = .returned (.tuple #[.string ⟨#[]⟩, .int .i64 4]) := rfl
            rw [he2]
            have hcs : (((n : Int) == (N : Int)) = true) ∨ (((n : Int) == (N : Int)) = false) := by
              by_cases h : n = N
              · left; rw [h]; simp
              · right; simp only [beq_eq_false_iff_ne]; omega
            clear he2
            rcases hcs with q1 | q1
            all_goals
              go_wp2_with (first
                | (go_at_call 20; refine HC4.out.mono ?_; rintro e w' ⟨rfl, rfl⟩)
                | (go_at_call 7; refine HA.out.mono ?_))
              rintro e w5 ⟨rfl, h5⟩
              have W5 := Lib.hid (W4.out.trans (h5.mono s4))
              clear h5 W4
              go_wp2
              go_ret
              exact ⟨rfl, W5.out⟩
    · have c1 : decide ((200 : Int) < (N : Int)) = true := decide_eq_true (by omega)
      have HA := Lib.hid (awake5_any F w hw)
      clear hg
      go_enter Tryd.func5, Tryd.ntmps5
      go_wp2_with (go_at_call 14; refine (light_any _ _ _ hv).mono ?_; rintro e w' ⟨rfl, rfl⟩)
      refine HA.out.mono ?_
      rintro e w1 ⟨rfl, hb1⟩
      have HB1 := Lib.hid hb1
      clear hb1
      go_wp2
      go_ret
      exact ⟨rfl, HB1.out⟩
  · have hl' : decide ((t.length : Int) ≤ 500) = false := by simpa using hl
    have HA := Lib.hid (awake5_any F w hw)
    clear hl
    go_enter Tryd.func5, Tryd.ntmps5
    go_wp2_with (go_at_call 14; refine (light_any _ _ _ hv).mono ?_; rintro e w' ⟨rfl, rfl⟩)
    refine HA.out.mono ?_
    rintro e w1 ⟨rfl, hb1⟩
    have HB1 := Lib.hid hb1
    clear hb1
    go_wp2
    go_ret
    exact ⟨rfl, HB1.out⟩
end Go.Proofs.YtadhmmklhhaagaaDoor
