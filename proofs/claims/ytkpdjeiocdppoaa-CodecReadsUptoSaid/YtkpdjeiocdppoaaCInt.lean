
/- Numbers read: the program's signed and Int. -/
import Derived.Test.YtkpdjeiocdppoaaCPut
namespace Go.Proofs.Ytkpdjeiocdppoaa
open Go.RowKit
set_option linter.unusedVariables false
set_option linter.unusedSimpArgs false

theorem signed_any (u : Nat) (w : World) (hu : u < 18446744073709551616) :
    Calls Try.prog 33 #[.int .u64 u] w fun e w' => e = .returned (.int .i64 (Vi.uz u)) ∧ w = w' := by
  obtain ⟨h, hh⟩ : ∃ h, u / 2 = h := ⟨_, rfl⟩
  have hdv : (u : Int) / 2 = (h : Int) := by omega
  have hw1 : IntKind.i64.wrap (h : Int) = (h : Int) := by rw [IntKind.wrap_i64]; omega
  have hw2 : wrap64 (h : Int) = (h : Int) := by rw [wrap64_eq, hw1]
  have hw3 : IntKind.u64.wrap (h : Int) = (h : Int) := by rw [IntKind.wrap_u64]; omega
  obtain ⟨x, hx⟩ : ∃ x, Vi.uz u = x := ⟨_, rfl⟩
  rw [hx]
  unfold Vi.uz at hx
  by_cases h1 : u % 2 = 1
  · have hm : (u : Int) % 2 = 1 := by omega
    rw [if_pos h1] at hx
    have hn : wrap64 (-(h : Int)) = -(h : Int) := by rw [wrap64_eq, IntKind.wrap_i64]; omega
    have hm1 : wrap64 (-(h : Int) - 1) = x := by rw [wrap64_eq, IntKind.wrap_i64]; omega
    clear hx h1 hh hu
    go_enter Try.func33, Try.ntmps33
    go_wp2
    go_ret
    refine ⟨?_, rfl⟩
    show Ending.returned (.int .i64 (wrap64 (-(h : Int) - 1))) = _
    rw [hm1]
  · have hm : (u : Int) % 2 = 0 := by omega
    rw [if_neg h1] at hx
    have hxx : x = (h : Int) := by omega
    subst hxx
    clear hx h1 hh hu
    go_enter Try.func33, Try.ntmps33
    go_wp2
    go_ret
    exact ⟨rfl, rfl⟩

set_option maxRecDepth 100000 in
set_option maxHeartbeats 8000000 in
theorem int_any (s : ByteArray) (a : Int) (w : World) (hs : s.size ≤ 1000000000) :
    Calls Try.prog 20 #[.string s, .int .i64 a] w fun e w' => e = tri (intR s.data.toList a) ∧ w = w' := by
  obtain ⟨l, hl⟩ : ∃ l, s.data.toList = l := ⟨_, rfl⟩
  obtain ⟨N, hN⟩ : ∃ N, s.size = N := ⟨_, rfl⟩
  have HN : Hid (l.length = N) := by show _ = _; rw [← hl, ← hN, ← Lib.size_eq]
  have HL := Lib.hid hl
  have HSN := Lib.hid hN
  rw [hl]
  rw [hN] at hs
  by_cases h0 : a < 0
  · have hr : intR l a = (0, a, 2) := by unfold intR; rw [if_pos (.inl h0)]
    have h0' : decide (a < 0) = true := decide_eq_true h0
    rw [hr]
    clear h0 hr hl
    go_enter Try.func20, Try.ntmps20
    go_wp2
    go_ret3
    exact ⟨rfl, rfl⟩
  · have h0' : decide (a < 0) = false := decide_eq_false h0
    by_cases h1 : (N : Int) < a
    · have hr : intR l a = (0, a, 2) := by unfold intR; rw [if_pos (.inr (by rw [HN.out]; exact h1))]
      have h1' : decide ((N : Int) < a) = true := decide_eq_true h1
      rw [hr]
      clear h0 h1 hr hl
      go_enter Try.func20, Try.ntmps20
      go_wp2
      go_ret3
      exact ⟨rfl, rfl⟩
    · have h1' : decide ((N : Int) < a) = false := decide_eq_false h1
      obtain ⟨A, rfl⟩ := Int.eq_ofNat_of_zero_le (show 0 ≤ a by omega)
      have hA : A ≤ N := by omega
      have hr : intR l (A : Int) = gotI A (Vi.rd (l.drop A) 0 0) := by unfold intR; rw [if_neg (by rw [HN.out]; omega)]; rfl
      rw [hr]
      obtain ⟨R, hR⟩ : ∃ R, gotI A (Vi.rd (l.drop A) 0 0) = R := ⟨_, rfl⟩
      rw [hR]
      have HR : Hid (gotI A (Vi.rd (l.drop (A + 0)) 0 0) = R) := hR
      have HP0 : Hid (0 < 128 ^ 0) := by show 0 < _; decide
      have hsg : IntKind.u64.signed = false := rfl
      clear h0 h1 hr hl hR
      go_enter Try.func20, Try.ntmps20
      go_wp2_with fail
      go_loop [7, 8, 9, 19] (fun v _ _ i => ∃ (k : Nat), k ≤ 10 ∧ A + k ≤ N ∧ i = .int .i64 k ∧ ((∃ u : Nat, v = .int .u64 u ∧ k ≤ 9 ∧ Hid (gotI A (Vi.rd (l.drop (A + k)) k u) = R) ∧ Hid (u < 128 ^ k)) ∨ (k = 10 ∧ Hid (R = (0, (A : Int), 4))))) (fun _ _ _ i => 10 - (intOf i).toNat)
      case atStart => exact ⟨0, by omega, by omega, rfl, .inl ⟨0, rfl, by omega, HR, HP0⟩⟩
      case round =>
        obtain ⟨k, hk10, hkN, rfl, ⟨u, rfl, hk, HR, HU⟩ | ⟨rfl, HR⟩⟩ := hrel
        rotate_left
        · go_wp2
          go_ret3
          exact ⟨by rw [HR.out]; rfl, rfl⟩
        obtain ⟨p, hp⟩ : ∃ p, A + k = p := ⟨_, rfl⟩
        have hwp : IntKind.i64.wrap ((A : Int) + (k : Int)) = (p : Int) := by rw [IntKind.wrap_i64]; omega
        have hk10' : decide ((k : Int) < 10) = true := decide_eq_true (by omega)
        rw [hp] at HR hkN
        by_cases hpn : p < N
        · have hge : ((p : Int) == (N : Int)) = false := by simp only [beq_eq_false_iff_ne]; omega
          have hix := index_str s p (by rw [HSN.out]; exact hpn)
          rw [HL.out] at hix
          have HRS := HR.out
          rw [rd_step (by rw [HN.out]; exact hpn)] at HRS
          obtain ⟨cc, hcc⟩ : ∃ cc : Nat, (l.getD p 0).toNat = cc := ⟨_, rfl⟩
          have hcl : cc < 256 := by rw [← hcc]; exact (l.getD p 0).toNat_lt
          rw [show Sha.bt l p = (cc : Int) by rw [← hcc]; rfl] at hix
          rw [hcc] at HRS
          obtain ⟨m, hm⟩ : ∃ m, cc % 128 = m := ⟨_, rfl⟩
          have hmd : (cc : Int) % 128 = (m : Int) := by omega
          have hwm : IntKind.u64.wrap (m : Int) = (m : Int) := by rw [IntKind.wrap_u64]; omega
          obtain ⟨Y, hY⟩ : ∃ Y : Int, IntKind.u64.wrap ((m : Int) * 2 ^ (7 * k)) = Y := ⟨_, rfl⟩
          obtain ⟨X, hX⟩ : ∃ X : Int, bits .or .u64 (u : Int) Y = X := ⟨_, rfl⟩
          have hp1 : IntKind.i64.wrap ((p : Int) + 1) = ((p + 1 : Nat) : Int) := by rw [IntKind.wrap_i64]; omega
          have HKP : Hid (A + k = p) := hp
          by_cases hform : (k = 9 ∧ 1 < cc) ∨ (0 < k ∧ cc = 0)
          · rw [if_pos hform] at HRS
            have HRF := Lib.hid HRS
            by_cases hc : cc < 128
            · have hcd : decide ((cc : Int) < 128) = true := decide_eq_true (by omega)
              have hcs : (((cc : Int) == 0) = true ∧ (cc == 0) = true ∧ (decide ((0 : Int) < (k : Int)) = true ∧ decide (0 < k) = true)) ∨ (((cc : Int) == 0) = false ∧ (cc == 0) = false ∧ decide ((1 : Int) < (cc : Int)) = true ∧ decide (1 < cc) = true ∧ ((k : Int) == 9) = true) := by
                simp only [decide_eq_true_eq, decide_eq_false_iff_not, beq_iff_eq, beq_eq_false_iff_ne]
                omega
              clear hform HRS hp hcc HR hm hc
              rcases hcs with ⟨q1, q2, q3, q4⟩ | ⟨q1, q2, q3, q4, q5⟩
              all_goals
                go_wp2
                go_ret3
                exact ⟨by rw [← HRF.out]; rfl, rfl⟩
            · have hcd : decide ((cc : Int) < 128) = false := decide_eq_false (by omega)
              have hk9 : k = 9 := by omega
              have HRE : Hid (R = (0, (A : Int), 4)) := by show _ = _; rw [← HRF.out]; rfl
              have HK9 := Lib.hid hk9
              clear hform HRS hp hcc HR hm hc hk9
              go_wp2
              go_round
              case rel => exact ⟨k + 1, by omega, by have := HKP.out; omega, by go_num, .inr ⟨by have := HK9.out; omega, HRE⟩⟩
              case measure => simp [intOf]; omega
          · rw [if_neg hform] at HRS
            obtain ⟨hr1, hr2⟩ := grp_room u cc k hk HU.out (fun e => by omega)
            have horr := or_grp u (cc % 128) k HU.out hr1
            obtain ⟨y, hy⟩ : ∃ y, cc % 128 * 128 ^ k = y := ⟨_, rfl⟩
            obtain ⟨u2, hu2⟩ : ∃ u2, u + y = u2 := ⟨_, rfl⟩
            rw [hy] at horr HRS hr1 hr2
            rw [hu2] at horr HRS hr1 hr2
            rw [hm] at hy
            have hysh : m * 2 ^ (7 * k) = y := by rw [← hy, Nat.pow_mul]
            have hYy : Y = (y : Int) := by
              rw [← hY, show (m : Int) * 2 ^ (7 * k) = ((m * 2 ^ (7 * k) : Nat) : Int) by simp, hysh, IntKind.wrap_u64]; omega
            have hXu : X = (u2 : Int) := by rw [← hX, hYy, horr]
            subst hXu
            have HU2 : Hid (u2 < 128 ^ (k + 1)) := hr2
            have HUL : Hid (u2 < 18446744073709551616) := hr1
            by_cases hc : 128 ≤ cc
            · have hcd : decide ((cc : Int) < 128) = false := decide_eq_false (by omega)
              rw [if_pos hc] at HRS
              have hk8' : k ≤ 8 := by omega
              have HR2 : Hid (gotI A (Vi.rd (l.drop (A + (k + 1))) (k + 1) u2) = R) := by show _ = _; rw [← HRS, ← hp]; rfl
              clear hform HRS hp hcc HR hr1 hr2 hm hy hu2 hysh hc hYy horr
              go_wp2
              go_round
              case rel => exact ⟨k + 1, by omega, by have := HKP.out; omega, by go_num, .inl ⟨u2, rfl, by omega, HR2, HU2⟩⟩
              case measure => simp [intOf]; omega
            · have hcd : decide ((cc : Int) < 128) = true := decide_eq_true (by omega)
              rw [if_neg hc] at HRS
              have HSG := Lib.hid (signed_any u2 w HUL.out)
              have HF : Hid (R = (Vi.uz u2, ((p + 1 : Nat) : Int), 0)) := by
                show _ = _
                rw [← HRS, ← hp]
                show (Vi.uz u2, (A : Int) + ((k + 1 : Nat) : Int), (0 : Int)) = _
                congr 2
              obtain ⟨x, hx⟩ : ∃ x, Vi.uz u2 = x := ⟨_, rfl⟩
              rw [hx] at HSG HF
              have hcs : (((cc : Int) == 0) = true ∧ (cc == 0) = true ∧ (decide ((0 : Int) < (k : Int)) = false ∧ decide (0 < k) = false) ∧ decide ((1 : Int) < (cc : Int)) = false ∧ decide (1 < cc) = false) ∨ (((cc : Int) == 0) = false ∧ (cc == 0) = false ∧ (decide ((0 : Int) < (k : Int)) = false ∧ decide (0 < k) = false) ∧ decide ((1 : Int) < (cc : Int)) = false ∧ decide (1 < cc) = false) ∨ (((cc : Int) == 0) = false ∧ (cc == 0) = false ∧ (decide ((0 : Int) < (k : Int)) = true ∧ decide (0 < k) = true) ∧ decide ((1 : Int) < (cc : Int)) = false ∧ decide (1 < cc) = false) ∨ (((cc : Int) == 0) = false ∧ (cc == 0) = false ∧ (decide ((1 : Int) < (cc : Int)) = true ∧ decide (1 < cc) = true) ∧ ((k : Int) == 9) = false ∧ (k == 9) = false) := by
                simp only [decide_eq_true_eq, decide_eq_false_iff_not, beq_iff_eq, beq_eq_false_iff_ne]
                omega
              clear hform HRS hp hcc HR hr1 hr2 hm hy hu2 hysh hc hYy horr hx
              rcases hcs with ⟨q1, q2, ⟨q3, q4⟩, q5, q6⟩ | ⟨q1, q2, ⟨q3, q4⟩, q5, q6⟩ | ⟨q1, q2, ⟨q3, q4⟩, q5, q6⟩ | ⟨q1, q2, ⟨q3, q4⟩, q5, q6⟩
              all_goals
                go_wp2_with (refine HSG.out.mono ?_; rintro e w1 ⟨rfl, rfl⟩)
                go_ret3
                exact ⟨by rw [HF.out]; rfl, rfl⟩
        · obtain rfl : p = N := by omega
          have hge : ((p : Int) == (p : Int)) = true := by simp
          have HRM : Hid (gotI A .missing = R) := by
            show _ = _
            rw [← HR.out, rd_nil (by rw [HN.out]; omega)]
          clear HR hp
          go_wp2
          go_ret3
          exact ⟨by rw [← HRM.out]; rfl, rfl⟩
end Go.Proofs.Ytkpdjeiocdppoaa
