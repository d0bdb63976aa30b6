
/- Numbers read: the document's Int. -/
import Derived.Test.YtkpdjeiocdppoaaVPut
import Derived.OwnWalk
namespace Go.Proofs.Ytkpdjeiocdppoaa
open Go.RowKit
set_option linter.unusedVariables false

/-- What is read at a place: number, place after it, error. -/
def gotI (a : Int) : Vi.Got → Int × Int × Int
  | .missing => (0, a, 5)
  | .form => (0, a, 4)
  | .got u k => (Vi.uz u, a + (k : Int), 0)
def intR (l : List UInt8) (a : Int) : Int × Int × Int := if a < 0 ∨ (l.length : Int) < a then (0, a, 2) else gotI a (Vi.rd (l.drop a.toNat) 0 0)
def tri (r : Int × Int × Int) : Ending := .returned (.tuple #[.int .i64 r.1, .int .i64 r.2.1, .int .i64 r.2.2])
theorem rd_nil {l : List UInt8} {p i u : Nat} (h : l.length ≤ p) : Vi.rd (l.drop p) i u = .missing := by
  rw [List.drop_eq_nil_of_le h]; rfl
theorem rd_step {l : List UInt8} {p i u : Nat} (h : p < l.length) : Vi.rd (l.drop p) i u = if (i = 9 ∧ 1 < (l.getD p 0).toNat) ∨ (0 < i ∧ (l.getD p 0).toNat = 0) then .form
    else if 128 ≤ (l.getD p 0).toNat then Vi.rd (l.drop (p + 1)) (i + 1) (u + (l.getD p 0).toNat % 128 * 128 ^ i) else .got (u + (l.getD p 0).toNat % 128 * 128 ^ i) (i + 1) := by
  have e : l.drop p = l.getD p 0 :: l.drop (p + 1) := by
    rw [List.drop_eq_getElem_cons h]
    simp [List.getD, h]
  rw [e, Vi.rd]
theorem u8_and127f : ∀ r : Fin 256, (r.val &&& 127) = r.val % 128 := by decide +kernel
theorem u8_and127 (r : Nat) (h : r < 256) : bits .and .u8 (r : Int) 127 = ((r % 128 : Nat) : Int) := by
  have h1 := u8_and_nat r 127 h (by omega)
  rw [show r &&& 127 = r % 128 from u8_and127f ⟨r, h⟩] at h1
  exact h1
theorem or_grp (u m i : Nat) (hu : u < 128 ^ i) (h : u + m * 128 ^ i < 18446744073709551616) : bits .or .u64 (u : Int) ((m * 128 ^ i : Nat) : Int) = ((u + m * 128 ^ i : Nat) : Int) := by
  rw [u64_or_nat _ _ (by omega) (by omega)]
  have e : (128 : Nat) ^ i = 2 ^ (7 * i) := by rw [Nat.pow_mul]
  rw [e] at hu ⊢
  rw [Nat.mul_comm m, Nat.or_comm, ← Nat.two_pow_add_eq_or_of_lt hu]
  congr 1
  omega
theorem wrap64_eq (n : Int) : wrap64 n = IntKind.i64.wrap n := by
  rw [IntKind.wrap_i64]
  unfold wrap64
  first | rfl | omega
/-- What one group more comes to. -/
theorem grp_room (u c i : Nat) (hi : i ≤ 9) (hu : u < 128 ^ i) (h9 : i = 9 → c ≤ 1) : u + c % 128 * 128 ^ i < 18446744073709551616 ∧ u + c % 128 * 128 ^ i < 128 ^ (i + 1) := by
  have h2 : u + c % 128 * 128 ^ i < 128 ^ (i + 1) := by
    have : c % 128 * 128 ^ i ≤ 127 * 128 ^ i := Nat.mul_le_mul_right _ (by omega)
    rw [Nat.pow_succ]
    omega
  refine ⟨?_, h2⟩
  by_cases e : i = 9
  · subst e
    have := h9 rfl
    have h9 : (128 : Nat) ^ 9 = 9223372036854775808 := by decide
    have : c % 128 * 128 ^ 9 ≤ 1 * 128 ^ 9 := Nat.mul_le_mul_right _ (by omega)
    rw [h9] at hu this ⊢
    omega
  · have : (128 : Nat) ^ (i + 1) ≤ 128 ^ 9 := Nat.pow_le_pow_right (by omega) (by omega)
    have h9 : (128 : Nat) ^ 9 = 9223372036854775808 := by decide
    omega

set_option maxRecDepth 100000 in
set_option maxHeartbeats 8000000 in
theorem refInt_any (s : ByteArray) (a : Int) (w : World) (hs : s.size ≤ 1000000000) :
    Calls Try.prog 21 #[.string s, .int .i64 a] w fun e w' => e = tri (intR s.data.toList a) ∧ w = w' := by
  obtain ⟨l, hl⟩ : ∃ l, s.data.toList = l := ⟨_, rfl⟩
  obtain ⟨N, hN⟩ : ∃ N, s.size = N := ⟨_, rfl⟩
  have HN : Hid (l.length = N) := by show _ = _; rw [← hl, ← hN, ← Lib.size_eq]
  have HL := Lib.hid hl
  have HSN := Lib.hid hN
  rw [hl]
  rw [hN] at hs
  by_cases h0 : a < 0
  · have hr : intR l a = (0, a, 2) := by unfold intR; rw [if_pos (.inl h0)]
    have h0' : decide (a < 0) = true := decide_eq_true h0
    rw [hr]
    clear h0 hr hl
    go_enter Try.func21, Try.ntmps21
    go_wp2
    go_ret3
    exact ⟨rfl, rfl⟩
  · have h0' : decide (a < 0) = false := decide_eq_false h0
    by_cases h1 : (N : Int) < a
    · have hr : intR l a = (0, a, 2) := by unfold intR; rw [if_pos (.inr (by rw [HN.out]; exact h1))]
      have h1' : decide ((N : Int) < a) = true := decide_eq_true h1
      rw [hr]
      clear h0 h1 hr hl
      go_enter Try.func21, Try.ntmps21
      go_wp2
      go_ret3
      exact ⟨rfl, rfl⟩
    · have h1' : decide ((N : Int) < a) = false := decide_eq_false h1
      obtain ⟨A, rfl⟩ := Int.eq_ofNat_of_zero_le (show 0 ≤ a by omega)
      have hA : A ≤ N := by omega
      have hr : intR l (A : Int) = gotI A (Vi.rd (l.drop A) 0 0) := by unfold intR; rw [if_neg (by rw [HN.out]; omega)]; rfl
      rw [hr]
      obtain ⟨R, hR⟩ : ∃ R, gotI A (Vi.rd (l.drop A) 0 0) = R := ⟨_, rfl⟩
      rw [hR]
      have HR : Hid (gotI A (Vi.rd (l.drop (A + 0)) 0 0) = R) := hR
      have HP0 : Hid (0 < 128 ^ 0) := by show 0 < _; decide
      have hsg : IntKind.u64.signed = false := rfl
      clear h0 h1 hr hl hR
      go_enter Try.func21, Try.ntmps21
      go_wp2_with fail
      go_loop [7, 8, 9] (fun v i _ => ∃ (k u : Nat), k ≤ 9 ∧ A + k ≤ N ∧ v = .int .u64 u ∧ i = .int .i64 k ∧ Hid (gotI A (Vi.rd (l.drop (A + k)) k u) = R) ∧ Hid (u < 128 ^ k)) (fun _ i _ => 10 - (intOf i).toNat)
      case atStart => exact ⟨0, 0, by omega, by omega, rfl, rfl, HR, HP0⟩
      case round =>
        obtain ⟨k, u, hk, hkN, rfl, rfl, HR, HU⟩ := hrel
        obtain ⟨p, hp⟩ : ∃ p, A + k = p := ⟨_, rfl⟩
        have hwp : IntKind.i64.wrap ((A : Int) + (k : Int)) = (p : Int) := by rw [IntKind.wrap_i64]; omega
        rw [hp] at HR hkN
        by_cases hpn : p < N
        · have hge : decide ((N : Int) ≤ (p : Int)) = false := decide_eq_false (by omega)
          have hix := index_str s p (by rw [HSN.out]; exact hpn)
          rw [HL.out] at hix
          have HRS := HR.out
          rw [rd_step (by rw [HN.out]; exact hpn)] at HRS
          obtain ⟨cc, hcc⟩ : ∃ cc : Nat, (l.getD p 0).toNat = cc := ⟨_, rfl⟩
          have hcl : cc < 256 := by rw [← hcc]; exact (l.getD p 0).toNat_lt
          rw [show Sha.bt l p = (cc : Int) by rw [← hcc]; rfl] at hix
          rw [hcc] at HRS
          by_cases hform : (k = 9 ∧ 1 < cc) ∨ (0 < k ∧ cc = 0)
          · rw [if_pos hform] at HRS
            have HRF := Lib.hid HRS
            have hcs : (((k : Int) == 9) = true ∧ decide ((1 : Int) < (cc : Int)) = true) ∨ (((k : Int) == 9) = true ∧ decide ((1 : Int) < (cc : Int)) = false ∧ (decide ((0 : Int) < (k : Int)) = true ∧ decide (0 < k) = true) ∧ ((cc : Int) == 0) = true ∧ (cc == 0) = true) ∨ (((k : Int) == 9) = false ∧ (decide ((0 : Int) < (k : Int)) = true ∧ decide (0 < k) = true) ∧ ((cc : Int) == 0) = true ∧ (cc == 0) = true) := by
              simp only [decide_eq_true_eq, decide_eq_false_iff_not, beq_iff_eq, beq_eq_false_iff_ne]
              omega
            clear hform HRS hp hcc HR
            rcases hcs with ⟨q1, q2⟩ | ⟨q1, q2, ⟨q3, q5⟩, q4, q6⟩ | ⟨q1, ⟨q3, q5⟩, q4, q6⟩
            all_goals
              go_wp2
              go_ret3
              exact ⟨by rw [← HRF.out]; rfl, rfl⟩
          · rw [if_neg hform] at HRS
            obtain ⟨hr1, hr2⟩ := grp_room u cc k hk HU.out (fun e => by omega)
            have horr := or_grp u (cc % 128) k HU.out hr1
            obtain ⟨y, hy⟩ : ∃ y, cc % 128 * 128 ^ k = y := ⟨_, rfl⟩
            obtain ⟨u2, hu2⟩ : ∃ u2, u + y = u2 := ⟨_, rfl⟩
            rw [hy] at horr HRS hr1 hr2
            rw [hu2] at horr HRS hr1 hr2
            have ha127 := u8_and127 cc hcl
            obtain ⟨m, hm⟩ : ∃ m, cc % 128 = m := ⟨_, rfl⟩
            rw [hm] at ha127 hy
            have hwm : IntKind.u64.wrap (m : Int) = (m : Int) := by rw [IntKind.wrap_u64]; omega
            obtain ⟨sh, hsh⟩ : ∃ sh, 7 * k = sh := ⟨_, rfl⟩
            have hws : IntKind.i64.wrap (7 * (k : Int)) = (sh : Int) := by rw [IntKind.wrap_i64]; omega
            have hws2 : IntKind.u64.wrap (sh : Int) = (sh : Int) := by rw [IntKind.wrap_u64]; omega
            have hysh : m * 2 ^ sh = y := by rw [← hy, ← hsh, Nat.pow_mul]
            have hcs : (((k : Int) == 9) = true ∧ decide ((1 : Int) < (cc : Int)) = false ∧ (decide ((0 : Int) < (k : Int)) = true ∧ decide (0 < k) = true) ∧ ((cc : Int) == 0) = false ∧ (cc == 0) = false) ∨ (((k : Int) == 9) = false ∧ (decide ((0 : Int) < (k : Int)) = true ∧ decide (0 < k) = true) ∧ ((cc : Int) == 0) = false ∧ (cc == 0) = false) ∨ (((k : Int) == 9) = false ∧ decide ((0 : Int) < (k : Int)) = false ∧ decide (0 < k) = false) := by
              simp only [decide_eq_true_eq, decide_eq_false_iff_not, beq_iff_eq, beq_eq_false_iff_ne]
              omega
            clear hws hws2
            have hk8 : 128 ≤ cc → k ≤ 8 := fun h => by omega
            have hshl : IntKind.u64.wrap ((m : Int) * 2 ^ (7 * k)) = (y : Int) := by
              rw [hsh, show (m : Int) * 2 ^ sh = ((m * 2 ^ sh : Nat) : Int) by simp, hysh, IntKind.wrap_u64]; omega
            have HU2 : Hid (u2 < 128 ^ (k + 1)) := hr2
            have HUL : Hid (u2 < 18446744073709551616) := hr1
            have HKP : Hid (A + k = p) := hp
            by_cases hc : 128 ≤ cc
            · have hcd : decide ((128 : Int) ≤ (cc : Int)) = true := decide_eq_true (by omega)
              rw [if_pos hc] at HRS
              have hk8' := hk8 hc
              have HR2 : Hid (gotI A (Vi.rd (l.drop (A + (k + 1))) (k + 1) u2) = R) := by show _ = _; rw [← HRS, ← hp]; rfl
              clear hform HRS hp hcc HR hr1 hr2 hm hy hu2 hysh hk8 hc hsh
              rcases hcs with ⟨q1, q2, ⟨q3, q5⟩, q4, q6⟩ | ⟨q1, ⟨q3, q5⟩, q4, q6⟩ | ⟨q1, q3, q5⟩
              all_goals
                go_wp2
                go_round
                case rel => exact ⟨k + 1, u2, by omega, by have := HKP.out; omega, rfl, by go_num, HR2, HU2⟩
                case measure => simp [intOf]; omega
            · have hcd : decide ((128 : Int) ≤ (cc : Int)) = false := decide_eq_false (by omega)
              rw [if_neg hc] at HRS
              have hp1 : IntKind.i64.wrap ((p : Int) + 1) = ((p + 1 : Nat) : Int) := by rw [IntKind.wrap_i64]; omega
              obtain ⟨h, hh⟩ : ∃ h, u2 / 2 = h := ⟨_, rfl⟩
              have hdv : (u2 : Int) / 2 = (h : Int) := by omega
              have hnot := u64_not h (by omega)
              obtain ⟨z, hz⟩ : ∃ z : Int, 18446744073709551615 - (h : Int) = z := ⟨_, rfl⟩
              rw [hz] at hnot
              have hone := u64_and_nat u2 1 hr1 (by omega)
              rw [Nat.and_one_is_mod] at hone
              by_cases hodd : u2 % 2 = 1
              · have hb1 : bits .and .u64 (u2 : Int) 1 = 1 := by rw [hodd] at hone; exact hone
                have hb2 : (u2 : Int) % 2 = 1 := by omega
                have hzz : IntKind.i64.wrap z = Vi.uz u2 := by
                  rw [IntKind.wrap_i64]; unfold Vi.uz; rw [if_pos hodd]; omega
                have HF : Hid (R = (Vi.uz u2, ((p + 1 : Nat) : Int), 0)) := by
                  show _ = _
                  rw [← HRS, ← hp]
                  show (Vi.uz u2, (A : Int) + ((k + 1 : Nat) : Int), (0 : Int)) = _
                  congr 2
                obtain ⟨x, hx⟩ : ∃ x, Vi.uz u2 = x := ⟨_, rfl⟩
                rw [hx] at hzz HF
                have hz64 : wrap64 z = x := by rw [← hzz, wrap64_eq]
                clear hform HRS hp hcc HR hr1 hr2 hm hy hu2 hysh hk8 hc hsh hh hz hone hodd hx
                rcases hcs with ⟨q1, q2, ⟨q3, q5⟩, q4, q6⟩ | ⟨q1, ⟨q3, q5⟩, q4, q6⟩ | ⟨q1, q3, q5⟩
                all_goals
                  go_wp2
                  go_ret3
                  exact ⟨by rw [HF.out]; rfl, rfl⟩
              · have hb1 : bits .and .u64 (u2 : Int) 1 = 0 := by rw [show u2 % 2 = 0 by omega] at hone; exact hone
                have hb2 : (u2 : Int) % 2 = 0 := by omega
                have hzz : IntKind.i64.wrap (h : Int) = Vi.uz u2 := by
                  rw [IntKind.wrap_i64]; unfold Vi.uz; rw [if_neg hodd]; omega
                have HF : Hid (R = (Vi.uz u2, ((p + 1 : Nat) : Int), 0)) := by
                  show _ = _
                  rw [← HRS, ← hp]
                  show (Vi.uz u2, (A : Int) + ((k + 1 : Nat) : Int), (0 : Int)) = _
                  congr 2
                obtain ⟨x, hx⟩ : ∃ x, Vi.uz u2 = x := ⟨_, rfl⟩
                rw [hx] at hzz HF
                have hz64 : wrap64 (h : Int) = x := by rw [← hzz, wrap64_eq]
                clear hform HRS hp hcc HR hr1 hr2 hm hy hu2 hysh hk8 hc hsh hh hz hone hodd hx
                rcases hcs with ⟨q1, q2, ⟨q3, q5⟩, q4, q6⟩ | ⟨q1, ⟨q3, q5⟩, q4, q6⟩ | ⟨q1, q3, q5⟩
                all_goals
                  go_wp2
                  go_ret3
                  exact ⟨by rw [HF.out]; rfl, rfl⟩
        · have hge : decide ((N : Int) ≤ (p : Int)) = true := decide_eq_true (by omega)
          have HRM : Hid (gotI A .missing = R) := by
            show _ = _
            rw [← HR.out, rd_nil (by rw [HN.out]; omega)]
          clear HR hp
          go_wp2
          go_ret3
          exact ⟨by rw [← HRM.out]; rfl, rfl⟩
end Go.Proofs.Ytkpdjeiocdppoaa
