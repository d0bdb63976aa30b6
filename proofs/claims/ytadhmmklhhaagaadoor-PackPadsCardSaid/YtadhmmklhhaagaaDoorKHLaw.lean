
/- The walk of PackHides. -/
import Derived.Test.YtadhmmklhhaagaaDoorKPk
import Derived.BigQuiet
import Derived.Lib.QuietBelow
namespace Go.Proofs.YtadhmmklhhaagaaDoor
open Go.RowKit
open Go.Sort (grow)
set_option linter.unusedVariables false

theorem wrap64_small (q : Nat) (h : q ≤ 1000000) : wrap64 (q : Int) = (q : Int) := by
  rw [wrap64_eq, IntKind.wrap_i64]; omega
theorem awake5_grown (F : Pk) {w : World} (hw : Tb w) (d : Nat) (os : Array Obj) : Calls Tryd.prog 7 #[] (grow (redrawn w d) os) fun e w'' => e = .returned (.bool true) ∧ ∃ p : Regrown, w'' = grow (redrawn w p.d) p.os :=
  Calls.regrown_of (awake5_any F _ (hw.below hw.size (below_regrown w d os)))
theorem pad_ok (F : Pk) (s : ByteArray) (U : Nat) (h1 : 1 ≤ U) (h2 : U ≤ 1024) (hs : s.size ≤ 400) : ∃ X : ByteArray, X.size = padN s.size U ∧ (∀ w, Calls Tryd.prog 9 #[.string s, .int .i64 U] w fun e w' => e = .returned (.tuple #[.string X, .int .i64 0]) ∧ Below w.heap.size w w') ∧
    ∀ w, Calls Tryd.prog 12 #[.string X] w fun e w' => e = .returned (.tuple #[.string s, .int .i64 0]) ∧ Below w.heap.size w w' := by
  have hle := padN_le (n := s.size) h1
  have hgt := padN_gt (n := s.size) h1
  have hl : s.data.toList.length = s.size := by rw [← Lib.size_eq]
  have hp : PadOf (s.data.toList ++ 128 :: List.replicate (padN s.size U - s.size - 1) 0) s.data.toList U := (padOf_iff h1 h2).2 ⟨by rw [hl]; omega, by rw [hl]⟩
  have hr := hp.2.2
  have hlen := (padOf_len hp).1
  rw [hl] at hlen
  obtain ⟨L, hL⟩ : ∃ L, s.data.toList ++ 128 :: List.replicate (padN s.size U - s.size - 1) 0 = L := ⟨_, rfl⟩
  rw [hL] at hp hr hlen
  refine ⟨⟨L.toArray⟩, by rw [Lib.size_eq]; exact hlen, fun w => ?_, fun w => ?_⟩
  · have h := F.pad s (U : Int) w (by omega)
    rw [hr] at h
    exact h
  · refine (F.strip ⟨L.toArray⟩ w (by rw [Lib.size_eq]; show L.length ≤ _; omega)).mono ?_
    rintro e w' ⟨r, rfl, hs2, hb⟩
    have h3 : Strips L (s.data.toList, 0) := .inl ⟨_, _, hp, rfl⟩
    have h4 : r = (s.data.toList, 0) := Strips.same (l := L) hs2 h3
    subst h4
    refine ⟨?_, hb⟩
    show Ending.returned (.tuple #[.string ⟨s.data.toList.toArray⟩, .int .i64 0]) = _
    simp

set_option maxRecDepth 100000 in
set_option maxHeartbeats 8000000 in
theorem packHides_walkF (F : Pk) (a b : ByteArray) (n : Nat) (w : World) (hw : Tb w) (ha : a.size ≤ 140737488355328) (hb : b.size ≤ 140737488355328) (hn : n < 256) :
    Calls Tryd.prog 6 #[.string a, .string b, .int .u8 n] w fun e w' => e = .returned (.bool true) ∧ Below w.heap.size w w' := by
  obtain ⟨A, hA⟩ : ∃ k, a.size = k := ⟨_, rfl⟩
  obtain ⟨B, hB⟩ : ∃ k, b.size = k := ⟨_, rfl⟩
  rw [hA] at ha
  rw [hB] at hb
  have hw0 := hw.size
  by_cases hg : A ≤ 300 ∧ B ≤ 300
  · obtain ⟨g1, g2⟩ := hg
    have c1 : decide ((300 : Int) < (A : Int)) = false := decide_eq_false (by omega)
    have c2 : decide ((300 : Int) < (B : Int)) = false := decide_eq_false (by omega)
    obtain ⟨U, hU⟩ : ∃ U, 1 + n = U := ⟨_, rfl⟩
    have hUi : (1 : Int) + (n : Int) = (U : Int) := by omega
    have hU0 : ((U : Int) == 0) = false := by simp only [beq_eq_false_iff_ne]; omega
    obtain ⟨X, hX, C1, C3⟩ := pad_ok F a U (by omega) (by omega) (by omega)
    obtain ⟨Y, hY, C2, C4⟩ := pad_ok F b U (by omega) (by omega) (by omega)
    rw [hA] at hX
    rw [hB] at hY
    obtain ⟨qa, hqa⟩ : ∃ q, A / U = q := ⟨_, rfl⟩
    obtain ⟨qb, hqb⟩ : ∃ q, B / U = q := ⟨_, rfl⟩
    obtain ⟨NX, hNX⟩ : ∃ k, padN A U = k := ⟨_, rfl⟩
    obtain ⟨NY, hNY⟩ : ∃ k, padN B U = k := ⟨_, rfl⟩
    rw [hNX] at hX
    rw [hNY] at hY
    have ha1 : (A : Int).tdiv (U : Int) = (qa : Int) := by rw [Int.tdiv_eq_ediv_of_nonneg (by omega), ← hqa]; rfl
    have ha2 : (A : Int) / (U : Int) = (qa : Int) := by rw [← hqa]; rfl
    have hb1 : (B : Int).tdiv (U : Int) = (qb : Int) := by rw [Int.tdiv_eq_ediv_of_nonneg (by omega), ← hqb]; rfl
    have hb2 : (B : Int) / (U : Int) = (qb : Int) := by rw [← hqb]; rfl
    have hm0 : NX % U = 0 := by rw [← hNX]; unfold padN; exact Nat.mul_mod_left _ _
    have hm1 : (NX : Int) % (U : Int) = 0 := by
      have : ((NX % U : Nat) : Int) = 0 := by rw [hm0]; rfl
      exact this
    have hm2 : (NX : Int).tmod (U : Int) = 0 := by rw [Int.tmod_eq_emod_of_nonneg (by omega), hm1]
    obtain ⟨c, hc⟩ : ∃ c, decide (qa = qb) = c := ⟨_, rfl⟩
    have hc1 : ((qa : Int) == (qb : Int)) = c := by
      rw [← hc]
      by_cases h : qa = qb
      · rw [decide_eq_true h, h]; simp
      · rw [decide_eq_false h]; simp only [beq_eq_false_iff_ne]; omega
    have hxy : NX = NY ↔ qa = qb := by
      rw [← hNX, ← hNY]
      unfold padN
      rw [hqa, hqb]
      constructor
      · intro h
        have := Nat.eq_of_mul_eq_mul_right (by omega) h
        omega
      · intro h; rw [h]
    have hc2 : ((NX : Int) == (NY : Int)) = c := by
      rw [← hc]
      by_cases h : qa = qb
      · rw [decide_eq_true h, hxy.2 h]; simp
      · rw [decide_eq_false h]
        have := mt hxy.1 h
        simp only [beq_eq_false_iff_ne]; omega
    have hNXb : NX ≤ 1000 := by rw [← hNX]; have := padN_le (n := A) (u := U) (by omega); omega
    have hNYb : NY ≤ 1000 := by rw [← hNY]; have := padN_le (n := B) (u := U) (by omega); omega
    have ha3 := wrap64_small qa (by rw [← hqa]; exact Nat.le_trans (Nat.div_le_self _ _) (Nat.le_trans g1 (by decide)))
    have hb3 := wrap64_small qb (by rw [← hqb]; exact Nat.le_trans (Nat.div_le_self _ _) (Nat.le_trans g2 (by decide)))
    have C1 := Lib.hid C1
    have C2 := Lib.hid C2
    have C3 := Lib.hid C3
    have C4 := Lib.hid C4
    have HW := Lib.hid hw
    clear g1 g2 hU hqa hqb hNX hNY hm0 hxy hc hw
    go_enter Tryd.func6, Tryd.ntmps6
    go_wp2_with fail
    refine (C1.out w).mono ?_
    rintro e w1 ⟨rfl, h1⟩
    have W1 := Lib.hid h1
    have s1 := h1.size
    clear h1 C1
    go_wp2_with fail
    refine (C2.out w1).mono ?_
    rintro e w2 ⟨rfl, h2⟩
    have W2 := Lib.hid (W1.out.trans (h2.mono s1))
    have s2 := W2.out.size
    clear h2 W1 C2
    go_wp2_with fail
    refine (C3.out w2).mono ?_
    rintro e w3 ⟨rfl, h3⟩
    have W3 := Lib.hid (W2.out.trans (h3.mono s2))
    have s3 := W3.out.size
    clear h3 W2 C3
    go_wp2_with fail
    refine (C4.out w3).mono ?_
    rintro e w4 ⟨rfl, h4⟩
    have W4 := Lib.hid (W3.out.trans (h4.mono s3))
    have s4 := W4.out.size
    clear h4 W3 C4
    have cA := awake5_grown F (HW.out.below hw0 W4.out)
    cases c
    all_goals
      go_wp2
      refine wp_region_quiet_below (by kernel_rfl) (by kernel_rfl) ?_
      repeat (go_big_quiet_step (with_reducible exact cA _ _))
      refine wpQuiet_nil ?_
      intro _ hw'
      obtain ⟨⟨dq, osq⟩, hw''⟩ := hw'
      subst hw''
      have hbq := below_regrown w4 dq osq
      have HBQ := Lib.hid (W4.out.trans (hbq.mono s4))
      clear hbq cA
      generalize grow (redrawn w4 dq) osq = w5 at *
      go_wp2
      go_ret
      exact ⟨rfl, HBQ.out⟩
  · have HA := Lib.hid (awake5_any F w hw)
    have hc : (decide ((300 : Int) < (A : Int)) = true) ∨ (decide ((300 : Int) < (A : Int)) = false ∧ decide ((300 : Int) < (B : Int)) = true) := by
      simp only [decide_eq_true_eq, decide_eq_false_iff_not]
      omega
    clear hg
    rcases hc with c1 | ⟨c1, c2⟩
    all_goals
      go_enter Tryd.func6, Tryd.ntmps6
      go_wp2_with fail
      refine HA.out.mono ?_
      rintro e w1 ⟨rfl, hb1⟩
      have HB1 := Lib.hid hb1
      clear hb1
      go_wp2
      go_ret
      exact ⟨rfl, HB1.out⟩
end Go.Proofs.YtadhmmklhhaagaaDoor
