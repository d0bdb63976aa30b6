
/- The small functions of words, and the spelling of a text. -/
import Derived.Test.YtmegmgcfnihhiaaDoorOVal
import Derived.Test.YtmegmgcfnihhiaaDoorOMt2
namespace Go.Proofs.YtmegmgcfnihhiaaDoor
open Go.RowKit Go.Shelf
set_option linter.unusedVariables false
set_option linter.unusedSimpArgs false

theorem letter_any (n : Nat) (w : World) (hn : n < 256) :
    Calls Tryd.prog 11 #[.int .u8 n] w fun e w' => e = .returned (.bool (letR n)) ∧ w = w' := by
  obtain ⟨b, hb⟩ : ∃ b, letR n = b := ⟨_, rfl⟩
  rw [hb]
  unfold letR at hb
  by_cases h1 : 97 ≤ n
  · by_cases h2 : n ≤ 122
    · have g1 : (97 : Int) ≤ (n : Int) := by omega
      have g2 : (n : Int) ≤ 122 := by omega
      simp [h1, h2] at hb
      subst hb
      go_enter Tryd.func11, Tryd.ntmps11
      go_wp2
      go_ret
      exact ⟨rfl, rfl⟩
    · have g1 : (97 : Int) ≤ (n : Int) := by omega
      have g2 : ¬ (n : Int) ≤ 122 := by omega
      have g3 : (48 : Int) ≤ (n : Int) := by omega
      have g4 : ¬ (n : Int) ≤ 57 := by omega
      have e4 : ¬ n ≤ 57 := by omega
      simp [h1, h2, e4] at hb
      subst hb
      go_enter Tryd.func11, Tryd.ntmps11
      go_wp2
      go_ret
      exact ⟨rfl, rfl⟩
  · have g1 : ¬ (97 : Int) ≤ (n : Int) := by omega
    by_cases h3 : 48 ≤ n
    · have g3 : (48 : Int) ≤ (n : Int) := by omega
      by_cases h4 : n ≤ 57
      · have g4 : (n : Int) ≤ 57 := by omega
        simp [h1, h3, h4] at hb
        subst hb
        go_enter Tryd.func11, Tryd.ntmps11
        go_wp2
        go_ret
        exact ⟨rfl, rfl⟩
      · have g4 : ¬ (n : Int) ≤ 57 := by omega
        simp [h1, h3, h4] at hb
        subst hb
        go_enter Tryd.func11, Tryd.ntmps11
        go_wp2
        go_ret
        exact ⟨rfl, rfl⟩
    · have g3 : ¬ (48 : Int) ≤ (n : Int) := by omega
      simp [h1, h3] at hb
      subst hb
      go_enter Tryd.func11, Tryd.ntmps11
      go_wp2
      go_ret
      exact ⟨rfl, rfl⟩

theorem lower_any (r : Nat) (w : World) (hr : r ≤ 1114111) :
    Calls Tryd.prog 34 #[.int .i32 r] w fun e w' => e = .returned (.int .i32 (lowR r)) ∧ w = w' := by
  by_cases h : (65 ≤ r ∧ r ≤ 90) ∨ (192 ≤ r ∧ r ≤ 221)
  · have e1 : lowR r = r + 32 := by unfold lowR; rw [if_pos h]
    rw [e1]
    push_cast
    rcases h with ⟨h1, h2⟩ | ⟨h1, h2⟩
    · have g1 : (65 : Int) ≤ (r : Int) := by omega
      have g2 : (r : Int) ≤ 90 := by omega
      go_enter Tryd.func34, Tryd.ntmps34
      go_wp2
      go_ret
      refine ⟨?_, rfl⟩
      congr 2
      go_num
    · have g1 : (65 : Int) ≤ (r : Int) := by omega
      have g2 : ¬ (r : Int) ≤ 90 := by omega
      have g3 : (192 : Int) ≤ (r : Int) := by omega
      have g4 : (r : Int) ≤ 221 := by omega
      go_enter Tryd.func34, Tryd.ntmps34
      go_wp2
      go_ret
      refine ⟨?_, rfl⟩
      congr 2
      go_num
  · have e1 : lowR r = r := by unfold lowR; rw [if_neg h]
    rw [e1]
    by_cases h1 : 65 ≤ r
    · have g1 : (65 : Int) ≤ (r : Int) := by omega
      have g2 : ¬ (r : Int) ≤ 90 := by omega
      by_cases h3 : 192 ≤ r
      · have g3 : (192 : Int) ≤ (r : Int) := by omega
        have g4 : ¬ (r : Int) ≤ 221 := by omega
        go_enter Tryd.func34, Tryd.ntmps34
        go_wp2
        go_ret
        exact ⟨rfl, rfl⟩
      · have g3 : ¬ (192 : Int) ≤ (r : Int) := by omega
        go_enter Tryd.func34, Tryd.ntmps34
        go_wp2
        go_ret
        exact ⟨rfl, rfl⟩
    · have g1 : ¬ (65 : Int) ≤ (r : Int) := by omega
      have g3 : ¬ (192 : Int) ≤ (r : Int) := by omega
      go_enter Tryd.func34, Tryd.ntmps34
      go_wp2
      go_ret
      exact ⟨rfl, rfl⟩

end Go.Proofs.YtmegmgcfnihhiaaDoor
