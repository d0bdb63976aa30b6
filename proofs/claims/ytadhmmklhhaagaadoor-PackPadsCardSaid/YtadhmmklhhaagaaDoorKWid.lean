
/- The width of a field: the document's Width. -/
import Derived.Test.YtadhmmklhhaagaaDoorRound
import Derived.Test.YtadhmmklhhaagaaDoorInts
import Derived.Test.YtadhmmklhhaagaaDoorKMth
namespace Go.Proofs.YtadhmmklhhaagaaDoor
open Go.RowKit
set_option linter.unusedVariables false

set_option maxHeartbeats 4000000 in
theorem refWidth_any (p : Int) (w : World) (hp : p ≤ 4611686018427387904) :
    Calls Tryd.prog 17 #[.int .i64 p] w fun e w' => e = .returned (.int .i64 (wdt p)) ∧ w = w' := by
  obtain ⟨k, hk⟩ : ∃ k, wdt p = k := ⟨_, rfl⟩
  rw [hk]
  have hc : (k = 0 ∧ decide ((256 : Int) ≤ p) = false) ∨ (k = 1 ∧ decide ((256 : Int) ≤ p) = true ∧ decide ((65536 : Int) ≤ p) = false) ∨ (k = 2 ∧ decide ((256 : Int) ≤ p) = true ∧ decide ((65536 : Int) ≤ p) = true ∧ decide ((16777216 : Int) ≤ p) = false) ∨ (k = 3 ∧ decide ((256 : Int) ≤ p) = true ∧ decide ((65536 : Int) ≤ p) = true ∧ decide ((16777216 : Int) ≤ p) = true) := by
    simp only [decide_eq_true_eq, decide_eq_false_iff_not]
    unfold wdt at hk
    split at hk
    · omega
    · split at hk
      · omega
      · split at hk <;> omega
  clear hk hp
  rcases hc with ⟨rfl, c1⟩ | ⟨rfl, c1, c2⟩ | ⟨rfl, c1, c2, c3⟩ | ⟨rfl, c1, c2, c3⟩
  · go_enter Tryd.func17, Tryd.ntmps17
    go_wp2_with fail
    go_loop [3, 4] (fun v n => v = .int .i64 0 ∧ n = .int .i64 256) (fun v _ => 0)
    case atStart => exact ⟨rfl, rfl⟩
    case round =>
      obtain ⟨rfl, rfl⟩ := hrel
      go_wp2
      go_ret
      exact ⟨rfl, rfl⟩
  · go_enter Tryd.func17, Tryd.ntmps17
    go_wp2_with fail
    go_loop [3, 4] (fun v n => (v = .int .i64 0 ∧ n = .int .i64 256) ∨ (v = .int .i64 1 ∧ n = .int .i64 65536)) (fun v _ => 3 - (intOf v).toNat)
    case atStart => exact .inl ⟨rfl, rfl⟩
    case round =>
      rcases hrel with ⟨rfl, rfl⟩ | ⟨rfl, rfl⟩
      · go_wp2
        go_round
        case rel => exact .inr ⟨rfl, rfl⟩
        case measure => simp [intOf]
      · go_wp2
        go_ret
        exact ⟨rfl, rfl⟩
  · go_enter Tryd.func17, Tryd.ntmps17
    go_wp2_with fail
    go_loop [3, 4] (fun v n => (v = .int .i64 0 ∧ n = .int .i64 256) ∨ (v = .int .i64 1 ∧ n = .int .i64 65536) ∨ (v = .int .i64 2 ∧ n = .int .i64 16777216)) (fun v _ => 3 - (intOf v).toNat)
    case atStart => exact .inl ⟨rfl, rfl⟩
    case round =>
      rcases hrel with ⟨rfl, rfl⟩ | ⟨rfl, rfl⟩ | ⟨rfl, rfl⟩
      · go_wp2
        go_round
        case rel => exact .inr (.inl ⟨rfl, rfl⟩)
        case measure => simp [intOf]
      · go_wp2
        go_round
        case rel => exact .inr (.inr ⟨rfl, rfl⟩)
        case measure => simp [intOf]
      · go_wp2
        go_ret
        exact ⟨rfl, rfl⟩
  · go_enter Tryd.func17, Tryd.ntmps17
    go_wp2_with fail
    go_loop [3, 4] (fun v n => (v = .int .i64 0 ∧ n = .int .i64 256) ∨ (v = .int .i64 1 ∧ n = .int .i64 65536) ∨ (v = .int .i64 2 ∧ n = .int .i64 16777216) ∨ (v = .int .i64 3 ∧ n = .int .i64 4294967296)) (fun v _ => 3 - (intOf v).toNat)
    case atStart => exact .inl ⟨rfl, rfl⟩
    case round =>
      rcases hrel with ⟨rfl, rfl⟩ | ⟨rfl, rfl⟩ | ⟨rfl, rfl⟩ | ⟨rfl, rfl⟩
      · go_wp2
        go_round
        case rel => exact .inr (.inl ⟨rfl, rfl⟩)
        case measure => simp [intOf]
      · go_wp2
        go_round
        case rel => exact .inr (.inr (.inl ⟨rfl, rfl⟩))
        case measure => simp [intOf]
      · go_wp2
        go_round
        case rel => exact .inr (.inr (.inr ⟨rfl, rfl⟩))
        case measure => simp [intOf]
      · go_wp2
        go_ret
        exact ⟨rfl, rfl⟩
end Go.Proofs.YtadhmmklhhaagaaDoor
