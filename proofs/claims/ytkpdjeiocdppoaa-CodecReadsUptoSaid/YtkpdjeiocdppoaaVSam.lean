
/- Lists of texts compared: the document's SameTexts, where they are the same. -/
import Derived.Test.YtkpdjeiocdppoaaVRts
namespace Go.Proofs.Ytkpdjeiocdppoaa
open Go.RowKit
set_option linter.unusedVariables false

set_option maxRecDepth 100000 in
theorem refSame_eq (a1 a2 : Option Addr) (n c1 c2 : Nat) (l : List ByteArray) (w : World) (h1 : Strs w (.slice a1 n c1) l) (h2 : Strs w (.slice a2 n c2) l) :
    Calls Try.prog 28 #[.slice a1 n c1, .slice a2 n c2] w fun e w' => e = .returned (.bool true) ∧ w = w' := by
  have hn : n ≤ 140737488355328 := by
    obtain ⟨a, c, he, hl, _⟩ := h1
    simp only [Value.slice.injEq] at he
    omega
  have H1 := Lib.hid h1
  have H2 := Lib.hid h2
  clear h1 h2
  go_enter Try.func28, Try.ntmps28
  go_wp2_with fail
  go_loop [5, 6, 14] (fun _ _ i => ∃ k : Nat, k ≤ n ∧ i = .int .i64 k) (fun _ _ i => n - (intOf i).toNat)
  case atStart => exact ⟨0, by omega, rfl⟩
  case round =>
    obtain ⟨k, hk, rfl⟩ := hrel
    by_cases hlt : k < n
    · obtain ⟨b1, o1, rfl, hc1⟩ := H1.out.at hlt
      obtain ⟨b2, o2, rfl, hc2⟩ := H2.out.at hlt
      generalize l.getD k ByteArray.empty = x at *
      go_wp2
      go_round
      case rel => exact ⟨k + 1, by omega, by go_num⟩
      case measure => simp [intOf]; omega
    · go_wp2
      go_ret
      exact ⟨rfl, rfl⟩
end Go.Proofs.Ytkpdjeiocdppoaa
