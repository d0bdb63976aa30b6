
/- The walk through ShareExplains, with the program's and the document's own contracts. -/
import Derived.Test.YtcgemfiinmjllaaDoorHXd
import Derived.Test.YtcgemfiinmjllaaDoorHPk
namespace Go.Proofs.YtcgemfiinmjllaaDoor
open Go.RowKit
open Num
set_option linter.unusedVariables false
theorem refExplain_all : ExpP2 := by
  intro p k n vk vs L S w hp hs hq hS
  by_cases hE : expE p k n L S = 0
  · obtain ⟨K, N, rfl, rfl, hpb, _, _, hp2, hin⟩ := expE_in hE
    have h3 : goodB p (N : Int) L = true ∧ (0 < L.length → (L.getD 0 (0, [])).2.length = S.length) ∧ elB p S = true := by
      unfold expE at hE
      by_cases h1 : planB p (K : Int) (N : Int) = true ∧ goodB p (N : Int) L = true ∧ (0 < L.length → (L.getD 0 (0, [])).2.length = S.length)
      · rw [if_pos h1] at hE
        by_cases h2 : elB p S = true
        · exact ⟨h1.2.1, h1.2.2, h2⟩
        · rw [if_neg h2] at hE; cases hE
      · rw [if_neg h1] at hE; cases hE
    refine (ref6_explain_ok p K N vk vs L S w hp hp2 hs hq hpb h3.1 h3.2.1 h3.2.2 hin hS).mono ?_
    rintro e w' ⟨v, h1, h2, h4⟩
    refine ⟨v, by rw [hE]; exact h1, ?_, h4⟩
    have e2 : expR p (K : Int) (N : Int) L S = expL p K N S.length L S := by
      unfold expR
      rw [if_pos hE, Int.toNat_natCast, Int.toNat_natCast]
    rw [e2]
    exact h2
  · exact ref6_explain_err p k n vk vs L S w hp hs hq hE
theorem shareExplains_walk (s : Value) (l : List Int) (sr : Value) (R : List Shr) (vS : Value) (SS : List Int) (w : World) (hw : Wheel w) (hs : Ints w s l) (hr : SharesU w sr R) (hq : Ints w vS SS) :
    Calls Tryd.prog 3 #[s, sr, vS] w fun e w' => e = .returned (.bool true) ∧ Below w.heap.size w w' :=
  shareExplains_walkF share_deal share_explain refExplain_all s l sr R vS SS w hw hs hr hq
end Go.Proofs.YtcgemfiinmjllaaDoor
