
/- The example of chapter 11. -/
import Derived.Test.YtmegmgcfnihhiaaDoorOFo
namespace Go.Proofs.YtmegmgcfnihhiaaDoor
open Go.RowKit Go.Shelf
set_option linter.unusedVariables false
set_option linter.unusedSimpArgs false

set_option maxRecDepth 100000 in
theorem ex_fold : foldL [79, 39, 66, 114, 105, 101, 110, 45, 77, 195, 188, 108, 108, 101, 114] = [111, 98, 114, 105, 101, 110, 32, 109, 117, 101, 108, 108, 101, 114] := by decide +kernel
theorem ex_plain : decide (foldL [97, 32, 98] = [97, 32, 98]) = true := by decide +kernel
theorem ex_not : decide (foldL [65] = [65]) = false := by decide +kernel

theorem awake11_any (w : World) (T : Tbw w) :
    Calls Tryd.prog 9 #[] w fun e w' => e = .returned (.bool true) ∧ Below w.heap.size w w' := by
  have hF := fold_any ⟨#[79, 39, 66, 114, 105, 101, 110, 45, 77, 195, 188, 108, 108, 101, 114]⟩ w T (by decide)
  rw [show (⟨#[79, 39, 66, 114, 105, 101, 110, 45, 77, 195, 188, 108, 108, 101, 114]⟩ : ByteArray).data.toList = [79, 39, 66, 114, 105, 101, 110, 45, 77, 195, 188, 108, 108, 101, 114] from rfl, ex_fold] at hF
  have HF := Lib.hid hF
  have HT := Lib.hid T
  clear hF T
  go_enter Tryd.func9, Tryd.ntmps9
  go_wp2_with fail
  refine HF.out.mono ?_
  rintro e w1 ⟨rfl, hb1⟩
  have HB1 := Lib.hid hb1
  have hP := plain_any ⟨#[97, 32, 98]⟩ w1 (HT.out.below hb1) (by decide) (by decide)
  rw [show (⟨#[97, 32, 98]⟩ : ByteArray).data.toList = [97, 32, 98] from rfl, ex_plain] at hP
  have HP := Lib.hid hP
  clear hP hb1 HF
  go_wp2_with fail
  refine HP.out.mono ?_
  rintro e w2 ⟨rfl, hb2⟩
  have HB2 := Lib.hid (HB1.out.trans (hb2.mono HB1.out.size))
  have hP := plain_any ⟨#[65]⟩ w2 (HT.out.below HB2.out) (by decide) (by decide)
  rw [show (⟨#[65]⟩ : ByteArray).data.toList = [65] from rfl, ex_not] at hP
  have HP2 := Lib.hid hP
  clear hP hb2 HP
  go_wp2_with fail
  refine HP2.out.mono ?_
  rintro e w3 ⟨rfl, hb3⟩
  have HB3 := Lib.hid (HB2.out.trans (hb3.mono HB2.out.size))
  have hL1 := letter_any 97 w3 (by decide)
  have hL2 := letter_any 32 w3 (by decide)
  rw [show letR 97 = true from by decide] at hL1
  rw [show letR 32 = false from by decide] at hL2
  have HL1 := Lib.hid hL1
  have HL2 := Lib.hid hL2
  clear hb3 hL1 hL2 HP2
  go_wp2_with fail
  refine HL1.out.mono ?_
  rintro e w4 ⟨rfl, rfl⟩
  go_wp2_with fail
  refine HL2.out.mono ?_
  rintro e w5 ⟨rfl, rfl⟩
  go_wp2
  go_ret
  exact ⟨rfl, HB3.out⟩
end Go.Proofs.YtmegmgcfnihhiaaDoor
