
/- The sanity check of layer 4's statements: the examples of chapter 4. -/
import Derived.Test.YtkpdjeiocdppoaaCInt
namespace Go.Proofs.Ytkpdjeiocdppoaa
open Go.RowKit
set_option linter.unusedVariables false

theorem grp_64 : Vi.grp (Vi.zz 64) = [128, 1] := by
  rw [show Vi.zz 64 = 128 from rfl, Vi.grp_hi (by omega), Vi.grp_lo (by omega)]
  rfl
theorem grp_m1 : Vi.grp (Vi.zz (-1)) = [1] := by
  rw [show Vi.zz (-1) = 1 from rfl, Vi.grp_lo (by omega)]
  rfl
theorem put_64 (w : World) : Calls Try.prog 10 #[.string ⟨#[]⟩, .int .i64 64] w fun e w' => e = .returned (.string ⟨#[128, 1]⟩) ∧ Below w.heap.size w w' := by
  have h := putInt_any ⟨#[]⟩ 64 w (by decide) (by omega)
  rw [grp_64] at h
  exact h
theorem put_m1 (w : World) : Calls Try.prog 10 #[.string ⟨#[]⟩, .int .i64 (-1)] w fun e w' => e = .returned (.string ⟨#[1]⟩) ∧ Below w.heap.size w w' := by
  have h := putInt_any ⟨#[]⟩ (-1) w (by decide) (by omega)
  rw [grp_m1] at h
  exact h
theorem int_m1 (w : World) : Calls Try.prog 20 #[.string ⟨#[1]⟩, .int .i64 0] w fun e w' => e = .returned (.tuple #[.int .i64 (-1), .int .i64 1, .int .i64 0]) ∧ w = w' := by
  have h := int_any ⟨#[1]⟩ 0 w (by decide)
  have e : intR (ByteArray.mk #[1]).data.toList 0 = (-1, 1, 0) := by decide
  rw [e] at h
  exact h
set_option maxRecDepth 100000 in
set_option maxHeartbeats 4000000 in
theorem awake4_any (w : World) : Calls Try.prog 9 #[] w fun e w' => e = .returned (.bool true) ∧ Below w.heap.size w w' := by
  go_enter Try.func9, Try.ntmps9
  go_wp2_with fail
  refine (int_m1 w).mono ?_
  rintro e w1 ⟨rfl, rfl⟩
  go_wp2_with fail
  refine (put_64 w).mono ?_
  rintro e w1 ⟨rfl, hb1⟩
  have HB1 := Lib.hid hb1
  have hs1 := hb1.size
  clear hb1
  go_wp2_with fail
  refine (put_m1 w1).mono ?_
  rintro e w2 ⟨rfl, hb2⟩
  have HB2 := Lib.hid (HB1.out.trans (hb2.mono hs1))
  clear hb2 HB1
  go_wp2
  go_ret
  exact ⟨rfl, HB2.out⟩
end Go.Proofs.Ytkpdjeiocdppoaa
