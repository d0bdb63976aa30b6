
/- What is asked of the program's package pack, and the sanity check of layer 5's statements. -/
import Derived.Test.YtadhmmklhhaagaaDoorKPad
import Derived.Test.YtadhmmklhhaagaaDoorKMth
import Derived.Test.YtadhmmklhhaagaaDoorDice
import Derived.Test.YtadhmmklhhaagaaDoorOwn
import Derived.Test.YtadhmmklhhaagaaDoorVTxt
import Derived.Test.YtadhmmklhhaagaaDoorKTb
namespace Go.Proofs.YtadhmmklhhaagaaDoor
open Go.RowKit
open Num
set_option linter.unusedVariables false

/-- The contracts of the program's functions. -/
structure Pk : Prop where
  pad : ∀ (s : ByteArray) (u : Int) (w : World), s.size ≤ 100000 → Calls Tryd.prog 9 #[.string s, .int .i64 u] w fun e w' => e = two (padR s.data.toList u) ∧ Below w.heap.size w w'
  strip : ∀ (s : ByteArray) (w : World), s.size ≤ 100000 → Calls Tryd.prog 12 #[.string s] w fun e w' => ∃ r : List UInt8 × Int, e = two r ∧ Strips s.data.toList r ∧ Below w.heap.size w w'
  packOk : ∀ (p : Int) (s : ByteArray) (w : World), Tb w → PrmI p → p ≤ 500000003 → s.size ≤ 100000 → cnt p s.size ≤ 2048 →
    Calls Tryd.prog 18 #[.int .i64 p, .string s] w fun e w' => ∃ a c, e = .returned (.tuple #[.slice a (cnt p s.size) c, .int .i64 0]) ∧ Ints w' (.slice a (cnt p s.size) c) (packL p s.data.toList) ∧ Below w.heap.size w w'
  packLim : ∀ (p : Int) (s : ByteArray) (w : World), Tb w → PrmI p → p ≤ 500000003 → s.size ≤ 100000 → 2048 < cnt p s.size →
    Calls Tryd.prog 18 #[.int .i64 p, .string s] w fun e w' => ∃ a c, e = .returned (.tuple #[.slice a 0 c, .int .i64 3]) ∧ Below w.heap.size w w'
  unpack : ∀ (p : Int) (aa : Option Addr) (n c : Nat) (l : List Int) (k : Nat) (w : World), Tb w → PrmI p → p ≤ 500000003 → Ints w (.slice aa n c) l → n ≤ 2048 → k ≤ 100000 →
    Calls Tryd.prog 19 #[.int .i64 p, .slice aa n c, .int .i64 k] w fun e w' => ∃ r : List UInt8 × Int, e = two r ∧ UnpackS p l k r ∧ Below w.heap.size w w'
  count : ∀ (p : Int) (n : Nat) (w : World), Tb w → 2 ≤ p → p ≤ 500000003 → n ≤ 100000 → Calls Tryd.prog 20 #[.int .i64 p, .int .i64 n] w fun e w' => e = .returned (.int .i64 (cnt p n)) ∧ w = w'
  width : ∀ (p : Int) (w : World), Tb w → 2 ≤ p → p ≤ 500000003 → Calls Tryd.prog 21 #[.int .i64 p] w fun e w' => e = .returned (.int .i64 (wdt p)) ∧ w = w'

theorem packL_ex : packL 500000003 [1, 2, 3, 4] = [66051, 4] := by
  have hw : wdt 500000003 = 3 := rfl
  unfold packL
  rw [hw, if_neg (by omega), chunks_cons (by omega) (by simp)]
  show (big [1, 2, 3] :: chunks 3 [4]).map _ = _
  rw [chunks_cons (by omega) (by simp)]
  show (big [1, 2, 3] :: big [4] :: chunks 3 []).map _ = _
  rw [chunks_nil]
  rfl
set_option maxRecDepth 100000 in
set_option maxHeartbeats 4000000 in
theorem awake5_any (F : Pk) (w : World) (hw : Tb w) : Calls Tryd.prog 7 #[] w fun e w' => e = .returned (.bool true) ∧ Below w.heap.size w w' := by
  have hP := F.packOk 500000003 ⟨#[1, 2, 3, 4]⟩ w hw prm_great (by omega) (by decide) (by decide)
  have hc : cnt 500000003 (ByteArray.mk #[1, 2, 3, 4]).size = 2 := by decide
  have hl : packL 500000003 (ByteArray.mk #[1, 2, 3, 4]).data.toList = [66051, 4] := packL_ex
  rw [hc, hl] at hP
  have hP := Lib.hid hP
  have h7 : Hid (∀ w, Tb w → Calls Tryd.prog 21 #[.int .i64 7] w fun e w' => e = .returned (.int .i64 0) ∧ w = w') := fun w hw => F.width 7 w hw (by omega) (by omega)
  have h257 : Hid (∀ w, Tb w → Calls Tryd.prog 21 #[.int .i64 257] w fun e w' => e = .returned (.int .i64 1) ∧ w = w') := fun w hw => F.width 257 w hw (by omega) (by omega)
  have HW := Lib.hid hw
  clear hw hc hl
  go_enter Tryd.func7, Tryd.ntmps7
  go_wp2_with fail
  refine hP.out.mono ?_
  rintro e w1 ⟨a, c, rfl, hi, hb⟩
  have HB := Lib.hid hb
  have HW1 := Lib.hid (HW.out.below HW.out.size hb)
  obtain ⟨a', c', he, _, hx⟩ := hi
  simp only [Value.slice.injEq] at he
  obtain ⟨rfl, _, rfl⟩ := he
  obtain ⟨b, off, rfl, hcell⟩ := hx (by simp)
  have hc0 : w1.cell? ⟨b, off, none⟩ = some (.int .i64 66051) := hcell 0 (by simp)
  have hc1 : w1.cell? ⟨b, off + 1, none⟩ = some (.int .i64 4) := hcell 1 (by simp)
  clear hx hcell hb hP
  have h7 := Lib.hid (h7.out w1 HW1.out)
  have h257 := Lib.hid (h257.out w1 HW1.out)
  clear HW HW1
  go_wp2_with fail
  refine h7.out.mono ?_
  rintro e w' ⟨rfl, rfl⟩
  go_wp2_with fail
  refine h257.out.mono ?_
  rintro e w' ⟨rfl, rfl⟩
  go_wp2
  go_ret
  exact ⟨rfl, HB.out⟩
end Go.Proofs.YtadhmmklhhaagaaDoor
