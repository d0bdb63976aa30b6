
/- The sanity check of layer 3's statements: published vectors. -/
import Derived.Test.YtidmcemcmalfnaaDoorSSha
import Derived.Test.YtidmcemcmalfnaaDoorSHex
import Derived.Test.YtidmcemcmalfnaaDoorShaV
namespace Go.Proofs.YtidmcemcmalfnaaDoor
open Go.RowKit
set_option linter.unusedVariables false

def hexOf (l : List UInt8) : ByteArray := ⟨(hexL l).toArray⟩
theorem sum_str (s : ByteArray) (m l : List UInt8) (hm : s.data.toList = m) (hl : Sha.sum m = l) (hs : s.size < 1000) (w : World) (ht : Tabs w) :
    Calls Tryd.prog 8 #[.string s] w fun e w' => e = .returned (.string ⟨l.toArray⟩) ∧ Below w.heap.size w w' := by
  have h := sum_any s w ht (by omega)
  rw [hm, hl] at h
  exact h
theorem hex_str (s r : ByteArray) (hr : (⟨(hexL s.data.toList).toArray⟩ : ByteArray) = r) (hs : s.size < 1000) (w : World) :
    Calls Tryd.prog 10 #[.string s] w fun e w' => e = .returned (.string r) ∧ Below w.heap.size w w' := by
  have h := hex_any s w (by omega)
  rw [hr] at h
  exact h
set_option maxRecDepth 100000 in
set_option maxHeartbeats 4000000 in
theorem awake3_any (w : World) (ht : Tabs w) : Calls Tryd.prog 7 #[] w fun e w' => e = .returned (.bool true) ∧ Below w.heap.size w w' := by
  have hsz := ht.size
  have HT := Lib.hid ht
  clear ht
  go_enter Tryd.func7, Tryd.ntmps7
  go_wp2_with fail
  refine (sum_str _ [97, 98, 99] _ rfl Sha.sum_abc (by decide) w HT.out).mono ?_
  rintro e w1 ⟨rfl, hb1⟩
  have HB1 := Lib.hid hb1
  have HT1 := Lib.hid (HT.out.below hb1 hsz)
  clear hb1
  go_wp2_with fail
  refine (hex_str _ ⟨#[98, 97, 55, 56, 49, 54, 98, 102, 56, 102, 48, 49, 99, 102, 101, 97, 52, 49, 52, 49, 52, 48, 100, 101, 53, 100, 97, 101, 50, 50, 50, 51, 98, 48, 48, 51, 54, 49, 97, 51, 57, 54, 49, 55, 55, 97, 57, 99, 98, 52, 49, 48, 102, 102, 54, 49, 102, 50, 48, 48, 49, 53, 97, 100]⟩ (by kernel_rfl) (by decide) w1).mono ?_
  rintro e w2 ⟨rfl, hb2⟩
  have HB2 := Lib.hid (HB1.out.trans (hb2.mono HB1.out.size))
  have HT2 := Lib.hid (HT1.out.below hb2 (Nat.le_trans hsz HB1.out.size))
  have hs2 := HB2.out.size
  clear hb2 HB1 HT1
  go_wp2_with fail
  refine (sum_str _ [] _ rfl Sha.sum_nil (by decide) w2 HT2.out).mono ?_
  rintro e w3 ⟨rfl, hb3⟩
  have HB3 := Lib.hid (HB2.out.trans (hb3.mono hs2))
  have hs3 := HB3.out.size
  clear hb3 HB2 HT2
  go_wp2_with fail
  refine (hex_str _ ⟨#[101, 51, 98, 48, 99, 52, 52, 50, 57, 56, 102, 99, 49, 99, 49, 52, 57, 97, 102, 98, 102, 52, 99, 56, 57, 57, 54, 102, 98, 57, 50, 52, 50, 55, 97, 101, 52, 49, 101, 52, 54, 52, 57, 98, 57, 51, 52, 99, 97, 52, 57, 53, 57, 57, 49, 98, 55, 56, 53, 50, 98, 56, 53, 53]⟩ (by kernel_rfl) (by decide) w3).mono ?_
  rintro e w4 ⟨rfl, hb4⟩
  have HB4 := Lib.hid (HB3.out.trans (hb4.mono hs3))
  clear hb4 HB3
  go_wp2
  go_ret
  exact ⟨rfl, HB4.out⟩
end Go.Proofs.YtidmcemcmalfnaaDoor
