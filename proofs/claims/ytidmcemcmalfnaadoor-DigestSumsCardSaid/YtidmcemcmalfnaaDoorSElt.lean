
/- Elements of strings: the program's Element. -/
import Derived.Test.YtidmcemcmalfnaaDoorSStr
namespace Go.Proofs.YtidmcemcmalfnaaDoor
open Go.RowKit
set_option linter.unusedVariables false

def elt (p : Int) (s : List UInt8) : Int := sev (Sha.sum s) % (p - 1) + 1
set_option maxHeartbeats 1000000 in
theorem digElem_any (p : Int) (s : ByteArray) (w : World) (ht : Tabs w) (hp : 2 ≤ p) (hp2 : p ≤ 1073741824) (hs : s.size < 1000000) :
    Calls Tryd.prog 21 #[.int .i64 p, .string s] w fun e w' => e = .returned (.int .i64 (elt p s.data.toList)) ∧ Below w.heap.size w w' := by
  have HC := Lib.hid (sum_any s w ht (by omega))
  obtain ⟨L, hL⟩ : ∃ L, s.data.toList = L := ⟨_, rfl⟩
  rw [hL] at HC ⊢
  clear hL
  go_enter Tryd.func21, Tryd.ntmps21
  go_wp2_with fail
  refine HC.out.mono ?_
  rintro e w1 ⟨rfl, hb1⟩
  obtain ⟨su, hsu⟩ : ∃ r : ByteArray, (⟨(Sha.sum L).toArray⟩ : ByteArray) = r := ⟨_, rfl⟩
  have hul : su.data.toList = Sha.sum L := by rw [← hsu]
  have hus : su.size = 32 := by rw [Lib.size_eq, hul, sum_len]
  rw [hsu]
  have HB1 := Lib.hid hb1
  have HNB := Lib.hid (number_any su w1 (by omega))
  have HE : Hid (elt p L = sev su.data.toList % (p - 1) + 1) := by show _ = _; rw [hul]; rfl
  clear hsu hul hb1 hus HC
  go_wp2_with fail
  refine HNB.out.mono ?_
  rintro e w2 ⟨rfl, hw2⟩
  subst hw2
  have hsv := sev_in su.data.toList
  obtain ⟨v, hv⟩ : ∃ v, sev su.data.toList = v := ⟨_, rfl⟩
  rw [hv] at hsv HE ⊢
  have hmod : v.tmod (p - 1) = v % (p - 1) := Int.tmod_eq_emod_of_nonneg hsv.1
  have hm0 : 0 ≤ v % (p - 1) := Int.emod_nonneg _ (by omega)
  have hm1 : v % (p - 1) < p - 1 := Int.emod_lt_of_pos _ (by omega)
  clear hv HNB
  generalize hr : v % (p - 1) = r at *
  clear hr
  go_wp2
  go_ret
  exact ⟨by rw [HE.out]; rfl, HB1.out⟩
end Go.Proofs.YtidmcemcmalfnaaDoor
