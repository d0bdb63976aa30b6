
/- SHA-256 of a string: the program's Sum. -/
import Derived.Test.YtidmcemcmalfnaaDoorSSum
namespace Go.Proofs.YtidmcemcmalfnaaDoor
open Go.RowKit
set_option linter.unusedVariables false

theorem RunVal.cells {cs : Array Value} {m : List UInt8} (h : RunVal cs m) : (Tryd.prog.info? 44).map (·.size) = some cs.size := by rw [h.1]; exact infoRun
/-- A running sum is laid into a variable of its own. -/
theorem run_boxed {cs : Array Value} {m : List UInt8} (h : RunVal cs m) (w : World) : At ((w.alloc (.cells zeroRun 44)).setRow w.heap.size cs) w.heap.size m ∧ Below w.heap.size w ((w.alloc (.cells zeroRun 44)).setRow w.heap.size cs) := by
  rw [World.setRow_alloc_new]
  exact ⟨h.at (heap_alloc_new _ _), (Below.refl _ _).alloc (Nat.le_refl _) _⟩
set_option maxRecDepth 100000 in
set_option maxHeartbeats 4000000 in
theorem sum_any (s : ByteArray) (w : World) (ht : Tabs w) (hs : s.size < 100000000000000000) :
    Calls Tryd.prog 8 #[.string s] w fun e w' => e = .returned (.string ⟨(Sha.sum s.data.toList).toArray⟩) ∧ Below w.heap.size w w' := by
  have hz : ∀ w, (zeroValue 44).run Tryd.prog w = .ok (.agg zeroRun) w := zeroVal
  have HS := Lib.hid hs
  have hT := ht.size
  have HT := Lib.hid ht
  clear ht hs
  go_enter Tryd.func8, Tryd.ntmps8
  go_wp2_with fail
  refine (begin_any w HT.out).mono ?_
  rintro e w1 ⟨cs, rfl, hv, hb1⟩
  have HV := Lib.hid hv
  have HB1 := Lib.hid hb1
  have hcs := hv.1
  clear hv hb1
  go_wp2_with (refine wpList_store_row rfl 44 (.tmp 3) (.tmp 4) rfl w1.heap.size cs rfl rfl 44 zeroRun (heap_alloc_new _ _) HV.out.cells (by rw [hcs]; rfl) HV.out.2.1 ?_)
  obtain ⟨hA2, hb2⟩ := run_boxed HV.out w1
  have HA2 := Lib.hid hA2
  have HB2 := Lib.hid (HB1.out.trans (hb2.mono HB1.out.size))
  have HT2 := Lib.hid (HT.out.below HB2.out hT)
  have hg1 : w.heap.size ≤ w1.heap.size := HB1.out.size
  generalize (w1.alloc (.cells zeroRun 44)).setRow w1.heap.size cs = w2 at *
  generalize w1.heap.size = g at *
  clear hA2 hb2 HB1 hz
  refine (write_any g [] s w2 HT2.out (by omega) HA2.out (by have h := HS.out; simp; omega)).mono ?_
  rintro e w3 ⟨rfl, hA3, hb3⟩
  rw [List.nil_append] at hA3
  obtain ⟨cs3, hc3, hv3⟩ := hA3.val
  have HB3 := Lib.hid (HB2.out.trans (hb3.below hg1 (Nat.le_trans hg1 (Nat.le_of_lt HA2.out.lt))))
  have HT3 := Lib.hid (HT2.out.but hb3 (by omega))
  have HV3 := Lib.hid hv3
  have HC3 := Lib.hid hc3
  have hwg : w.heap.size ≤ w3.heap.size := HB3.out.size
  clear hA3 hb3 hc3 hv3 HA2 HB2 HT2
  go_wp2_with (refine wpList_load_row rfl 44 (.tmp 3) rfl g rfl 44 cs3 (0, 0) _ HC3.out Tryd.underlying44 rfl HV3.out.cells ?_)
  refine (sumv_any cs3 _ w3 HT3.out HV3.out (by have h := HS.out; rw [← Lib.size_eq]; omega)).mono ?_
  rintro e w4 ⟨rfl, hb4⟩
  have HB4 := Lib.hid (HB3.out.trans (hb4.mono hwg))
  obtain ⟨sr, hsr⟩ : ∃ r : ByteArray, (⟨(Sha.sum s.data.toList).toArray⟩ : ByteArray) = r := ⟨_, rfl⟩
  have HSR := Lib.hid hsr
  rw [hsr]
  clear hsr hb4
  go_wp2
  go_ret
  exact ⟨by rw [HSR.out]; rfl, HB4.out⟩
end Go.Proofs.YtidmcemcmalfnaaDoor
