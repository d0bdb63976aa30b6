
/- Numbers and texts are added to a running sum; the beginning of a pair. -/
import Derived.Test.YtidmcemcmalfnaaDoorSSha
namespace Go.Proofs.YtidmcemcmalfnaaDoor
open Go.RowKit
set_option linter.unusedVariables false

/-- A text behind its length. -/
def txt (l : List UInt8) : List UInt8 := hf l.length 4 ++ l
theorem txt_len (l : List UInt8) : (txt l).length = 4 + l.length := by unfold txt; rw [List.length_append, hf_len]

set_option maxHeartbeats 1000000 in
theorem writeNumber_any (g n : Nat) (m : List UInt8) (w : World) (ht : Tabs w) (hg : 2 ≤ g) (ha : At w g m) (hn : n < 4611686018427387904) (hm : m.length < 1000000000000000000) :
    Calls Tryd.prog 33 #[.pointer (some ⟨g, 0, none⟩), .int .i64 n] w fun e w' => e = .returned (.tuple #[]) ∧ At w' g (m ++ hf n 4) ∧ But g w w' := by
  have hw8 : IntKind.u64.wrap (n : Int) = (n : Int) := by rw [IntKind.wrap_u64]; omega
  have HH := Lib.hid (hf_any n 4 w (by omega) (by omega))
  have HA := Lib.hid ha
  have HT := Lib.hid ht
  have HM := Lib.hid hm
  clear ha ht hm hn
  go_enter Tryd.func33, Tryd.ntmps33
  go_wp2_with fail
  refine HH.out.mono ?_
  rintro e w1 ⟨rfl, hb1⟩
  obtain ⟨s, hs⟩ : ∃ s : ByteArray, (⟨(hf n 4).toArray⟩ : ByteArray) = s := ⟨_, rfl⟩
  have hsl : s.data.toList = hf n 4 := by rw [← hs]
  have hss : s.size = 4 := by rw [Lib.size_eq, hsl, hf_len]
  rw [hs]
  have HS := Lib.hid hsl
  have HA1 : Hid (At w1 g m) := HA.out.below hb1
  have hlt := HA.out.lt
  have HT1 := Lib.hid (HT.out.below hb1 HT.out.size)
  have HB1 : Hid (But g w w1) := But.of_below hb1 (Nat.le_refl _)
  clear hs hsl hb1 HA HT HH
  go_wp2_with fail
  refine (write_any g m s w1 HT1.out hg HA1.out (by have h := HM.out; omega)).mono ?_
  rintro e w2 ⟨rfl, hA2, hb2⟩
  rw [HS.out] at hA2
  have HA2 := Lib.hid hA2
  have HB2 := Lib.hid (HB1.out.trans hb2)
  clear hA2 hb2
  go_wp2
  exact post_end0 rfl rfl ⟨rfl, HA2.out, HB2.out⟩

set_option maxHeartbeats 1000000 in
theorem writeText_any (g : Nat) (m : List UInt8) (s : ByteArray) (w : World) (ht : Tabs w) (hg : 2 ≤ g) (ha : At w g m) (hs : s.size < 100000000000000000) (hm : m.length < 500000000000000000) :
    Calls Tryd.prog 31 #[.pointer (some ⟨g, 0, none⟩), .string s] w fun e w' => e = .returned (.tuple #[]) ∧ At w' g (m ++ txt s.data.toList) ∧ But g w w' := by
  obtain ⟨n, hn⟩ : ∃ n, s.size = n := ⟨_, rfl⟩
  have HH := Lib.hid (writeNumber_any g n m w ht hg ha (by omega) (by omega))
  have HN : Hid (s.data.toList.length = n) := by show _ = _; rw [← hn, ← Lib.size_eq]
  have HM := Lib.hid hm
  have HT := Lib.hid ht
  have HSN := Lib.hid hs
  have HNN := Lib.hid hn
  clear ht ha hm hs
  go_enter Tryd.func31, Tryd.ntmps31
  go_wp2_with fail
  refine HH.out.mono ?_
  rintro e w1 ⟨rfl, hA1, hb1⟩
  have HA1 := Lib.hid hA1
  have HT1 := Lib.hid (HT.out.but hb1 hg)
  have HB1 := Lib.hid hb1
  clear hA1 hb1 HT HH hn
  go_wp2_with fail
  refine (write_any g _ s w1 HT1.out hg HA1.out (by rw [List.length_append, hf_len]; have h := HM.out; have h2 := HSN.out; omega)).mono ?_
  rintro e w2 ⟨rfl, hA2, hb2⟩
  have HA2 : Hid (At w2 g (m ++ txt s.data.toList)) := by
    show At _ _ _
    unfold txt
    rw [HN.out, ← List.append_assoc]
    exact hA2
  have HB2 := Lib.hid (HB1.out.trans hb2)
  clear hA2 hb2
  go_wp2
  exact post_end0 rfl rfl ⟨rfl, HA2.out, HB2.out⟩

set_option maxRecDepth 100000 in
set_option maxHeartbeats 4000000 in
theorem beginPair_any (s : ByteArray) (w : World) (ht : Tabs w) (hs : s.size < 100000000000000000) :
    Calls Tryd.prog 30 #[.string s] w fun e w' => ∃ cs, e = .returned (.agg cs) ∧ RunVal cs ([1] ++ txt s.data.toList) ∧ Below w.heap.size w w' := by
  have hz : ∀ w, (zeroValue 44).run Tryd.prog w = .ok (.agg zeroRun) w := zeroVal
  have HS := Lib.hid hs
  have hT := ht.size
  have HT := Lib.hid ht
  clear ht hs
  obtain ⟨g0, hg0⟩ : ∃ g, w.heap.size = g := ⟨_, rfl⟩
  rw [hg0] at hT ⊢
  go_enter Tryd.func30, Tryd.ntmps30
  go_wp2_with fail
  have hbr : Below w.heap.size w (w.alloc (.cells zeroRun 44)) := (Below.refl _ _).alloc (Nat.le_refl _) _
  have hcr : (w.alloc (.cells zeroRun 44)).heap[w.heap.size]? = some (.cells zeroRun 44 (0, 0)) := heap_alloc_new _ _
  rw [hg0] at hbr hcr
  generalize w.alloc (.cells zeroRun 44) = w0 at *
  have hsr : g0 < w0.heap.size := (Array.getElem?_eq_some_iff.1 hcr).1
  have HBR := Lib.hid hbr
  have HCR := Lib.hid hcr
  have HT0 := Lib.hid (HT.out.below hbr hT)
  clear hbr hcr HT hg0
  refine (begin_any w0 HT0.out).mono ?_
  rintro e w1 ⟨cs, rfl, hv, hb1⟩
  have HV := Lib.hid hv
  have HB1 : Hid (Below g0 w w1) := HBR.out.trans (hb1.mono (Nat.le_of_lt hsr))
  have HC1 : Hid (w1.heap[g0]? = some (.cells zeroRun 44 (0, 0))) := by show _ = _; rw [hb1.block g0 hsr]; exact HCR.out
  have HT1 := Lib.hid (HT0.out.below hb1 (by omega))
  have hs1 : g0 < w1.heap.size := Nat.lt_of_lt_of_le hsr hb1.size
  have hcs := hv.1
  clear hv hb1 HBR HCR HT0 hsr
  go_wp2_with (refine wpList_store_row rfl 44 (.tmp 3) (.tmp 4) rfl w1.heap.size cs rfl rfl 44 zeroRun (heap_alloc_new _ _) HV.out.cells (by rw [hcs]; rfl) HV.out.2.1 ?_)
  obtain ⟨hA2, hb2⟩ := run_boxed HV.out w1
  have HA2 := Lib.hid hA2
  have HB2 : Hid (Below g0 w ((w1.alloc (.cells zeroRun 44)).setRow w1.heap.size cs)) := HB1.out.trans (hb2.mono (Nat.le_of_lt hs1))
  have HC2 : Hid (((w1.alloc (.cells zeroRun 44)).setRow w1.heap.size cs).heap[g0]? = some (.cells zeroRun 44 (0, 0))) := by show _ = _; rw [hb2.block g0 hs1]; exact HC1.out
  have HT2 := Lib.hid (HT1.out.below hb2 (by omega))
  generalize (w1.alloc (.cells zeroRun 44)).setRow w1.heap.size cs = w2 at *
  generalize w1.heap.size = g at *
  clear hA2 hb2 HB1 HC1 HT1
  refine (write_any g [] ⟨#[1]⟩ w2 HT2.out (by omega) HA2.out (by decide)).mono ?_
  rintro e w3 ⟨rfl, hA3, hb3⟩
  have HA3 : Hid (At w3 g [1]) := hA3
  have HC3 : Hid (w3.heap[g0]? = some (.cells zeroRun 44 (0, 0))) := by show _ = _; rw [hb3.block g0 (by have := HA2.out.lt; omega) (by omega)]; exact HC2.out
  have HB3 := Lib.hid (HB2.out.trans (hb3.below (Nat.le_of_lt hs1) (by have := HA2.out.lt; omega)))
  have HT3 := Lib.hid (HT2.out.but hb3 (by omega))
  clear hA3 hb3 HA2 HC2 HB2 HT2
  go_wp2_with fail
  refine (writeText_any g [1] s w3 HT3.out (by omega) HA3.out HS.out (by decide)).mono ?_
  rintro e w4 ⟨rfl, hA4, hb4⟩
  obtain ⟨cs4, hc4, hv4⟩ := hA4.val
  have HC4 : Hid (w4.heap[g0]? = some (.cells zeroRun 44 (0, 0))) := by show _ = _; rw [hb4.block g0 (by have := HA3.out.lt; omega) (by omega)]; exact HC3.out
  have HB4 := Lib.hid (HB3.out.trans (hb4.below (Nat.le_of_lt hs1) (by have := HA3.out.lt; omega)))
  have HV4 := Lib.hid hv4
  have HC5 := Lib.hid hc4
  have hcs4 := hv4.1
  clear hA4 hb4 hc4 hv4 HA3 HC3 HB3 HT3 hz
  go_wp2_with (first
    | (refine wpList_load_row rfl 44 (.tmp 3) rfl g rfl 44 cs4 (0, 0) _ HC5.out Tryd.underlying44 rfl HV4.out.cells ?_)
    | (refine wpList_store_row rfl 44 (.tmp 2) (.tmp 8) rfl g0 cs4 rfl rfl 44 zeroRun HC4.out HV4.out.cells (by rw [hcs4]; rfl) HV4.out.2.1 ?_))
  have hnew := setRow_heap w4 g0 zeroRun cs4 44 (0, 0) HC4.out
  refine bodyPost_ret (v := .agg cs4) ?_ rfl ⟨cs4, rfl, HV4.out, below_setRow HB4.out (Nat.le_refl _) _⟩
  rw [results_cell rfl]
  have hld := run_loadVar_row (P := Tryd.prog) (w4.setRow g0 cs4) g0 44 44 cs4 (0, 0) _ hnew Tryd.underlying44 rfl HV4.out.cells
  exact hld
end Go.Proofs.YtidmcemcmalfnaaDoor
