
/- Sums of pairs and lists: the program's Pair and List. -/
import Derived.Test.YtidmcemcmalfnaaDoorSTxt
namespace Go.Proofs.YtidmcemcmalfnaaDoor
open Go.RowKit
set_option linter.unusedVariables false

/-- A slice that reads as a list of strings. -/
def Strs (w : World) (s : Value) (l : List ByteArray) : Prop :=
  ∃ a c, s = .slice a l.length c ∧ l.length ≤ 140737488355328 ∧ (∀ x ∈ l, x.size ≤ 140737488355328) ∧
    (l ≠ [] → ∃ b off, a = some ⟨b, off, none⟩ ∧ ∀ i, i < l.length → w.cell? ⟨b, off + i, none⟩ = some (.string (l.getD i ByteArray.empty)))
theorem Strs.below {w w' : World} {s : Value} {l : List ByteArray} (h : Strs w s l) {B : Nat} (hB : w.heap.size ≤ B) (b : Below B w w') : Strs w' s l := by
  obtain ⟨a, c, h1, h2, h3, h4⟩ := h
  refine ⟨a, c, h1, h2, h3, fun hl => ?_⟩
  obtain ⟨b', off, ha, hc⟩ := h4 hl
  refine ⟨b', off, ha, fun i hi => ?_⟩
  have h := hc i hi
  have hlt : b' < w.heap.size := cell_lt h
  rw [b.cell (p := ⟨b', off + i, none⟩) (by show b' < B; omega)]
  exact h
theorem Strs.at {w : World} {a : Option Addr} {n c : Nat} {l : List ByteArray} (h : Strs w (.slice a n c) l) {k : Nat} (hk : k < n) : ∃ b off, a = some ⟨b, off, none⟩ ∧ w.cell? ⟨b, off + k, none⟩ = some (.string (l.getD k ByteArray.empty)) := by
  obtain ⟨a', c', hv, _, _, hc⟩ := h
  simp only [Value.slice.injEq] at hv
  obtain ⟨rfl, rfl, _⟩ := hv
  obtain ⟨b, off, ha, hx⟩ := hc (fun e => by subst e; simp at hk)
  exact ⟨b, off, ha, hx k hk⟩
/-- The texts of a list, each behind its length. -/
def txts (l : List ByteArray) : List UInt8 := l.flatMap fun s => txt s.data.toList
theorem txts_next (l : List ByteArray) (k : Nat) (hk : k < l.length) : txts (l.take k) ++ txt (l.getD k ByteArray.empty).data.toList = txts (l.take (k + 1)) := by
  unfold txts
  rw [List.take_add_one, List.flatMap_append, List.getElem?_eq_getElem hk]
  simp [List.getElem?_eq_getElem hk]
theorem txts_len (l : List ByteArray) (h : ∀ x ∈ l, x.size ≤ 3000) : (txts l).length ≤ 4000 * l.length := by
  induction l with
  | nil => simp [txts]
  | cons x r ih =>
    have h1 := ih (fun y hy => h y (List.mem_cons_of_mem _ hy))
    have h2 := h x (List.mem_cons_self ..)
    unfold txts at h1 ⊢
    rw [List.flatMap_cons, List.length_append, txt_len, ← Lib.size_eq, List.length_cons]
    omega

set_option maxRecDepth 100000 in
set_option maxHeartbeats 4000000 in
theorem pairP_any (a b : ByteArray) (w : World) (ht : Tabs w) (ha : a.size ≤ 1000000) (hb : b.size ≤ 1000000) :
    Calls Tryd.prog 12 #[.string a, .string b] w fun e w' => e = .returned (.string ⟨(Sha.sum (([1] ++ txt a.data.toList) ++ txt b.data.toList)).toArray⟩) ∧ Below w.heap.size w w' := by
  have hz : ∀ w, (zeroValue 44).run Tryd.prog w = .ok (.agg zeroRun) w := zeroVal
  have HSA := Lib.hid ha
  have HSB := Lib.hid hb
  have hT := ht.size
  have HT := Lib.hid ht
  obtain ⟨M, hM⟩ : ∃ M, ([1] ++ txt a.data.toList) ++ txt b.data.toList = M := ⟨_, rfl⟩
  have hMl : M.length ≤ 3000000 := by rw [← hM, List.length_append, List.length_append, txt_len, txt_len, ← Lib.size_eq, ← Lib.size_eq]; simp; omega
  rw [hM]
  have HM := Lib.hid hM
  have HML := Lib.hid hMl
  clear ht ha hb hM hMl
  go_enter Tryd.func12, Tryd.ntmps12
  go_wp2_with fail
  refine (beginPair_any a w HT.out (by have := HSA.out; omega)).mono ?_
  rintro e w1 ⟨cs, rfl, hv, hb1⟩
  have HV := Lib.hid hv
  have HB1 := Lib.hid hb1
  have hcs := hv.1
  clear hv hb1
  go_wp2_with (refine wpList_store_row rfl 44 (.tmp 5) (.tmp 7) rfl w1.heap.size cs rfl rfl 44 zeroRun (heap_alloc_new _ _) HV.out.cells (by rw [hcs]; rfl) HV.out.2.1 ?_)
  obtain ⟨hA2, hb2⟩ := run_boxed HV.out w1
  have HA2 := Lib.hid hA2
  have HB2 := Lib.hid (HB1.out.trans (hb2.mono HB1.out.size))
  have HT2 := Lib.hid (HT.out.below HB2.out hT)
  have hg1 : w.heap.size ≤ w1.heap.size := HB1.out.size
  generalize (w1.alloc (.cells zeroRun 44)).setRow w1.heap.size cs = w2 at *
  generalize w1.heap.size = g at *
  clear hA2 hb2 HB1 hz
  refine (writeText_any g _ b w2 HT2.out (by omega) HA2.out (by have := HSB.out; omega) (by have h := HML.out; rw [← HM.out, List.length_append] at h; omega)).mono ?_
  rintro e w3 ⟨rfl, hA3, hb3⟩
  rw [HM.out] at hA3
  obtain ⟨cs3, hc3, hv3⟩ := hA3.val
  have HB3 := Lib.hid (HB2.out.trans (hb3.below hg1 (Nat.le_trans hg1 (Nat.le_of_lt HA2.out.lt))))
  have HT3 := Lib.hid (HT2.out.but hb3 (by omega))
  have HV3 := Lib.hid hv3
  have HC3 := Lib.hid hc3
  have hwg : w.heap.size ≤ w3.heap.size := HB3.out.size
  clear hA3 hb3 hc3 hv3 HA2 HB2 HT2
  go_wp2_with (refine wpList_load_row rfl 44 (.tmp 5) rfl g rfl 44 cs3 (0, 0) _ HC3.out Tryd.underlying44 rfl HV3.out.cells ?_)
  refine (sumv_any cs3 _ w3 HT3.out HV3.out (by have h := HML.out; omega)).mono ?_
  rintro e w4 ⟨rfl, hb4⟩
  have HB4 := Lib.hid (HB3.out.trans (hb4.mono hwg))
  obtain ⟨sr, hsr⟩ : ∃ r : ByteArray, (⟨(Sha.sum M).toArray⟩ : ByteArray) = r := ⟨_, rfl⟩
  have HSR := Lib.hid hsr
  rw [hsr]
  clear hsr hb4
  go_wp2
  go_ret
  exact ⟨by rw [HSR.out]; rfl, HB4.out⟩

set_option maxRecDepth 100000 in
set_option maxHeartbeats 4000000 in
theorem listP_any (aa : Option Addr) (n c : Nat) (l : List ByteArray) (w : World) (ht : Tabs w) (hs : Strs w (.slice aa n c) l) (hn : Hid (n = l.length)) (hl : n ≤ 50) (hx : Hid (∀ x ∈ l, x.size ≤ 3000)) :
    Calls Tryd.prog 14 #[.slice aa n c] w fun e w' => e = .returned (.string ⟨(Sha.sum (([2] ++ hf n 4) ++ txts l)).toArray⟩) ∧ Below w.heap.size w w' := by
  have hz : ∀ w, (zeroValue 44).run Tryd.prog w = .ok (.agg zeroRun) w := zeroVal
  have hT := ht.size
  have HT := Lib.hid ht
  have HS := Lib.hid hs
  have HTL : Hid (∀ k, (([2] ++ hf n 4) ++ txts (l.take k)).length < 400000) := fun k => by
    have h := txts_len (l.take k) (fun x hx' => hx.out x (List.mem_of_mem_take hx'))
    rw [List.length_append, List.length_append, hf_len]
    rw [List.length_take] at h
    simp
    have := hn.out
    omega
  clear ht hs
  obtain ⟨g0, hg0⟩ : ∃ g, w.heap.size = g := ⟨_, rfl⟩
  have HG0 := Lib.hid hg0
  rw [hg0] at hT ⊢
  go_enter Tryd.func14, Tryd.ntmps14
  go_wp2_with fail
  refine (begin_any w HT.out).mono ?_
  rintro e w1 ⟨cs, rfl, hv, hb1⟩
  rw [hg0] at hb1
  have HV := Lib.hid hv
  have HB1 := Lib.hid hb1
  have hcs := hv.1
  have hg1 : g0 ≤ w1.heap.size := by have := hb1.size; omega
  clear hv hb1 hg0
  go_wp2_with (refine wpList_store_row rfl 44 (.tmp 3) (.tmp 6) rfl w1.heap.size cs rfl rfl 44 zeroRun (heap_alloc_new _ _) HV.out.cells (by rw [hcs]; rfl) HV.out.2.1 ?_)
  obtain ⟨hA2, hb2⟩ := run_boxed HV.out w1
  have HA2 := Lib.hid hA2
  have HB2 := Lib.hid (HB1.out.trans (hb2.mono hg1))
  have HT2 := Lib.hid (HT.out.below HB2.out hT)
  generalize (w1.alloc (.cells zeroRun 44)).setRow w1.heap.size cs = w2 at *
  generalize w1.heap.size = g at *
  clear hA2 hb2 HB1 hz
  refine (write_any g [] ⟨#[2]⟩ w2 HT2.out (by omega) HA2.out (by decide)).mono ?_
  rintro e w3 ⟨rfl, hA3, hb3⟩
  have HA3 : Hid (At w3 g [2]) := hA3
  have HB3 := Lib.hid (HB2.out.trans (hb3.below hg1 (Nat.le_trans hg1 (Nat.le_of_lt HA2.out.lt))))
  have HT3 := Lib.hid (HT2.out.but hb3 (by omega))
  clear hA3 hb3 HA2 HB2 HT2
  go_wp2_with fail
  refine (writeNumber_any g n [2] w3 HT3.out (by omega) HA3.out (by omega) (by decide)).mono ?_
  rintro e w4 ⟨rfl, hA4, hb4⟩
  have HA4 : Hid (At w4 g (([2] ++ hf n 4) ++ txts (l.take 0))) := by show At _ _ _; rw [List.take_zero]; simpa [txts] using hA4
  have HB4 := Lib.hid (HB3.out.trans (hb4.below hg1 (Nat.le_trans hg1 (Nat.le_of_lt HA3.out.lt))))
  have HT4 := Lib.hid (HT3.out.but hb4 (by omega))
  clear hA4 hb4 HA3 HB3 HT3
  go_wp2
  go_loopw [5, 13] (fun _ i wr => ∃ k : Nat, k ≤ n ∧ i = .int .i64 k ∧ Hid (At wr g (([2] ++ hf n 4) ++ txts (l.take k))) ∧ Hid (Tabs wr) ∧ Hid (Below g0 w wr)) (fun _ i _ => n - (intOf i).toNat)
  case atStart => exact ⟨0, by omega, rfl, HA4, HT4, HB4⟩
  case round =>
    obtain ⟨k, hk, rfl, HA, HT, HB⟩ := hrel
    by_cases hlt : k < n
    · obtain ⟨b, off, rfl, hcl⟩ := (HS.out.below (Nat.le_refl _) (by rw [HG0.out]; exact HB.out)).at hlt
      have hmem : l.getD k ByteArray.empty ∈ l := by
        have hk2 : k < l.length := by have := hn.out; omega
        rw [List.getD_eq_getElem?_getD, List.getElem?_eq_getElem hk2]
        exact List.getElem_mem hk2
      have hxs := hx.out _ hmem
      have HTN := Lib.hid (txts_next l k (by have := hn.out; omega))
      obtain ⟨x, hxx⟩ : ∃ x, l.getD k ByteArray.empty = x := ⟨_, rfl⟩
      rw [hxx] at hcl hxs HTN
      have HXS := Lib.hid hxs
      clear hmem hxx hxs
      go_wp2_with fail
      refine (writeText_any g _ x wr HT.out (by omega) HA.out (by have := HXS.out; omega) (by have := HTL.out k; omega)).mono ?_
      rintro e w5 ⟨rfl, hA5, hb5⟩
      rw [List.append_assoc, HTN.out] at hA5
      have HA5 := Lib.hid hA5
      have HB5 := Lib.hid (HB.out.trans (hb5.below hg1 (Nat.le_trans hg1 (Nat.le_of_lt HA.out.lt))))
      have HT5 := Lib.hid (HT.out.but hb5 (by omega))
      clear hA5 hb5 HA HB HT hcl
      go_wp2
      exact ⟨⟨k + 1, by omega, by go_num, HA5, HT5, HB5⟩, by simp [intOf]; omega⟩
    · have hkl : l.take k = l := List.take_of_length_le (by have := hn.out; omega)
      have hMl := HTL.out k
      rw [hkl] at HA hMl
      obtain ⟨M, hM⟩ : ∃ M, ([2] ++ hf n 4) ++ txts l = M := ⟨_, rfl⟩
      rw [hM] at HA hMl
      have HM := Lib.hid hM
      obtain ⟨cs3, hc3, hv3⟩ := HA.out.val
      have HV3 := Lib.hid hv3
      have HC3 := Lib.hid hc3
      have HML := Lib.hid hMl
      have hbr : g0 ≤ wr.heap.size := by have := HB.out.size; have := HG0.out; omega
      clear hkl hM hc3 hv3 hMl
      go_wp2_with (refine wpList_load_row rfl 44 (.tmp 3) rfl g rfl 44 cs3 (0, 0) _ HC3.out Tryd.underlying44 rfl HV3.out.cells ?_)
      refine (sumv_any cs3 _ wr HT.out HV3.out (by have h := HML.out; omega)).mono ?_
      rintro e w4 ⟨rfl, hb4⟩
      have HB4 := Lib.hid (HB.out.trans (hb4.mono hbr))
      obtain ⟨sr, hsr⟩ : ∃ r : ByteArray, (⟨(Sha.sum M).toArray⟩ : ByteArray) = r := ⟨_, rfl⟩
      have HSR := Lib.hid hsr
      rw [hsr]
      clear hsr hb4
      go_wp2
      go_ret
      refine ⟨?_, HB4.out⟩
      show Ending.returned (Value.string sr) = _
      rw [← HSR.out, ← HM.out]
      try simp
end Go.Proofs.YtidmcemcmalfnaaDoor
