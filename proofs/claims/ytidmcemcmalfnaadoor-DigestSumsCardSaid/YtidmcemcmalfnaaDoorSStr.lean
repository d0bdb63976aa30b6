
/- Numbers that depend on a seed: the program's Stream. -/
import Derived.Test.YtidmcemcmalfnaaDoorSTxt
namespace Go.Proofs.YtidmcemcmalfnaaDoor
open Go.RowKit
set_option linter.unusedVariables false

theorem infoI : (Tryd.prog.info? 3).map (fun i => (i.zero, i.size, i.bytes)) = some (some (.int .i64 0), 1, 8) := by kernel_rfl
theorem sum_len (m : List UInt8) : (Sha.sum m).length = 32 := rfl
theorem sev_in (l : List UInt8) : 0 ≤ sev l ∧ sev l < 72057594037927936 := sevN_le l 7 (by omega)
/-- The stream's number i. -/
def stm (p : Int) (seed : List UInt8) (i : Nat) : Int := sev (Sha.sum (([1] ++ txt seed) ++ txt (hf i 4))) % p
def stRow (S : Nat → Int) (k j : Nat) : Value := .int .i64 (if j < k then S j else 0)
theorem stRow_step (S : Nat → Int) (k : Nat) (v : Int) (h : S k = v) (j : Nat) : (if j = k then Value.int .i64 v else stRow S k j) = stRow S (k + 1) j := by
  subst h
  unfold stRow
  by_cases e : j = k
  · subst e; simp
  · rw [if_neg e]
    by_cases h1 : j < k
    · rw [if_pos h1, if_pos (by omega)]
    · rw [if_neg h1, if_neg (by omega)]

set_option maxRecDepth 100000 in
set_option maxHeartbeats 4000000 in
theorem stream_core (p : Int) (s : ByteArray) (n : Nat) (w : World) (ht : Tabs w) (hp : 2 ≤ p) (hp2 : p ≤ 1073741824) (hn : n ≤ 2048) (hs : s.size < 1000000) :
    Calls Tryd.prog 19 #[.int .i64 p, .string s, .int .i64 n] w fun e w' =>
      ∃ g, e = .returned (.slice (some ⟨g, 0, none⟩) n n) ∧ w'.rowIs g 3 n (stRow (stm p s.data.toList) n) ∧ w.heap.size ≤ g ∧ Below w.heap.size w w' := by
  have hz : ∀ w, (zeroValue 44).run Tryd.prog w = .ok (.agg zeroRun) w := zeroVal
  have HS := Lib.hid hs
  have hT := ht.size
  have HT := Lib.hid ht
  obtain ⟨L, hL⟩ : ∃ L, s.data.toList = L := ⟨_, rfl⟩
  have HLL : Hid (L.length < 1000000) := by show _ < _; rw [← hL, ← Lib.size_eq]; exact hs
  obtain ⟨S, hS⟩ : ∃ S, stm p L = S := ⟨_, rfl⟩
  have HSD : Hid (∀ i, S i = sev (Sha.sum (([1] ++ txt L) ++ txt (hf i 4))) % p) := fun i => by rw [← hS]; rfl
  rw [hL, hS]
  have HL := Lib.hid hL
  have h1 : ¬ p < 1 := by omega
  have h2 : ¬ (n : Int) < 0 := by omega
  have h3 : ¬ (2048 : Int) < (n : Int) := by omega
  clear ht hs hL hS
  obtain ⟨g0, hg0⟩ : ∃ g, w.heap.size = g := ⟨_, rfl⟩
  rw [hg0] at hT ⊢
  go_enter Tryd.func19, Tryd.ntmps19
  go_wp2_with fail
  refine (beginPair_any s w HT.out (by have := HS.out; omega)).mono ?_
  rintro e w1 ⟨cs, rfl, hv, hb1⟩
  rw [HL.out] at hv
  rw [hg0] at hb1
  have HV := Lib.hid hv
  have HB1 := Lib.hid hb1
  have HT1 := Lib.hid (HT.out.below hb1 hT)
  have hs1 : g0 ≤ w1.heap.size := by have := hb1.size; omega
  have hcs := hv.1
  clear hv hb1 HT hg0
  go_wp2_with (refine wpList_store_row rfl 44 (.tmp 7) (.tmp 22) rfl w1.heap.size cs rfl rfl 44 zeroRun (heap_alloc_new _ _) HV.out.cells (by rw [hcs]; rfl) HV.out.2.1 ?_)
  obtain ⟨hA2, hb2⟩ := run_boxed HV.out w1
  have hC2 : ((w1.alloc (.cells zeroRun 44)).setRow w1.heap.size cs).heap[w1.heap.size]? = some (.cells cs 44 (0, 0)) := by
    rw [World.setRow_alloc_new]; exact heap_alloc_new _ _
  have hg7 : w1.heap.size < ((w1.alloc (.cells zeroRun 44)).setRow w1.heap.size cs).heap.size := hA2.lt
  have HB2 : Hid (Below g0 w ((w1.alloc (.cells zeroRun 44)).setRow w1.heap.size cs)) := HB1.out.trans (hb2.mono hs1)
  have HT2 := Lib.hid (HT1.out.below hb2 (by omega))
  generalize (w1.alloc (.cells zeroRun 44)).setRow w1.heap.size cs = w2 at *
  generalize w1.heap.size = g7 at *
  clear hA2 hb2 HB1 HT1
  have hmk := run_make_row' (P := Tryd.prog) 31 3 (.int .i64 0) 8 Tryd.underlying31 infoI rfl .i64 .i64 n (by omega) (by omega) w2
  have hR3 := World.rowIs_made w2 (.int .i64 0) n 3
  have hb3 : Below w2.heap.size w2 (w2.alloc (.cells (madeCells #[.int .i64 0] n) 3)) := (Below.refl _ _).alloc (Nat.le_refl _) _
  have HC3 : Hid ((w2.alloc (.cells (madeCells #[.int .i64 0] n) 3)).heap[g7]? = some (.cells cs 44 (0, 0))) := by show _ = _; rw [hb3.block g7 hg7]; exact hC2
  have HT3 := Lib.hid (HT2.out.below hb3 (by omega))
  have HB3 : Hid (Below g0 w (w2.alloc (.cells (madeCells #[.int .i64 0] n) 3))) := HB2.out.trans (hb3.mono (by omega))
  generalize w2.alloc (.cells (madeCells #[.int .i64 0] n) 3) = w3 at *
  generalize w2.heap.size = gs at *
  have HR3 : Hid (w3.rowIs gs 3 n (stRow S 0)) := hR3.congr (fun j _ => by simp [stRow])
  clear hb3 hR3 hC2 HB2 HT2 h1 h2 h3
  rw [hmk]
  simp only [Result.andThen]
  rw [Oper.upon_value]
  clear hmk
  go_wp2
  go_loopw [9, 10, 27] (fun _ _ i wr => ∃ k : Nat, k ≤ n ∧ i = .int .i64 k ∧ Hid (wr.rowIs gs 3 n (stRow S k)) ∧ Hid (wr.heap[g7]? = some (.cells cs 44 (0, 0))) ∧ Hid (Tabs wr) ∧ Hid (Below g0 w wr)) (fun _ _ i _ => n - (intOf i).toNat)
  case atStart => exact ⟨0, by omega, rfl, HR3, HC3, HT3, HB3⟩
  case round =>
    obtain ⟨k, hk, rfl, HR, HC, HTr, HB⟩ := hrel
    by_cases hlt : k < n
    · have hgs : gs < wr.heap.size := World.rowIs.lt HR.out
      go_wp2_with (first
        | (refine wpList_load_row rfl 44 (.tmp 7) rfl g7 rfl 44 cs (0, 0) _ HC.out Tryd.underlying44 rfl HV.out.cells ?_)
        | (refine wpList_store_row rfl 44 (.tmp 10) (.tmp 30) rfl wr.heap.size cs rfl rfl 44 zeroRun (heap_alloc_new _ _) HV.out.cells (by rw [hcs]; rfl) HV.out.2.1 ?_))
      obtain ⟨hA4, hb4⟩ := run_boxed HV.out wr
      have hg4 := hA4.lt
      have hg7r : g7 < wr.heap.size := (Array.getElem?_eq_some_iff.1 HC.out).1
      have hg0r : g0 ≤ wr.heap.size := by omega
      have HA4 := Lib.hid hA4
      have HB4 := Lib.hid hb4
      have HT4 := Lib.hid (HTr.out.below hb4 (by omega))
      generalize (wr.alloc (.cells zeroRun 44)).setRow wr.heap.size cs = w4 at *
      obtain ⟨gr, hgr⟩ : ∃ g, wr.heap.size = g := ⟨_, rfl⟩
      rw [hgr] at hg4 hg7r hg0r HA4 HB4 hgs ⊢
      clear hA4 hb4
      refine (hf_any k 4 w4 (by omega) (by omega)).mono ?_
      rintro e w5 ⟨rfl, hb5⟩
      obtain ⟨sk, hsk⟩ : ∃ s : ByteArray, (⟨(hf k 4).toArray⟩ : ByteArray) = s := ⟨_, rfl⟩
      have hsl : sk.data.toList = hf k 4 := by rw [← hsk]
      have hss : sk.size = 4 := by rw [Lib.size_eq, hsl, hf_len]
      rw [hsk]
      have HSL := Lib.hid hsl
      have HA5 : Hid (At w5 gr (([1] ++ txt L))) := HA4.out.below hb5
      have HB5 : Hid (Below gr wr w5) := HB4.out.trans (hb5.mono (Nat.le_of_lt hg4))
      have HT5 := Lib.hid (HT4.out.below hb5 (by omega))
      have hg5 : gr < w5.heap.size := Nat.lt_of_lt_of_le hg4 hb5.size
      clear hsk hsl hb5 HA4 HB4 HT4 hgr
      go_wp2_with fail
      refine (writeText_any gr _ sk w5 HT5.out (by omega) HA5.out (by omega) (by rw [List.length_append, txt_len]; have := HLL.out; simp; omega)).mono ?_
      rintro e w6 ⟨rfl, hA6, hb6⟩
      rw [HSL.out] at hA6
      have HLm : Hid ((([1] ++ txt L) ++ txt (hf k 4)).length < 1000000000000) := by
        show _ < _
        rw [List.length_append, List.length_append, txt_len, txt_len, hf_len]; have := HLL.out; simp; omega
      obtain ⟨cs6, hc6, hv6⟩ := hA6.val
      have HB6 : Hid (Below gr wr w6) := HB5.out.trans (hb6.below (Nat.le_refl _) (Nat.le_of_lt hg5))
      have HT6 := Lib.hid (HT5.out.but hb6 (by omega))
      have HC6 := Lib.hid hc6
      have HV6 := Lib.hid hv6
      have hg6 : gr < w6.heap.size := hA6.lt
      clear hA6 hb6 hc6 hv6 HA5 HB5 HT5 hss
      go_wp2_with (refine wpList_load_row rfl 44 (.tmp 10) rfl gr rfl 44 cs6 (0, 0) _ HC6.out Tryd.underlying44 rfl HV6.out.cells ?_)
      refine (sumv_any cs6 _ w6 HT6.out HV6.out (by have := HLm.out; omega)).mono ?_
      rintro e w7 ⟨rfl, hb7⟩
      obtain ⟨su, hsu⟩ : ∃ r : ByteArray, (⟨(Sha.sum (([1] ++ txt L) ++ txt (hf k 4))).toArray⟩ : ByteArray) = r := ⟨_, rfl⟩
      have hul : su.data.toList = Sha.sum (([1] ++ txt L) ++ txt (hf k 4)) := by rw [← hsu]
      have hus : su.size = 32 := by rw [Lib.size_eq, hul, sum_len]
      rw [hsu]
      have HB7 : Hid (Below gr wr w7) := HB6.out.trans (hb7.mono (Nat.le_of_lt hg6))
      have HNB := Lib.hid (number_any su w7 (by omega))
      have HSK : Hid (S k = sev su.data.toList % p) := by show _ = _; rw [hul]; exact HSD.out k
      clear hsu hul hb7 HB6 HC6 HV6 HT6 hus
      go_wp2_with fail
      refine HNB.out.mono ?_
      rintro e w8 ⟨rfl, hw8⟩
      subst hw8
      have hsv := sev_in su.data.toList
      obtain ⟨v, hv⟩ : ∃ v, sev su.data.toList = v := ⟨_, rfl⟩
      rw [hv] at hsv HSK ⊢
      have hmod : v.tmod p = v % p := Int.tmod_eq_emod_of_nonneg hsv.1
      have HR7 := Lib.hid (World.rowIs.of_block HR.out (HB7.out.block gs hgs))
      have HC7 : Hid (w7.heap[g7]? = some (.cells cs 44 (0, 0))) := by show _ = _; rw [HB7.out.block g7 hg7r]; exact HC.out
      have HT7 := Lib.hid (HTr.out.below HB7.out (by omega))
      have hcl := HR7.out.cell (i := k) hlt
      have hfr := HR7.out.frozen k
      have HBW := Lib.hid (HB.out.trans (HB7.out.mono hg0r))
      clear hv HNB HR HC HTr HB HB7
      go_wp2
      have HRS : Hid ((w7.setCell ⟨gs, k, none⟩ (.int .i64 (v % p))).rowIs gs 3 n (stRow S (k + 1))) := (HR7.out.set k _).congr fun j _ => stRow_step S k (v % p) HSK.out j
      have HCS : Hid ((w7.setCell ⟨gs, k, none⟩ (.int .i64 (v % p))).heap[g7]? = some (.cells cs 44 (0, 0))) := by
        show _ = _
        rw [Below.heap_setCell w7 ⟨gs, k, none⟩ _ g7 (by show g7 ≠ gs; omega)]
        exact HC7.out
      exact ⟨⟨k + 1, by omega, by go_num, HRS, HCS, HT7.out.but (But.set w7 ⟨gs, k, none⟩ _) (by show 2 ≤ gs; omega), HBW.out.setCell (by show g0 ≤ gs; omega) _⟩, by simp [intOf]; omega⟩
    · obtain rfl : k = n := by omega
      go_wp2
      go_ret
      exact ⟨gs, rfl, HR.out, by omega, HB.out⟩
/-- The stream, as a slice that reads as a list. -/
theorem stream_any (p : Int) (s : ByteArray) (n : Nat) (w : World) (ht : Tabs w) (hp : 2 ≤ p) (hp2 : p ≤ 1073741824) (hn : n ≤ 2048) (hs : s.size < 1000000) :
    Calls Tryd.prog 19 #[.int .i64 p, .string s, .int .i64 n] w fun e w' =>
      ∃ v, e = .returned v ∧ Ints w' v ((List.range n).map (stm p s.data.toList)) ∧ Below w.heap.size w w' := by
  refine (stream_core p s n w ht hp hp2 hn hs).mono ?_
  rintro e w' ⟨g, rfl, hr, _, hb⟩
  refine ⟨_, rfl, ⟨some ⟨g, 0, none⟩, n, by simp, by simp; omega, fun _ => ⟨g, 0, rfl, fun i hi => ?_⟩⟩, hb⟩
  have hi' : i < n := by simpa using hi
  rw [Nat.zero_add, hr.cell hi']
  unfold stRow
  rw [if_pos hi']
  simp [List.getD, hi']
end Go.Proofs.YtidmcemcmalfnaaDoor
