
/- Bytes are added to a running sum: the program's write. -/
import Derived.Test.YtidmcemcmalfnaaDoorSMix
import Derived.Test.YtidmcemcmalfnaaDoorShaB
import Derived.Test.YtidmcemcmalfnaaDoorSNumb
import Derived.Lib.BufferWrite
namespace Go.Proofs.YtidmcemcmalfnaaDoor
open Go.RowKit
set_option linter.unusedVariables false

/-- The running sum at block g has taken the bytes m. -/
def At (w : World) (g : Nat) (m : List UInt8) : Prop := ∃ blk, Sha.Blk m blk ∧ Run w g (fun j => (Sha.hw m).list.getD j 0) (Sha.bt blk) m.length

theorem take_bytes (l : List UInt8) (k : Nat) : (l.map fun b : UInt8 => Value.int .u8 (b.toNat : Int)).take k = Lib.byteCells (l.take k) := by
  simp [Lib.byteCells, List.map_take]

/-- 'copy(dst, s)' of as many bytes as there is room for. -/
theorem run_copy_min {P : Program} (w : World) (dT sT ty elem : TypeId) (g o dLen dCap k : Nat) (s : ByteArray) (cur : Array Value) (t : TypeId)
    (hu : P.underlying dT = some (.slice elem)) (hs : (P.info? elem).map (·.size) = some 1) (hg : w.heap[g]? = some (.cells cur t (0, 0))) (hk : k = min s.size dLen) (hfit : o + k ≤ cur.size) :
    (Builtin.copy_ #[dT, sT] ty #[.slice (some ⟨g, o, none⟩) dLen dCap, .string s]).run P w =
      .ok (goInt k) (w.setRow g (cur.toList.take o ++ Lib.byteCells (s.data.toList.take k) ++ cur.toList.drop (o + k)).toArray) := by
  have hks : k ≤ s.size := by omega
  have hlen : (Lib.byteCells (s.data.toList.take k)).length = k := by rw [Lib.byteCells_length, List.length_take, ← Lib.size_eq]; omega
  have hst := run_storeCells_at P g o t (Lib.byteCells (s.data.toList.take k)) 0 cur w hg (by rw [hlen]; simpa using hfit) (Lib.byteCells_one _)
  rw [hlen] at hst
  simp only [Nat.add_zero] at hst
  have hmin : Nat.min s.size dLen = k := hk.symm
  cases hq : P.info? elem with
  | none => simp [hq] at hs
  | some i =>
    simp [Builtin.copy_, run_underlying hu, Builtin.lenOf, Builtin.firstCells, sizeOf, typeInfo, hq, hmin]
    rw [take_bytes, hst]
    simp [Result.andThen]
theorem infoU8' : (Tryd.prog.info? 5).map (·.size) = some 1 := by kernel_rfl
theorem copy_run {w : World} {g : Nat} {U : Nat → Int} {blk : List UInt8} {n : Int} (h : Run w g U (Sha.bt blk) n) (hb : blk.length = 64) (r : Nat) (hr : r < 64) (s : ByteArray) (k : Nat) (hk : k = min s.size (64 - r)) (dT sT ty : TypeId)
    (hu : Tryd.prog.underlying dT = some (.slice 5)) : ∃ W', (Builtin.copy_ #[dT, sT] ty #[.slice (some ⟨g, 8 + r, none⟩) (64 - r) (64 - r), .string s]).run Tryd.prog w = .ok (goInt k) W' ∧
      Run W' g U (Sha.bt (Sha.lay blk (s.data.toList.take k) r)) n ∧ But g w W' := by
  obtain ⟨cur, hg, hcs, hcv⟩ := h
  have hks : k ≤ s.size := by omega
  have hlk : (s.data.toList.take k).length = k := by rw [List.length_take, ← Lib.size_eq]; omega
  refine ⟨_, run_copy_min w dT sT ty 5 g (8 + r) (64 - r) (64 - r) k s cur 44 hu infoU8' hg hk (by omega), ?_, ?_⟩
  · refine ⟨_, setRow_heap w g cur _ 44 (0, 0) hg, ?_, fun j hj => ?_⟩
    · simp [Lib.byteCells, hcs]
      omega
    · have hl1 : (cur.toList.take (8 + r)).length = 8 + r := by rw [List.length_take]; simp [hcs]; omega
      have hl2 : (Lib.byteCells (s.data.toList.take k)).length = k := by rw [Lib.byteCells_length, hlk]
      have hbl := Sha.bt_lay (blk := blk) (x := s.data.toList.take k) (r := r) hb (by omega)
      rw [hlk] at hbl
      rw [List.getElem?_toArray, List.append_assoc]
      by_cases h1 : j < 8 + r
      · rw [List.getElem?_append_left (by omega), List.getElem?_take_of_lt h1, Array.getElem?_toList, hcv j hj]
        unfold runRow
        by_cases h2 : j < 8
        · rw [if_pos h2, if_pos h2]
        · rw [if_neg h2, if_neg h2, if_pos (by omega), if_pos (by omega), hbl, if_pos (by omega)]
      · rw [List.getElem?_append_right (by omega), hl1]
        by_cases h2 : j < 8 + r + k
        · rw [List.getElem?_append_left (by omega)]
          unfold runRow
          rw [if_neg (by omega), if_pos (by omega), hbl, if_neg (by omega), if_pos (by omega)]
          simp only [Lib.byteCells, List.getElem?_map]
          have hj2 : j - (8 + r) < (s.data.toList.take k).length := by omega
          rw [List.getElem?_eq_getElem hj2]
          simp only [Option.map_some]
          unfold Sha.bt
          simp only [List.getD]
          rw [show j - 8 - r = j - (8 + r) by omega, List.getElem?_eq_getElem hj2]
          rfl
        · rw [List.getElem?_append_right (by omega), hl2, List.getElem?_drop, Array.getElem?_toList, show 8 + r + k + (j - (8 + r) - k) = j by omega, hcv j hj]
          unfold runRow
          have h8 : ¬ j < 8 := by omega
          simp only [h8, if_false]
          by_cases h3 : j < 72
          · rw [if_pos h3, if_pos h3, hbl, if_neg (by omega), if_neg (by omega)]
          · rw [if_neg h3, if_neg h3]
  · refine ⟨rfl, rfl, rfl, by simp [World.setRow], fun j _ hj => ?_⟩
    simp only [World.setRow, Array.getElem?_modify]
    rw [if_neg (fun e => hj e.symm)]

theorem slice_block (g r : Nat) (hr : r < 64) (w : World) : (Instr.sliceAt 42 (.pointer (some ⟨g, 8, none⟩)) (some (.int .i64 r)) none none).run Tryd.prog w = .ok (.slice (some ⟨g, 8 + r, none⟩) (64 - r) (64 - r)) w := by
  have hl : Tryd.prog.arrayLen 42 = 64 := by kernel_rfl
  have he : Tryd.prog.elem 42 = 5 := by kernel_rfl
  have hu : Tryd.prog.underlying 42 = some (.array (Tryd.prog.arrayLen 42) (Tryd.prog.elem 42)) := by kernel_rfl
  have hz : (sizeOf 5).run Tryd.prog w = .ok 1 w := by rfl
  have ha : (⟨g, 8, none⟩ : Addr).add r = ⟨g, 8 + r, none⟩ := by unfold Addr.add; split <;> simp_all
  rw [run_sliceAt_array_l w 42 ⟨g, 8, none⟩ hu .i64 (r : Int) (by omega) (by rw [hl]; omega), hl, he, hz]
  have hne : ¬ 64 = r := by omega
  simp [Result.andThen, slicedAt, hne, ha]

/-- The pieces of the string that is added. -/
def lenOf : Value → Nat
  | .string s => s.size
  | _ => 0
set_option maxRecDepth 100000 in
set_option maxHeartbeats 4000000 in
theorem write_any (g : Nat) (m : List UInt8) (s : ByteArray) (w : World) (ht : Tabs w) (hg : 2 ≤ g) (ha : At w g m) (hl : m.length + s.size < 4611686018427387904) :
    Calls Tryd.prog 24 #[.pointer (some ⟨g, 0, none⟩), .string s] w fun e w' => e = .returned (.tuple #[]) ∧ At w' g (m ++ s.data.toList) ∧ But g w w' := by
  have hmx : Tryd.prog.follows .mixedOrders = true := by kernel_rfl
  obtain ⟨L, hL⟩ : ∃ L, s.data.toList = L := ⟨_, rfl⟩
  have hsz : s.size = L.length := by rw [← hL, ← Lib.size_eq]
  rw [hL]
  have HT := Lib.hid ht
  clear ht
  go_enter Tryd.func24, Tryd.ntmps24
  go_wp2
  go_loopw [1, 4] (fun v _ wr => ∃ (d : Nat) (t : ByteArray), d ≤ L.length ∧ v = .string t ∧ Hid (t.data.toList = L.drop d) ∧ Hid (At wr g (m ++ L.take d)) ∧ Hid (But g w wr)) (fun v _ _ => lenOf v)
  case atStart => exact ⟨0, s, by omega, rfl, by rw [List.drop_zero]; exact hL, by rw [List.take_zero, List.append_nil]; exact ha, But.refl _ _⟩
  case round =>
    obtain ⟨d, t, hd, rfl, HD, HA, HB⟩ := hrel
    have hts : t.size = L.length - d := by rw [Lib.size_eq, HD.out, List.length_drop]
    by_cases h0 : 0 < t.size
    · obtain ⟨blk, hbk, hrun⟩ := HA.out
      obtain ⟨M, hM⟩ : ∃ M, m ++ L.take d = M := ⟨_, rfl⟩
      have hML : M.length = m.length + d := by rw [← hM, List.length_append, List.length_take]; omega
      rw [hM] at hbk hrun
      obtain ⟨r, hr⟩ : ∃ r, M.length % 64 = r := ⟨_, rfl⟩
      have hr64 : r < 64 := by omega
      obtain ⟨k, hk⟩ : ∃ k, k = min t.size (64 - r) := ⟨_, rfl⟩
      have hk0 : 0 < k := by omega
      have hkt : k ≤ t.size := by omega
      obtain ⟨W', hcopy, hrun2, hbut2⟩ := copy_run (w := wr.drew) (ty := 3) (dT := 24) (sT := 9) hrun hbk.1 r hr64 t k hk Tryd.underlying24
      have HM := Lib.hid hM
      have HBK := Lib.hid hbk
      have HR2 := Lib.hid hrun2
      have HB2 := Lib.hid hbut2
      have hlen := hrun.len
      obtain ⟨N, hN⟩ : ∃ N, M.length = N := ⟨_, rfl⟩
      rw [hN] at hlen hr
      have hrm : (N : Int).tmod 64 = (r : Int) := by rw [Int.tmod_eq_emod_of_nonneg (by omega)]; omega
      have hsl := slice_block g r hr64 wr.drew
      have HN := Lib.hid hN
      have HRN := Lib.hid hr
      have HKK := Lib.hid hk
      have HMN := Lib.hid hML
      have HTS := Lib.hid hts
      have hNb : N < 4611686018427387904 := by omega
      have hkb : k ≤ 64 := by omega
      have hlen2 := hrun2.len
      rw [hN] at hlen2
      have hfr2 := hrun2.frozen 72
      obtain ⟨X, hX⟩ : ∃ X, t.data.toList.take k = X := ⟨_, rfl⟩
      have hXl : X.length = k := by rw [← hX, List.length_take, ← Lib.size_eq]; omega
      rw [hX] at HR2
      have HX := Lib.hid hX
      have HXL := Lib.hid hXl
      have HMX : Hid (m ++ L.take (d + k) = M ++ X) := by
        show _ = _
        rw [← hM, ← hX, HD.out, List.append_assoc, List.take_add]
      have HTX : Hid ((t.extract k t.size).data.toList = L.drop (d + k)) := by
        show _ = _
        rw [ByteArray.data_extract, Array.toList_extract, HD.out]
        simp only [List.extract, List.drop_drop]
        rw [List.take_of_length_le (by rw [List.length_drop, hts]; omega)]
      have htx : (t.extract k t.size).size = t.size - k := by rw [ByteArray.size_extract]; omega
      have HBT : Hid (But g w W') := (HB.out.trans (But.drewN g wr 1)).trans hbut2
      have HDK : Hid (d + k ≤ L.length) := by show _ ≤ _; omega
      clear hM hbk hrun2 hbut2 hN hr hk hML hrun hts hX hXl HD HA HB ha
      go_wp2_with fail
      refine wp_region_still_tail 10 hmx (by kernel_rfl) ?_
      simp only [List.take_succ_cons, List.take_zero, List.drop_succ_cons, List.drop_zero, drew_def]
      repeat still_step
      refine wpStill_nil ?_
      by_cases hfull : (N + k) % 64 = 0
      case' pos =>
        have hq : ((N : Int) + (k : Int)).tmod 64 = 0 := by rw [Int.tmod_eq_emod_of_nonneg (by omega)]; omega
        have HF := Lib.hid hfull
        clear hfull
      case' neg =>
        obtain ⟨q, hq0⟩ : ∃ q : Int, ((N : Int) + (k : Int)).tmod 64 = q := ⟨_, rfl⟩
        have hq : ((N : Int) + (k : Int)).tmod 64 = q := hq0
        have hqn : (q == 0) = false := by
          rw [← hq0, Int.tmod_eq_emod_of_nonneg (by omega)]
          have : ¬ ((N : Int) + k) % 64 = 0 := by omega
          simpa using this
        have HF := Lib.hid hfull
        clear hfull hq0
      case pos =>
        go_wp2_with fail
        have hrun3 := HR2.out.setLen ((N : Int) + k)
        have hbut3 := HBT.out.trans (But.set W' ⟨g, 72, none⟩ (.int .i64 ((N : Int) + k)))
        have hll : (Sha.lay blk X r).length = 64 := Sha.lay_len HBK.out.1 (by have h1 := HXL.out; have h2 := HRN.out; have h3 := HKK.out; omega)
        have HB3 := Lib.hid hbut3
        have hfull := Sha.blk_full HBK.out (x := X) (by have h1 := HXL.out; have h2 := HRN.out; have h3 := HKK.out; have h4 := HF.out; have h5 := HN.out; rw [h5, h2]; omega)
        have HFU := Lib.hid hfull
        refine (mix_any g (Sha.hw M) (Sha.lay blk X r) _ ((N : Int) + k) _ (HT.out.but hbut3 hg) hg hll hrun3 (fun _ _ => rfl)).mono ?_
        rintro e w3 ⟨rfl, hrun4, hbut4⟩
        have HR4 := Lib.hid hrun4
        have HB4 := Lib.hid (HB3.out.trans hbut4)
        clear hrun3 hbut3 hll hfull hrun4 hbut4 hlen2 hfr2
        go_wp2
        refine ⟨⟨d + k, t.extract k t.size, HDK.out, rfl, HTX, ?_, HB4⟩, by show (t.extract k t.size).size < t.size; omega⟩
        show At _ _ _
        rw [HMX.out]
        have h5 := HRN.out
        have h6 := HN.out
        refine ⟨Sha.lay blk X r, HFU.out.2 _ (Sha.lay_len HBK.out.1 (by have h1 := HXL.out; have h3 := HKK.out; omega)), ?_⟩
        rw [HFU.out.1, List.length_append, HXL.out, h6, h5]
        exact HR4.out
      case neg =>
        go_wp2
        have h5 := HRN.out
        have h6 := HN.out
        have hpart := Sha.blk_part HBK.out (x := X) (by have h1 := HXL.out; have h3 := HKK.out; have h4 := HF.out; rw [h6, h5]; omega)
        refine ⟨⟨d + k, t.extract k t.size, HDK.out, rfl, HTX, ?_, HBT.out.trans (But.set W' ⟨g, 72, none⟩ (.int .i64 ((N : Int) + k)))⟩, by show (t.extract k t.size).size < t.size; omega⟩
        show At _ _ _
        rw [HMX.out]
        rw [h6, h5] at hpart
        refine ⟨Sha.lay blk X r, hpart.1, ?_⟩
        rw [hpart.2, List.length_append, HXL.out, h6]
        exact HR2.out.setLen ((N : Int) + k)
    · have HE : Hid (m ++ L.take d = m ++ L) := by
        show _ = _
        rw [List.take_of_length_le (by omega)]
      have h00 : t.size = 0 := by omega
      clear h0
      go_wp2
      exact post_end0 rfl rfl ⟨rfl, by rw [← HE.out]; exact HA.out, HB.out⟩
end Go.Proofs.YtidmcemcmalfnaaDoor
