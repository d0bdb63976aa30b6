
/- Hexadecimal digits: the program's Hex. -/
import Derived.Test.YtidmcemcmalfnaaDoorSApp
import Derived.Deep.RegionLaw
namespace Go.Proofs.YtidmcemcmalfnaaDoor
open Go.RowKit
set_option linter.unusedVariables false

def digs : ByteArray := ⟨#[48, 49, 50, 51, 52, 53, 54, 55, 56, 57, 97, 98, 99, 100, 101, 102]⟩
def dig (k : Nat) : UInt8 := digs.data.toList.getD k 0
def hexB (b : UInt8) : List UInt8 := [dig (b.toNat / 16), dig (b.toNat % 16)]
def hexL (l : List UInt8) : List UInt8 := l.flatMap hexB
theorem hexL_len : ∀ l : List UInt8, (hexL l).length = 2 * l.length
  | [] => rfl
  | x :: r => by
    have h := hexL_len r
    unfold hexL at h ⊢
    rw [List.flatMap_cons, List.length_append, h, List.length_cons]
    show 2 + _ = _
    omega
theorem hexL_next (l : List UInt8) (k : Nat) (hk : k < l.length) : hexL (l.take k) ++ hexB (l.getD k 0) = hexL (l.take (k + 1)) := by
  unfold hexL
  rw [List.take_add_one, List.flatMap_append, List.getElem?_eq_getElem hk]
  simp [List.getElem?_eq_getElem hk]
theorem index_strk (s : ByteArray) (kk : IntKind) (i : Int) (h0 : 0 ≤ i) (h1 : i < s.size) (w : World) : (Instr.index 9 (.string s) (.int kk i)).run Tryd.prog w = .ok (.int .u8 (Sha.bt s.data.toList i.toNat)) w := by
  have hk : i.toNat < s.size := by omega
  have hg : s[i.toNat]? = some (s[i.toNat]'hk) := getElem?_pos s _ hk
  simp [Instr.index, asIntOf, run_underlying Tryd.underlying9, hg, bt_str s _ hk, h0]
theorem and15 (y : Int) (h : 0 ≤ y ∧ y < 256) : bits .and .u8 y 15 = y % 16 := by
  obtain ⟨n, rfl⟩ := Int.eq_ofNat_of_zero_le h.1
  rw [u8_and _ _ (by omega) (by omega) (by omega) (by omega)]
  have e : (n : Int).toNat &&& (15 : Int).toNat = n % 2 ^ 4 := by
    rw [show (15 : Int).toNat = 2 ^ 4 - 1 from rfl, Nat.and_two_pow_sub_one_eq_mod]; rfl
  rw [e]
  omega

set_option maxRecDepth 100000 in
set_option maxHeartbeats 4000000 in
theorem hex_any (s : ByteArray) (w : World) (hs : s.size ≤ 100000000) :
    Calls Tryd.prog 10 #[.string s] w fun e w' => e = .returned (.string ⟨(hexL s.data.toList).toArray⟩) ∧ Below w.heap.size w w' := by
  have hmx : Tryd.prog.follows .mixedOrders = true := by kernel_rfl
  obtain ⟨l, hl⟩ : ∃ l, s.data.toList = l := ⟨_, rfl⟩
  obtain ⟨n, hn⟩ : ∃ n, s.size = n := ⟨_, rfl⟩
  have HL := Lib.hid hl
  have HNL : Hid (l.length = n) := by show _ = _; rw [← hl, ← hn, ← Lib.size_eq]
  have hmk : (Instr.makeSlice 24 (.int .i64 0) (.int .i64 (2 * (n : Int)))).run Tryd.prog w = .ok (.slice (some ⟨w.heap.size, 0, none⟩) 0 (2 * n)) (w.alloc (.cells (madeCells #[.int .u8 0] (2 * n)) 5)) := by
    have h := make_buf (2 * n) (by omega) w
    rw [show ((2 * n : Nat) : Int) = 2 * (n : Int) by omega] at h
    exact h
  have hM0 := buf_made w (2 * n)
  have hBM : Below w.heap.size w (w.alloc (.cells (madeCells #[.int .u8 0] (2 * n)) 5)) := (Below.refl _ _).alloc (Nat.le_refl _) _
  generalize w.alloc (.cells (madeCells #[.int .u8 0] (2 * n)) 5) = w1 at *
  obtain ⟨g, hg⟩ : ∃ g, w.heap.size = g := ⟨_, rfl⟩
  rw [hg] at hmk hM0 hBM ⊢
  have HM0 := Lib.hid hM0
  have HBM := Lib.hid hBM
  clear hg
  rw [hn] at hs
  rw [hl]
  have HSN := Lib.hid hn
  clear hl hM0 hBM
  go_enter Tryd.func10, Tryd.ntmps10
  go_wp2_with fail
  clear hmk
  go_loopw [3, 4, 11] (fun v _ i wr => ∃ k : Nat, k ≤ n ∧ v = .slice (some ⟨g, 0, none⟩) (2 * k) (2 * n) ∧ i = .int .i64 k ∧ Hid (Buf wr g (2 * n) (hexL (l.take k))) ∧ Hid (Below g w wr)) (fun _ _ i _ => n - (intOf i).toNat)
  case atStart => exact ⟨0, by omega, rfl, rfl, HM0, HBM⟩
  case round =>
    obtain ⟨k, hk, rfl, rfl, HK, HB⟩ := hrel
    have hfl := hexL_len (l.take k)
    rw [List.length_take, HNL.out, Nat.min_eq_left hk] at hfl
    have HFL := Lib.hid hfl
    clear hfl
    by_cases hlt : k < n
    · have hix := index_str s k (by rw [HSN.out]; exact hlt)
      rw [HL.out] at hix
      have hbi := Sha.bt_in l k
      have HFN := Lib.hid (hexL_next l k (by rw [HNL.out]; exact hlt))
      have HY : Hid (Sha.bt l k = ((l.getD k 0).toNat : Int)) := rfl
      obtain ⟨y, hy⟩ : ∃ y, l.getD k 0 = y := ⟨_, rfl⟩
      rw [hy] at HY HFN
      obtain ⟨z, hz⟩ : ∃ z, Sha.bt l k = z := ⟨_, rfl⟩
      rw [hz] at hix hbi HY
      have hd1 := fun w => index_strk digs .u8 (z / 16) (by omega) (by show _ < ((16 : Nat) : Int); omega) w
      have hd2 := fun w => index_strk digs .u8 (z % 16) (by omega) (by show _ < ((16 : Nat) : Int); omega) w
      have ha15 := and15 z hbi
      obtain ⟨d1, hd1e⟩ : ∃ d, Sha.bt digs.data.toList (z / 16).toNat = d := ⟨_, rfl⟩
      obtain ⟨d2, hd2e⟩ : ∃ d, Sha.bt digs.data.toList (z % 16).toNat = d := ⟨_, rfl⟩
      rw [hd1e] at hd1
      rw [hd2e] at hd2
      unfold digs at hd1 hd2
      have HD1 : Hid (d1 = ((dig (y.toNat / 16)).toNat : Int)) := by
        show _ = _
        rw [← hd1e, HY.out, show ((y.toNat : Int) / 16).toNat = y.toNat / 16 by omega]; rfl
      have HD2 : Hid (d2 = ((dig (y.toNat % 16)).toNat : Int)) := by
        show _ = _
        rw [← hd2e, HY.out, show ((y.toNat : Int) % 16).toNat = y.toNat % 16 by omega]; rfl
      clear hy hz hd1e hd2e hbi
      go_wp2_with fail
      have hgw : g < wr.heap.size := World.rowIs.lt HK.out
      have HBA : Hid (Below wr.heap.size wr (wr.alloc (.cells #[.int .u8 d1, .int .u8 d2] 5))) := (Below.refl _ _).alloc (Nat.le_refl _) _
      have HCA : Hid ((wr.alloc (.cells #[.int .u8 d1, .int .u8 d2] 5)).heap[wr.heap.size]? = some (.cells #[.int .u8 d1, .int .u8 d2] 5 (0, 0))) := heap_alloc_new _ _
      have HAP : Hid (∀ W : World, Below wr.heap.size wr W → W.heap[wr.heap.size]? = some (.cells #[.int .u8 d1, .int .u8 d2] 5 (0, 0)) →
          ∃ W', (Builtin.append_ #[24, 24] 24 #[.slice (some ⟨g, 0, none⟩) (2 * k) (2 * n), .slice (some ⟨wr.heap.size, 0, none⟩) 2 2]).run Tryd.prog W = .ok (.slice (some ⟨g, 0, none⟩) (2 * k + 2) (2 * n)) W' ∧
            (Buf W' g (2 * n) (hexL (l.take (k + 1))) ∧ Below g w W')) := fun W hW hc => by
        obtain ⟨W', h1, h2, h3⟩ := append_slc (HK.out.below hW hgw) wr.heap.size 2 2 (hexB y) rfl (fun j hj => by
          have hj2 : j = 0 ∨ j = 1 := by omega
          rcases hj2 with rfl | rfl
          · simp [World.cell?, hc, HD1.out]; rfl
          · simp [World.cell?, hc, HD2.out]; rfl) (by rw [HFL.out]; omega) (2 * k) HFL.out.symm (2 * k + 2) rfl 24
        rw [HFN.out] at h2
        exact ⟨W', h1, h2, (HB.out.trans (hW.mono (Nat.le_of_lt hgw))).trans (h3.below (Nat.le_refl _) (Nat.le_of_lt (Nat.lt_of_lt_of_le hgw hW.size)))⟩
      clear HB HK HFL HFN HY HD1 HD2
      go_region_law (refine step_append_ex rfl _ _ _ _ rfl _ _ _ rfl rfl _ (HAP.out _ ⟨HBA.out.os, HBA.out.tape, HBA.out.output, HBA.out.size, HBA.out.block⟩ (by exact HCA.out)) ?_; rintro W' ⟨hW1, hW2⟩)
      all_goals
        have HW1 := Lib.hid hW1
        have HW2 := Lib.hid hW2
        clear hW1 hW2 HAP HBA HCA hix hd1 hd2
        go_wp2
        exact ⟨⟨k + 1, by omega, by rw [show 2 * (k + 1) = 2 * k + 2 by omega], by go_num, HW1, HW2⟩, by simp [intOf]; omega⟩
    · have HE : Hid (hexL (l.take k) = hexL l) := by
        show _ = _
        rw [List.take_of_length_le (by rw [HNL.out]; omega)]
      have hconv := string_buf HK.out (by rw [HFL.out]; omega) (2 * k) HFL.out.symm
      obtain ⟨sr, hsr⟩ : ∃ r : ByteArray, (⟨(hexL (l.take k)).toArray⟩ : ByteArray) = r := ⟨_, rfl⟩
      have HSR := Lib.hid hsr
      rw [hsr] at hconv
      clear hsr
      go_wp2
      go_ret
      exact ⟨by rw [← HE.out, HSR.out]; rfl, HB.out⟩
end Go.Proofs.YtidmcemcmalfnaaDoor
