
/- The days of texts: the document's Parse. -/
import Derived.Test.YtogpjoldfcmbfaaDoorYTxr
namespace Go.Proofs.YtogpjoldfcmbfaaDoor
open Go.RowKit Go.Sort Go.Shelf
open Cal
set_option linter.unusedVariables false
set_option linter.unusedSimpArgs false

theorem index_chr (s : ByteArray) (k : Nat) (hk : k < s.size) (w : World) : (Instr.index 9 (.string s) (.int .i64 (k : Int))).run Tryd.prog w = .ok (.int .u8 ((s.data.toList.getD k 0).toNat : Int)) w := by
  have h0 : (0 : Int) ≤ (k : Int) := by omega
  have hk2 : k < s.data.size := hk
  have e : s[k]? = some (s.data.toList.getD k 0) := by
    rw [getElem?_pos s k hk]
    congr 1
    have e2 : s.data[k]? = some s.data[k] := getElem?_pos s.data k hk2
    simp only [List.getD, Array.getElem?_toList, e2, Option.getD_some]
    rfl
  simp [Instr.index, run_underlying Tryd.underlying9, asIntOf, go_sem, e]

set_option maxHeartbeats 1000000 in
theorem rnumber_any (s : ByteArray) (w : World) (hs : s.size ≤ 10) :
    Calls Tryd.prog 34 #[.string s] w fun e w' => e = .returned (.int .i64 (numL s.data.toList)) ∧ w = w' := by
  have hlen : s.data.toList.length = s.size := rfl
  have HIX : Hid (∀ k, k < s.size → ∀ W, (Instr.index 9 (.string s) (.int .i64 (k : Int))).run Tryd.prog W = .ok (.int .u8 ((s.data.toList.getD k 0).toNat : Int)) W) := fun k hk W => index_chr s k hk W
  generalize hl : s.data.toList = l at *
  obtain ⟨L, hL⟩ : ∃ L, s.size = L := ⟨_, rfl⟩
  have hL2 : l.length = L := by omega
  rw [hL] at HIX hs
  clear hl hlen
  have HL2 := Lib.hid hL2
  clear hL2
  go_enter Tryd.func34, Tryd.ntmps34
  go_wp2
  go_loop [3, 4, 7] (fun a _ i => ∃ (j acc : Nat), j ≤ L ∧ acc ≤ 10000000000 ∧ Hid (numO 0 l = numO acc (l.drop j)) ∧ Hid (acc + 1 ≤ 10 ^ j) ∧ a = .int .i64 acc ∧ i = .int .i64 j) (fun _ _ i => L - (intOf i).toNat)
  case atStart => exact ⟨0, 0, by omega, by omega, rfl, by show 0 + 1 ≤ 10 ^ 0; simp, rfl, rfl⟩
  case round =>
    obtain ⟨j, acc, hj, hacc, HN, HB, rfl, rfl⟩ := hrel
    by_cases hlt : j < L
    · have hix := HIX.out j hlt
      have hdr : l.drop j = l.getD j 0 :: l.drop (j + 1) := by
        have := HL2.out
        rw [List.drop_eq_getElem_cons (by omega)]
        simp [List.getD, show j < l.length by omega]
      obtain ⟨c, hc⟩ : ∃ c, l.getD j 0 = c := ⟨_, rfl⟩
      rw [hc] at hix hdr
      have hc256 := c.toNat_lt
      by_cases hd : 48 ≤ c.toNat ∧ c.toNat ≤ 57
      · have HN2 : Hid (numO 0 l = numO (acc * 10 + (c.toNat - 48)) (l.drop (j + 1))) := by
          show _ = _; rw [HN.out, hdr]; unfold numO; rw [if_pos hd]; cases l.drop (j + 1) <;> rfl
        obtain ⟨hd1, hd2⟩ := hd
        have hpj : 10 ^ j ≤ 10 ^ 9 := Nat.pow_le_pow_right (by omega) (by omega)
        have HB2 : Hid (acc * 10 + (c.toNat - 48) + 1 ≤ 10 ^ (j + 1)) := by show _ ≤ _; have := HB.out; rw [Nat.pow_succ]; omega
        have hacc2 : acc * 10 + (c.toNat - 48) ≤ 10000000000 := by have := HB.out; omega
        obtain ⟨x, hx⟩ : ∃ x : Nat, c.toNat = x + 48 := ⟨c.toNat - 48, by omega⟩
        rw [hx] at hix hd2 HN2 HB2 hacc2
        rw [show x + 48 - 48 = x by omega] at HN2 HB2 hacc2
        have hx9 : x ≤ 9 := by omega
        have hix2 : ∀ W, (Instr.index 9 (.string s) (.int .i64 (j : Int))).run Tryd.prog W = .ok (.int .u8 ((x : Int) + 48)) W := hix
        clear hix hx hdr hc hpj hd1 hd2 hc256
        go_wp2
        go_round
        case rel => exact ⟨j + 1, acc * 10 + x, by omega, hacc2, HN2, HB2, by rw [show ((acc * 10 + x : Nat) : Int) = 10 * (acc : Int) + x by omega], by go_num⟩
        case measure => simp [intOf]; omega
      · have HN2 : Hid (numL l = -1) := by
          show _ = _; unfold numL; rw [HN.out, hdr]; unfold numO; rw [if_neg hd]
        have hcs : c.toNat < 48 ∨ (¬ c.toNat < 48 ∧ 57 < c.toNat) := by omega
        generalize c.toNat = x at *
        clear hdr hc hd
        rcases hcs with h | ⟨h, h'⟩
        · go_wp2
          go_ret
          exact ⟨ret_int HN2.out.symm, rfl⟩
        · go_wp2
          go_ret
          exact ⟨ret_int HN2.out.symm, rfl⟩
    · obtain rfl : j = L := by omega
      have HN2 : Hid (numL l = (acc : Int)) := by
        show _ = _
        unfold numL; rw [HN.out, show l.drop j = [] by rw [List.drop_eq_nil_iff, HL2.out]; exact Nat.le_refl _]; rfl
      go_wp2
      go_ret
      exact ⟨ret_int HN2.out.symm, rfl⟩
end Go.Proofs.YtogpjoldfcmbfaaDoor
