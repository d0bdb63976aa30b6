
/- Hexadecimal digits: the document's Hex. -/
import Derived.Test.YtidmcemcmalfnaaDoorRPair
import Derived.Test.YtidmcemcmalfnaaDoorSHex
namespace Go.Proofs.YtidmcemcmalfnaaDoor
open Go.RowKit
set_option linter.unusedVariables false

theorem step_append_grow {ops : Array Oper} {o : Oper} {a : Act} {w : World} {K : Act → World → Prop} {Q : Exit → Act → World → Prop} {E : Prop} (hg : o.guard = none) (s x : Operand) (t1 t2 : TypeId)
    (hop : o.op = .call { callee := .builtin .append, args := #[s, x], argTypes := #[t1, t2] }) (v sv : Value) (hs : a.eval s = v) (hx : a.eval x = sv) (R : Value → World → Prop)
    (hrun : ∃ v' W', (Builtin.append_ #[t1, t2] o.type #[v, sv]).run Tryd.prog w = .ok v' W' ∧ R v' W') (hK : ∀ v' W', R v' W' → K (a.put o.dst v') W') :
    if Region.wanted o (yielded ops a.tmps) = true then Oper.wp Tryd.prog o a w K Q else E := by
  have hw : Region.wanted o (yielded ops a.tmps) = true := by simp [Region.wanted, hg]
  rw [if_pos hw]
  obtain ⟨v', W', hr, hR⟩ := hrun
  unfold Oper.wp
  simp [execOp, hop, resolve, invoke, builtin, hs, hx, hr, Result.andThen]
  exact hK v' W' hR

set_option maxRecDepth 100000 in
set_option maxHeartbeats 4000000 in
theorem refHex_any (s : ByteArray) (w : World) (hs : s.size ≤ 100000000) :
    Calls Tryd.prog 11 #[.string s] w fun e w' => e = .returned (.string ⟨(hexL s.data.toList).toArray⟩) ∧ Below w.heap.size w w' := by
  have hmx : Tryd.prog.follows .mixedOrders = true := by kernel_rfl
  obtain ⟨l, hl⟩ : ∃ l, s.data.toList = l := ⟨_, rfl⟩
  obtain ⟨n, hn⟩ : ∃ n, s.size = n := ⟨_, rfl⟩
  have HL := Lib.hid hl
  have HNL : Hid (l.length = n) := by show _ = _; rw [← hl, ← hn, ← Lib.size_eq]
  have hb0 : Below w.heap.size w w := Below.refl _ _
  obtain ⟨g, hg⟩ : ∃ g, w.heap.size = g := ⟨_, rfl⟩
  rw [hg] at hb0 ⊢
  have HB0 := Lib.hid hb0
  have HG := Lib.hid hg
  rw [hn] at hs
  rw [hl]
  have HSN := Lib.hid hn
  have HO0 : Hid (OwnB w g (.slice none 0 0) (hexL (l.take 0))) := .inl ⟨rfl, rfl⟩
  clear hl hb0 hg
  go_enter Tryd.func11, Tryd.ntmps11
  go_wp2_with fail
  go_loopw [3, 4, 7] (fun v _ i wr => ∃ k : Nat, k ≤ n ∧ i = .int .i64 k ∧ Hid (OwnB wr g v (hexL (l.take k))) ∧ Hid (Below g w wr)) (fun _ _ i _ => n - (intOf i).toNat)
  case atStart => exact ⟨0, by omega, rfl, HO0, HB0⟩
  case round =>
    obtain ⟨k, hk, rfl, HK, HB⟩ := hrel
    have hfl := hexL_len (l.take k)
    rw [List.length_take, HNL.out, Nat.min_eq_left hk] at hfl
    have HFL := Lib.hid hfl
    clear hfl
    by_cases hlt : k < n
    · have hix := index_str s k (by rw [HSN.out]; exact hlt)
      rw [HL.out] at hix
      have hbi := Sha.bt_in l k
      have HFN := Lib.hid (hexL_next l k (by rw [HNL.out]; exact hlt))
      have HY : Hid (Sha.bt l k = ((l.getD k 0).toNat : Int)) := rfl
      obtain ⟨y, hy⟩ : ∃ y, l.getD k 0 = y := ⟨_, rfl⟩
      rw [hy] at HY HFN
      obtain ⟨z, hz⟩ : ∃ z, Sha.bt l k = z := ⟨_, rfl⟩
      rw [hz] at hix hbi HY
      have hd1 := fun w => index_strk digs .u8 (z / 16) (by omega) (by show _ < ((16 : Nat) : Int); omega) w
      have hd2 := fun w => index_strk digs .u8 (z % 16) (by omega) (by show _ < ((16 : Nat) : Int); omega) w
      have ha15 := and15 z hbi
      obtain ⟨d1, hd1e⟩ : ∃ d, Sha.bt digs.data.toList (z / 16).toNat = d := ⟨_, rfl⟩
      obtain ⟨d2, hd2e⟩ : ∃ d, Sha.bt digs.data.toList (z % 16).toNat = d := ⟨_, rfl⟩
      rw [hd1e] at hd1
      rw [hd2e] at hd2
      unfold digs at hd1 hd2
      have HD1 : Hid (d1 = ((dig (y.toNat / 16)).toNat : Int)) := by
        show _ = _
        rw [← hd1e, HY.out, show ((y.toNat : Int) / 16).toNat = y.toNat / 16 by omega]; rfl
      have HD2 : Hid (d2 = ((dig (y.toNat % 16)).toNat : Int)) := by
        show _ = _
        rw [← hd2e, HY.out, show ((y.toNat : Int) % 16).toNat = y.toNat % 16 by omega]; rfl
      clear hy hz hd1e hd2e hbi
      go_wp2_with fail
      have hgw : g ≤ wr.heap.size := by have := HB.out.size; have := HG.out; omega
      have HBA : Hid (Below wr.heap.size wr (wr.alloc (.cells #[.int .u8 d1, .int .u8 d2] 5))) := (Below.refl _ _).alloc (Nat.le_refl _) _
      have HCA : Hid ((wr.alloc (.cells #[.int .u8 d1, .int .u8 d2] 5)).heap[wr.heap.size]? = some (.cells #[.int .u8 d1, .int .u8 d2] 5 (0, 0))) := heap_alloc_new _ _
      have HAP : Hid (∀ W : World, Below wr.heap.size wr W → W.heap[wr.heap.size]? = some (.cells #[.int .u8 d1, .int .u8 d2] 5 (0, 0)) →
          ∃ v' W', (Builtin.append_ #[24, 24] 24 #[u3, .slice (some ⟨wr.heap.size, 0, none⟩) 2 2]).run Tryd.prog W = .ok v' W' ∧
            (OwnB W' g v' (hexL (l.take (k + 1))) ∧ Below g w W')) := fun W hW hc => by
        obtain ⟨v', W', h1, h2, h3⟩ := append_own (HK.out.below (Nat.le_refl _) hW) (Nat.le_trans hgw hW.size) (.slice (some ⟨wr.heap.size, 0, none⟩) 2 2) 24 (hexB y) 2 rfl (src_slice rfl (fun j hj => by
          have hj2 : j = 0 ∨ j = 1 := by omega
          rcases hj2 with rfl | rfl
          · simp [World.cell?, hc, HD1.out]; rfl
          · simp [World.cell?, hc, HD2.out]; rfl)) (by rw [HFL.out]; omega) 24
        rw [HFN.out] at h2
        exact ⟨v', W', h1, h2, (HB.out.trans (hW.mono hgw)).trans h3⟩
      clear HB HK HFL HFN HY HD1 HD2
      go_region_law (refine step_append_grow rfl _ _ _ _ rfl _ _ rfl rfl _ (HAP.out _ ⟨HBA.out.os, HBA.out.tape, HBA.out.output, HBA.out.size, HBA.out.block⟩ (by exact HCA.out)) ?_; rintro v' W' ⟨hW1, hW2⟩)
      all_goals
        have HW1 := Lib.hid hW1
        have HW2 := Lib.hid hW2
        clear hW1 hW2 HAP HBA HCA hix hd1 hd2
        go_wp2
        exact ⟨⟨k + 1, by omega, by go_num, HW1, HW2⟩, by simp [intOf]; omega⟩
    · have HE : Hid (hexL (l.take k) = hexL l) := by
        show _ = _
        rw [List.take_of_length_le (by rw [HNL.out]; omega)]
      have hconv := string_own HK.out
      obtain ⟨sr, hsr⟩ : ∃ r : ByteArray, (⟨(hexL (l.take k)).toArray⟩ : ByteArray) = r := ⟨_, rfl⟩
      have HSR := Lib.hid hsr
      rw [hsr] at hconv
      clear hsr
      go_wp2
      go_ret
      exact ⟨by rw [← HE.out, HSR.out]; rfl, HB.out⟩
end Go.Proofs.YtidmcemcmalfnaaDoor
