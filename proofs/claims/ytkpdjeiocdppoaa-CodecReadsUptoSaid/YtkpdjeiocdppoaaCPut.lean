
/- Numbers and texts written: the program's unsigned, addInt, addText, PutInt, PutText. -/
import Derived.Test.YtkpdjeiocdppoaaVTxt
namespace Go.Proofs.Ytkpdjeiocdppoaa
open Go.RowKit
set_option linter.unusedVariables false

theorem unsigned_any (n : Int) (w : World) (hn : -9223372036854775808 ≤ n ∧ n ≤ 9223372036854775807) :
    Calls Try.prog 38 #[.int .i64 n] w fun e w' => e = .returned (.int .u64 (Vi.zz n)) ∧ w = w' := by
  obtain ⟨u, hu⟩ : ∃ u, Vi.zz n = u := ⟨_, rfl⟩
  have hl := Vi.zz_lt n hn
  rw [hu] at hl ⊢
  unfold Vi.zz at hu
  by_cases h0 : n < 0
  · have hlt : decide (n < 0) = true := decide_eq_true h0
    obtain ⟨m, hm⟩ : ∃ m : Int, IntKind.i64.wrap (-2 * n) = m := ⟨_, rfl⟩
    obtain ⟨m2, hm2⟩ : ∃ m2 : Int, IntKind.i64.wrap (m - 1) = m2 := ⟨_, rfl⟩
    have h3 : IntKind.u64.wrap m2 = (u : Int) := by
      rw [IntKind.wrap_i64] at hm hm2
      rw [IntKind.wrap_u64]
      split at hu <;> omega
    clear hu hl hn h0
    go_enter Try.func38, Try.ntmps38
    go_wp2
    go_ret
    exact ⟨rfl, rfl⟩
  · have hlt : decide (n < 0) = false := decide_eq_false h0
    obtain ⟨m, hm⟩ : ∃ m : Int, IntKind.i64.wrap (2 * n) = m := ⟨_, rfl⟩
    have h3 : IntKind.u64.wrap m = (u : Int) := by
      rw [IntKind.wrap_i64] at hm
      rw [IntKind.wrap_u64]
      split at hu <;> omega
    clear hu hl hn h0
    go_enter Try.func38, Try.ntmps38
    go_wp2
    go_ret
    exact ⟨rfl, rfl⟩

set_option maxRecDepth 100000 in
set_option maxHeartbeats 4000000 in
theorem addInt_any (B : Nat) (v : Value) (l : List UInt8) (n : Int) (w : World) (ho : OwnB w B v l) (hBw : B ≤ w.heap.size) (hll : l.length ≤ 1000000000) (hn : -9223372036854775808 ≤ n ∧ n ≤ 9223372036854775807) :
    Calls Try.prog 29 #[v, .int .i64 n] w fun e w' => ∃ v', e = .returned v' ∧ OwnB w' B v' (l ++ Vi.grp (Vi.zz n)) ∧ Below B w w' := by
  have HUN := Lib.hid (unsigned_any n w hn)
  have hzl := Vi.zz_lt n hn
  obtain ⟨u0, hu0⟩ : ∃ u0, Vi.zz n = u0 := ⟨_, rfl⟩
  rw [hu0] at hzl HUN ⊢
  obtain ⟨T, hT⟩ : ∃ T, l ++ Vi.grp u0 = T := ⟨_, rfl⟩
  have HTL : Hid (T.length ≤ 1000000010) := by
    show _ ≤ _
    rw [← hT, List.length_append]
    have := Vi.grp_len10 hzl
    omega
  rw [hT]
  have HT := Lib.hid hT
  have HU := Lib.hid hzl
  have HO0 := Lib.hid ho
  have HB0 : Hid (Below B w w) := Below.refl _ _
  have HBW := Lib.hid hBw
  clear hu0 hzl hn hT ho hll hBw
  go_enter Try.func29, Try.ntmps29
  go_wp2_with fail
  refine HUN.out.mono ?_
  rintro e w1 ⟨rfl, rfl⟩
  go_wp2_with fail
  go_loopw [0, 5] (fun v i wr => ∃ (u : Nat) (l : List UInt8), i = .int .u64 u ∧ Hid (u < 18446744073709551616) ∧ Hid (OwnB wr B v l) ∧ Hid (l ++ Vi.grp u = T) ∧ Hid (Below B w wr)) (fun _ i _ => (intOf i).toNat)
  case atStart => exact ⟨u0, l, rfl, HU, HO0, HT, HB0⟩
  case round =>
    obtain ⟨u, l, rfl, HUR, HO, HLT, HB⟩ := hrel
    have hBr : B ≤ wr.heap.size := by have := HB.out.size; have := HBW.out; omega
    have HLL : Hid (l.length + 1 ≤ 1000000000000) := by
      show _ ≤ _
      have h1 := congrArg List.length HLT.out
      rw [List.length_append] at h1
      have h2 := Vi.grp_pos u
      have := HTL.out
      omega
    by_cases h1 : u < 128
    · have hge : decide ((128 : Int) ≤ (u : Int)) = false := decide_eq_false (by omega)
      have hw8 : IntKind.u8.wrap (u : Int) = (u : Int) := by rw [IntKind.wrap_u8]; omega
      have HBV : Hid ((u : Int) = ((UInt8.ofNat u).toNat : Int)) := by show _ = _; simp; omega
      have HG := Lib.hid (Vi.grp_lo h1)
      clear h1
      go_wp2_with (at_builtin; refine wpList_append_ex _ rfl _ _ _ _ rfl _ _ rfl rfl _ (push_one HO.out hBr (UInt8.ofNat u) _ HBV.out HLL.out _) ?_)
      intro v2 w2 hp2
      have HO2 := Lib.hid hp2.own
      have HB2 := Lib.hid (HB.out.trans hp2.bel)
      rw [← HG.out, HLT.out] at HO2
      clear hp2 HO HB
      go_wp2
      go_ret
      exact ⟨_, rfl, HO2.out, HB2.out⟩
    · have hge : decide ((128 : Int) ≤ (u : Int)) = true := decide_eq_true (by omega)
      obtain ⟨r, hr⟩ : ∃ r : Nat, u % 128 = r := ⟨_, rfl⟩
      have hmd : (u : Int) % 128 = (r : Int) := by omega
      obtain ⟨x, hx⟩ : ∃ x : Nat, r + 128 = x := ⟨_, rfl⟩
      have hw64 : IntKind.u64.wrap ((r : Int) + 128) = (x : Int) := by rw [IntKind.wrap_u64]; omega
      have hw8 : IntKind.u8.wrap (x : Int) = (x : Int) := by rw [IntKind.wrap_u8]; omega
      have HBV : Hid ((x : Int) = ((UInt8.ofNat x).toNat : Int)) := by show _ = _; simp; omega
      obtain ⟨u2, hu2⟩ : ∃ u2 : Nat, u / 128 = u2 := ⟨_, rfl⟩
      have HG : Hid (Vi.grp u = UInt8.ofNat x :: Vi.grp u2) := by show _ = _; rw [Vi.grp_hi h1, hr, hx, hu2]
      have HU2 : Hid (u2 < 18446744073709551616) := by show _ < _; have := HUR.out; omega
      have hdv : (u : Int) / 128 = (u2 : Int) := by omega
      have hdec : u2 < u := by omega
      clear h1 hr hx hu2
      go_wp2_with (at_builtin; refine wpList_append_ex _ rfl _ _ _ _ rfl _ _ rfl rfl _ (push_one HO.out hBr (UInt8.ofNat x) _ HBV.out HLL.out _) ?_)
      intro v2 w2 hp2
      have HO2 := Lib.hid hp2.own
      have HB2 := Lib.hid (HB.out.trans hp2.bel)
      have HL2 : Hid ((l ++ [UInt8.ofNat x]) ++ Vi.grp u2 = T) := by
        show _ = _
        rw [← HLT.out, HG.out, List.append_assoc]
        rfl
      clear hp2 HO HB HLT
      go_wp2
      exact ⟨⟨u2, _, by first | rfl | go_num, HU2, HO2, HL2, HB2⟩, by simp [intOf]; omega⟩

theorem byteCells_map (s : ByteArray) : byteCells s = s.data.toList.map fun b => Value.int .u8 (b.toNat : Int) := rfl
/-- A text more. -/
theorem push_text {W : World} {B : Nat} {v : Value} {l : List UInt8} (h : OwnB W B v l) (hB : B ≤ W.heap.size) (s : ByteArray) (hl : l.length + s.size ≤ 1000000000000) (ty : TypeId) :
    ∃ v' W', (Builtin.append_ #[48, 9] ty #[v, .string s]).run Try.prog W = .ok v' W' ∧ Pushed B W (l ++ s.data.toList) v' W' := by
  obtain ⟨v', W', h1, h2, h3⟩ := append_own h hB (.string s) 9 s.data.toList s.size (by rw [← Lib.size_eq]) (by rw [← byteCells_map]; exact Src.ofString (P := Try.prog) W Try.underlying9 s) hl ty
  exact ⟨v', W', h1, h2, h3⟩
set_option maxHeartbeats 4000000 in
theorem addText_any (B : Nat) (v : Value) (l : List UInt8) (s : ByteArray) (w : World) (ho : OwnB w B v l) (hBw : B ≤ w.heap.size) (hll : l.length ≤ 1000000000) (hs : s.size ≤ 1000000000) :
    Calls Try.prog 30 #[v, .string s] w fun e w' => ∃ v', e = .returned v' ∧ OwnB w' B v' (l ++ gtxt s.data.toList) ∧ Below B w w' := by
  obtain ⟨N, hN⟩ : ∃ N, s.size = N := ⟨_, rfl⟩
  have hl : s.data.toList.length = N := by rw [← hN, ← Lib.size_eq]
  have HA := Lib.hid (addInt_any B v l (N : Int) w ho hBw hll (by omega))
  have HLL : Hid ((l ++ Vi.grp (Vi.zz (N : Int))).length + s.size ≤ 1000000000000) := by
    show _ ≤ _
    rw [List.length_append]
    have := Vi.grp_len10 (Vi.zz_lt (N : Int) (by omega))
    omega
  have HG : Hid (l ++ gtxt s.data.toList = (l ++ Vi.grp (Vi.zz (N : Int))) ++ s.data.toList) := by
    show _ = _
    unfold gtxt
    rw [hl, List.append_assoc]
  obtain ⟨H, hH⟩ : ∃ H, l ++ Vi.grp (Vi.zz (N : Int)) = H := ⟨_, rfl⟩
  rw [hH] at HA HLL HG
  have HSN := Lib.hid hN
  have HBW := Lib.hid hBw
  clear hl hll hs ho hBw hH
  go_enter Try.func30, Try.ntmps30
  go_wp2_with fail
  refine HA.out.mono ?_
  rintro e w1 ⟨v1, rfl, ho1, hb1⟩
  have HO1 := Lib.hid ho1
  have HB1 := Lib.hid hb1
  have hBr : B ≤ w1.heap.size := by have := HB1.out.size; have := HBW.out; omega
  clear ho1 hb1 HA
  go_wp2_with (at_builtin; refine wpList_append_ex _ rfl _ _ _ _ rfl _ _ rfl rfl _ (push_text HO1.out hBr s HLL.out _) ?_)
  intro v2 w2 hp2
  have HO2 := Lib.hid hp2.own
  have HB2 := Lib.hid (HB1.out.trans hp2.bel)
  rw [← HG.out] at HO2
  clear hp2 HO1 HB1
  go_wp2
  go_ret
  exact ⟨_, rfl, HO2.out, HB2.out⟩

theorem own_nil (w : World) (B : Nat) : OwnB w B (.slice none 0 0) [] := .inl ⟨rfl, rfl⟩
set_option maxHeartbeats 4000000 in
theorem putInt_any (b : ByteArray) (n : Int) (w : World) (hb : b.size ≤ 1000000000) (hn : -9223372036854775808 ≤ n ∧ n ≤ 9223372036854775807) :
    Calls Try.prog 10 #[.string b, .int .i64 n] w fun e w' => e = .returned (.string ⟨(b.data.toList ++ Vi.grp (Vi.zz n)).toArray⟩) ∧ Below w.heap.size w w' := by
  have HA := Lib.hid (addInt_any w.heap.size _ [] n w (own_nil _ _) (Nat.le_refl _) (by simp) hn)
  have hg := Vi.grp_len10 (Vi.zz_lt n hn)
  obtain ⟨G, hG⟩ : ∃ G, Vi.grp (Vi.zz n) = G := ⟨_, rfl⟩
  rw [hG] at HA hg ⊢
  obtain ⟨r, hr⟩ : ∃ r : ByteArray, (⟨G.toArray⟩ : ByteArray) = r := ⟨_, rfl⟩
  have hrl : r.data.toList = G := by rw [← hr]
  have hrs : r.size ≤ 10 := by rw [Lib.size_eq, hrl]; exact hg
  have HF : Hid ((⟨(b.data.toList ++ G).toArray⟩ : ByteArray) = b ++ r) := by
    show _ = _
    have h : (b ++ r).data.toList = b.data.toList ++ G := by rw [cat_list, hrl]
    rw [← h]
    try simp
  have HR := Lib.hid hr
  clear hr hrl hn hG hg
  go_enter Try.func10, Try.ntmps10
  go_wp2_with fail
  refine HA.out.mono ?_
  rintro e w1 ⟨v1, rfl, ho1, hb1⟩
  have hconv := string_own ho1
  rw [List.nil_append, HR.out] at hconv
  have HB1 := Lib.hid hb1
  clear ho1 hb1 HA
  go_wp2
  go_ret
  exact ⟨by rw [HF.out]; rfl, HB1.out⟩
set_option maxHeartbeats 4000000 in
theorem putText_any (b s : ByteArray) (w : World) (hb : b.size ≤ 1000000000) (hs : s.size ≤ 1000000000) :
    Calls Try.prog 12 #[.string b, .string s] w fun e w' => e = .returned (.string ⟨(b.data.toList ++ gtxt s.data.toList).toArray⟩) ∧ Below w.heap.size w w' := by
  have HA := Lib.hid (addText_any w.heap.size _ [] s w (own_nil _ _) (Nat.le_refl _) (by simp) hs)
  have hg := gtxt_len s.data.toList (by rw [← Lib.size_eq]; exact hs)
  rw [← Lib.size_eq] at hg
  obtain ⟨G, hG⟩ : ∃ G, gtxt s.data.toList = G := ⟨_, rfl⟩
  rw [hG] at HA hg ⊢
  obtain ⟨r, hr⟩ : ∃ r : ByteArray, (⟨G.toArray⟩ : ByteArray) = r := ⟨_, rfl⟩
  have hrl : r.data.toList = G := by rw [← hr]
  have hrs : r.size ≤ 1000000010 := by rw [Lib.size_eq, hrl]; omega
  have HF : Hid ((⟨(b.data.toList ++ G).toArray⟩ : ByteArray) = b ++ r) := by
    show _ = _
    have h : (b ++ r).data.toList = b.data.toList ++ G := by rw [cat_list, hrl]
    rw [← h]
    try simp
  have HR := Lib.hid hr
  clear hr hrl hG hg
  go_enter Try.func12, Try.ntmps12
  go_wp2_with fail
  refine HA.out.mono ?_
  rintro e w1 ⟨v1, rfl, ho1, hb1⟩
  have hconv := string_own ho1
  rw [List.nil_append, HR.out] at hconv
  have HB1 := Lib.hid hb1
  clear ho1 hb1 HA
  go_wp2
  go_ret
  exact ⟨by rw [HF.out]; rfl, HB1.out⟩
end Go.Proofs.Ytkpdjeiocdppoaa
