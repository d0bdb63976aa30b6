
/- Numbers written in groups of seven bits: the document's PutInt. -/
import Derived.Test.YtkpdjeiocdppoaaRPad
import Derived.Test.YtkpdjeiocdppoaaVi
namespace Go.Proofs.Ytkpdjeiocdppoaa
open Go.RowKit
set_option linter.unusedVariables false

theorem or_128f : ∀ r : Fin 256, (r.val ||| 128) = r.val % 128 + 128 := by decide +kernel
theorem or_128 (r : Nat) (h : r < 256) : bits .or .u8 (r : Int) 128 = ((r % 128 + 128 : Nat) : Int) := by
  have h1 := u8_or_nat r 128 h (by omega)
  have e : r ||| 128 = r % 128 + 128 := or_128f ⟨r, h⟩
  rw [e] at h1
  exact h1
theorem u64_not (a : Nat) (ha : a < 18446744073709551616) : bits .xor .u64 IntKind.u64.max (a : Int) = 18446744073709551615 - (a : Int) := by
  have h := congrArg BitVec.toNat (BitVec.allOnes_xor (x := BitVec.ofNat 64 a))
  rw [BitVec.toNat_xor, BitVec.toNat_allOnes, BitVec.toNat_not, BitVec.toNat_ofNat, Nat.mod_eq_of_lt (by omega)] at h
  have h1 := u64_xor_nat (2 ^ 64 - 1) a (by omega) ha
  rw [h] at h1
  rw [show IntKind.u64.max = ((2 ^ 64 - 1 : Nat) : Int) from rfl, h1]
  omega

set_option maxRecDepth 100000 in
set_option maxHeartbeats 4000000 in
theorem refPutInt_any (b : ByteArray) (n : Int) (w : World) (hb : b.size ≤ 1000000000) (hn : -9223372036854775808 ≤ n ∧ n ≤ 9223372036854775807) :
    Calls Try.prog 11 #[.string b, .int .i64 n] w fun e w' => e = .returned (.string ⟨(b.data.toList ++ Vi.grp (Vi.zz n)).toArray⟩) ∧ Below w.heap.size w w' := by
  obtain ⟨g0, c0, w1, hcv, hO1, hb1⟩ := bytes_own w b hb
  obtain ⟨m, hm⟩ : ∃ m, b.data.toList = m := ⟨_, rfl⟩
  obtain ⟨N, hN⟩ : ∃ N, b.size = N := ⟨_, rfl⟩
  have HN : Hid (m.length = N) := by show _ = _; rw [← hm, ← hN, ← Lib.size_eq]
  rw [hm] at hO1 ⊢
  rw [hN] at hcv hO1 hb
  obtain ⟨B, hB⟩ : ∃ B, w.heap.size = B := ⟨_, rfl⟩
  rw [hB] at hO1 hb1 ⊢
  have HO1 := Lib.hid hO1
  have HB1 := Lib.hid hb1
  have HBB := Lib.hid hB
  have hzl := Vi.zz_lt n hn
  obtain ⟨u0, hu0⟩ : ∃ u0, Vi.zz n = u0 := ⟨_, rfl⟩
  rw [hu0] at hzl ⊢
  obtain ⟨T, hT⟩ : ∃ T, m ++ Vi.grp u0 = T := ⟨_, rfl⟩
  have HTL : Hid (T.length ≤ N + 10) := by
    show _ ≤ _
    rw [← hT, List.length_append, HN.out]
    have := Vi.grp_len10 hzl
    omega
  rw [hT]
  have HT := Lib.hid hT
  have HU := Lib.hid hzl
  obtain ⟨c, hc⟩ : ∃ c : Int, IntKind.u64.wrap n = c := ⟨_, rfl⟩
  have hsg : IntKind.u64.signed = false := rfl
  have HO0 : Hid (OwnB w1 B (.slice (some ⟨g0, 0, none⟩) N c0) m) := HO1
  have HNN := Lib.hid hN
  have hcb : 0 ≤ c ∧ c < 18446744073709551616 := by rw [← hc, IntKind.wrap_u64]; omega
  obtain ⟨d, hd⟩ : ∃ d : Nat, d = (c * 2 % 18446744073709551616).toNat := ⟨_, rfl⟩
  have hd2 : IntKind.u64.wrap (c * 2) = (d : Int) := by rw [IntKind.wrap_u64, hd]; omega
  have hdb : d < 18446744073709551616 := by omega
  by_cases h0 : n < 0
  · have hlt : decide (n < 0) = true := decide_eq_true h0
    have hx : bits .xor .u64 IntKind.u64.max (d : Int) = (u0 : Int) := by
      rw [u64_not d hdb]
      rw [IntKind.wrap_u64] at hc
      unfold Vi.zz at hu0
      split at hu0 <;> omega
    clear hu0 hzl hn h0 hm hO1 hb1 hB hN hT hcb hd hdb
    go_enter Try.func11, Try.ntmps11
    go_wp2_with fail
    go_loopw [5, 6] (fun i v wr => ∃ (u : Nat) (l : List UInt8), i = .int .u64 u ∧ Hid (u < 18446744073709551616) ∧ Hid (OwnB wr B v l) ∧ Hid (l ++ Vi.grp u = T) ∧ Hid (Below B w wr)) (fun i _ _ => (intOf i).toNat)
    case atStart => exact ⟨u0, m, rfl, HU, HO0, HT, HB1⟩
    case round =>
      obtain ⟨u, l, rfl, HUR, HO, HLT, HB⟩ := hrel
      have hBr : B ≤ wr.heap.size := by have := HB.out.size; have := HBB.out; omega
      have HLL : Hid (l.length + 1 ≤ 1000000000000) := by
        show _ ≤ _
        have h1 := congrArg List.length HLT.out
        rw [List.length_append] at h1
        have h2 := Vi.grp_pos u
        have := HTL.out
        omega
      by_cases h1 : u < 128
      · have hgt : decide ((127 : Int) < (u : Int)) = false := decide_eq_false (by omega)
        have hw8 : IntKind.u8.wrap (u : Int) = (u : Int) := by rw [IntKind.wrap_u8]; omega
        have HBV : Hid ((u : Int) = ((UInt8.ofNat u).toNat : Int)) := by show _ = _; simp; omega
        have HG := Lib.hid (Vi.grp_lo h1)
        clear h1
        go_wp2_with (at_builtin; refine wpList_append_ex _ rfl _ _ _ _ rfl _ _ rfl rfl _ (push_one HO.out hBr (UInt8.ofNat u) _ HBV.out HLL.out _) ?_)
        intro v2 w2 hp2
        have HO2 := Lib.hid hp2.own
        have HB2 := Lib.hid (HB.out.trans hp2.bel)
        rw [← HG.out, HLT.out] at HO2
        have hconv := string_own HO2.out
        obtain ⟨sr, hsr⟩ : ∃ r : ByteArray, (⟨T.toArray⟩ : ByteArray) = r := ⟨_, rfl⟩
        have HSR := Lib.hid hsr
        rw [hsr] at hconv
        clear hp2 hsr HO HB
        go_wp2
        go_ret
        exact ⟨by rw [HSR.out]; rfl, HB2.out⟩
      · have hgt : decide ((127 : Int) < (u : Int)) = true := decide_eq_true (by omega)
        obtain ⟨r, hr⟩ : ∃ r : Nat, u % 256 = r := ⟨_, rfl⟩
        have hw8 : IntKind.u8.wrap (u : Int) = (r : Int) := by rw [IntKind.wrap_u8]; omega
        have hor := or_128 r (by omega)
        obtain ⟨x, hx⟩ : ∃ x : Nat, u % 128 + 128 = x := ⟨_, rfl⟩
        rw [show r % 128 + 128 = x by omega] at hor
        have HBV : Hid ((x : Int) = ((UInt8.ofNat x).toNat : Int)) := by show _ = _; simp; omega
        obtain ⟨u2, hu2⟩ : ∃ u2 : Nat, u / 128 = u2 := ⟨_, rfl⟩
        have HG : Hid (Vi.grp u = UInt8.ofNat x :: Vi.grp u2) := by show _ = _; rw [Vi.grp_hi h1, hx, hu2]
        have HU2 : Hid (u2 < 18446744073709551616) := by show _ < _; have := HUR.out; omega
        have hdv : (u : Int) / 128 = (u2 : Int) := by omega
        have hdec : u2 < u := by omega
        clear h1 hr hx hu2
        go_wp2_with (at_builtin; refine wpList_append_ex _ rfl _ _ _ _ rfl _ _ rfl rfl _ (push_one HO.out hBr (UInt8.ofNat x) _ HBV.out HLL.out _) ?_)
        intro v2 w2 hp2
        have HO2 := Lib.hid hp2.own
        have HB2 := Lib.hid (HB.out.trans hp2.bel)
        have HL2 : Hid ((l ++ [UInt8.ofNat x]) ++ Vi.grp u2 = T) := by
          show _ = _
          rw [← HLT.out, HG.out, List.append_assoc]
          rfl
        clear hp2 HO HB HLT
        go_wp2
        exact ⟨⟨u2, _, by first | rfl | go_num, HU2, HO2, HL2, HB2⟩, by simp [intOf]; omega⟩
  · have hlt : decide (n < 0) = false := decide_eq_false h0
    have hdu : d = u0 := by
      rw [IntKind.wrap_u64] at hc
      unfold Vi.zz at hu0
      split at hu0 <;> omega
    clear hzl hn h0 hm hO1 hb1 hB hN hT hcb hd hdb
    subst hdu
    clear hu0
    go_enter Try.func11, Try.ntmps11
    go_wp2_with fail
    go_loopw [5, 6] (fun i v wr => ∃ (u : Nat) (l : List UInt8), i = .int .u64 u ∧ Hid (u < 18446744073709551616) ∧ Hid (OwnB wr B v l) ∧ Hid (l ++ Vi.grp u = T) ∧ Hid (Below B w wr)) (fun i _ _ => (intOf i).toNat)
    case atStart => exact ⟨d, m, rfl, HU, HO0, HT, HB1⟩
    case round =>
      obtain ⟨u, l, rfl, HUR, HO, HLT, HB⟩ := hrel
      have hBr : B ≤ wr.heap.size := by have := HB.out.size; have := HBB.out; omega
      have HLL : Hid (l.length + 1 ≤ 1000000000000) := by
        show _ ≤ _
        have h1 := congrArg List.length HLT.out
        rw [List.length_append] at h1
        have h2 := Vi.grp_pos u
        have := HTL.out
        omega
      by_cases h1 : u < 128
      · have hgt : decide ((127 : Int) < (u : Int)) = false := decide_eq_false (by omega)
        have hw8 : IntKind.u8.wrap (u : Int) = (u : Int) := by rw [IntKind.wrap_u8]; omega
        have HBV : Hid ((u : Int) = ((UInt8.ofNat u).toNat : Int)) := by show _ = _; simp; omega
        have HG := Lib.hid (Vi.grp_lo h1)
        clear h1
        go_wp2_with (at_builtin; refine wpList_append_ex _ rfl _ _ _ _ rfl _ _ rfl rfl _ (push_one HO.out hBr (UInt8.ofNat u) _ HBV.out HLL.out _) ?_)
        intro v2 w2 hp2
        have HO2 := Lib.hid hp2.own
        have HB2 := Lib.hid (HB.out.trans hp2.bel)
        rw [← HG.out, HLT.out] at HO2
        have hconv := string_own HO2.out
        obtain ⟨sr, hsr⟩ : ∃ r : ByteArray, (⟨T.toArray⟩ : ByteArray) = r := ⟨_, rfl⟩
        have HSR := Lib.hid hsr
        rw [hsr] at hconv
        clear hp2 hsr HO HB
        go_wp2
        go_ret
        exact ⟨by rw [HSR.out]; rfl, HB2.out⟩
      · have hgt : decide ((127 : Int) < (u : Int)) = true := decide_eq_true (by omega)
        obtain ⟨r, hr⟩ : ∃ r : Nat, u % 256 = r := ⟨_, rfl⟩
        have hw8 : IntKind.u8.wrap (u : Int) = (r : Int) := by rw [IntKind.wrap_u8]; omega
        have hor := or_128 r (by omega)
        obtain ⟨x, hx⟩ : ∃ x : Nat, u % 128 + 128 = x := ⟨_, rfl⟩
        rw [show r % 128 + 128 = x by omega] at hor
        have HBV : Hid ((x : Int) = ((UInt8.ofNat x).toNat : Int)) := by show _ = _; simp; omega
        obtain ⟨u2, hu2⟩ : ∃ u2 : Nat, u / 128 = u2 := ⟨_, rfl⟩
        have HG : Hid (Vi.grp u = UInt8.ofNat x :: Vi.grp u2) := by show _ = _; rw [Vi.grp_hi h1, hx, hu2]
        have HU2 : Hid (u2 < 18446744073709551616) := by show _ < _; have := HUR.out; omega
        have hdv : (u : Int) / 128 = (u2 : Int) := by omega
        have hdec : u2 < u := by omega
        clear h1 hr hx hu2
        go_wp2_with (at_builtin; refine wpList_append_ex _ rfl _ _ _ _ rfl _ _ rfl rfl _ (push_one HO.out hBr (UInt8.ofNat x) _ HBV.out HLL.out _) ?_)
        intro v2 w2 hp2
        have HO2 := Lib.hid hp2.own
        have HB2 := Lib.hid (HB.out.trans hp2.bel)
        have HL2 : Hid ((l ++ [UInt8.ofNat x]) ++ Vi.grp u2 = T) := by
          show _ = _
          rw [← HLT.out, HG.out, List.append_assoc]
          rfl
        clear hp2 HO HB HLT
        go_wp2
        exact ⟨⟨u2, _, by first | rfl | go_num, HU2, HO2, HL2, HB2⟩, by simp [intOf]; omega⟩
end Go.Proofs.Ytkpdjeiocdppoaa
