
/- Numbers in groups of seven bits: mathematics alone. -/
import Derived.Laws.BitsAllLaws
import Derived.Test.YtpgbjnenllfmlaaGreatDoorRSum
import Derived.OwnWalk
/-! Numbers in groups of seven bits: mathematics alone. -/
namespace Go.Proofs.YtpgbjnenllfmlaaGreatDoor
namespace Vi
set_option linter.unusedVariables false

/-- A signed number as one without a sign. -/
def zz (n : Int) : Nat := if 0 ≤ n then (2 * n).toNat else (-2 * n - 1).toNat
def uz (u : Nat) : Int := if u % 2 = 1 then -((u / 2 : Nat) : Int) - 1 else ((u / 2 : Nat) : Int)
theorem uz_zz (n : Int) : uz (zz n) = n := by
  unfold uz zz
  split <;> split <;> omega
theorem zz_uz (u : Nat) : zz (uz u) = u := by
  unfold uz zz
  split <;> split <;> omega
theorem zz_lt (n : Int) (h : -9223372036854775808 ≤ n ∧ n ≤ 9223372036854775807) : zz n < 18446744073709551616 := by
  unfold zz; split <;> omega
theorem uz_in (u : Nat) (h : u < 18446744073709551616) : -9223372036854775808 ≤ uz u ∧ uz u ≤ 9223372036854775807 := by
  unfold uz; split <;> omega

/-- The groups of a number, the lowest first. -/
def grp (u : Nat) : List UInt8 := if h : u < 128 then [UInt8.ofNat u] else UInt8.ofNat (u % 128 + 128) :: grp (u / 128)
termination_by u
decreasing_by omega
theorem grp_lo {u : Nat} (h : u < 128) : grp u = [UInt8.ofNat u] := by rw [grp, dif_pos h]
theorem grp_hi {u : Nat} (h : ¬ u < 128) : grp u = UInt8.ofNat (u % 128 + 128) :: grp (u / 128) := by rw [grp, dif_neg h]
theorem grp_pos (u : Nat) : 1 ≤ (grp u).length := by
  rw [grp]; split <;> simp
theorem grp_len : ∀ (k u : Nat), u < 128 ^ k → 1 ≤ k → (grp u).length ≤ k
  | 0, _, _, h => by omega
  | k + 1, u, h, _ => by
    by_cases h1 : u < 128
    · rw [grp_lo h1]; simp
    · rw [grp_hi h1, List.length_cons]
      have hk : 1 ≤ k := by
        rcases Nat.eq_zero_or_pos k with rfl | h2
        · simp at h; omega
        · exact h2
      have := grp_len k (u / 128) (by rw [Nat.pow_succ] at h; omega) hk
      omega
theorem grp_len10 {u : Nat} (h : u < 18446744073709551616) : (grp u).length ≤ 10 := grp_len 10 u (by
  have : (128 : Nat) ^ 10 = 1180591620717411303424 := by decide
  omega) (by omega)

/-- What reading came to: nothing more, a fault of form, or a number and how many bytes it takes. -/
inductive Got
  | missing
  | form
  | got (u n : Nat)
deriving DecidableEq
/-- Reading of groups: i have been read, they make u. -/
def rd : List UInt8 → Nat → Nat → Got
  | [], _, _ => .missing
  | c :: r, i, u =>
    if (i = 9 ∧ 1 < c.toNat) ∨ (0 < i ∧ c.toNat = 0) then .form
    else if 128 ≤ c.toNat then rd r (i + 1) (u + c.toNat % 128 * 128 ^ i) else .got (u + c.toNat % 128 * 128 ^ i) (i + 1)
theorem rd_grp (rest : List UInt8) : ∀ (k v i u : Nat), v < 128 ^ k → v * 128 ^ i < 18446744073709551616 → (0 < i → 0 < v) → rd (grp v ++ rest) i u = .got (u + v * 128 ^ i) (i + (grp v).length)
  | 0, v, i, u, h0, h1, h2 => by
    have : v = 0 := by simpa using h0
    subst this
    have : i = 0 := by
      rcases Nat.eq_zero_or_pos i with h | h
      · exact h
      · exact absurd (h2 h) (by omega)
    subst this
    rw [grp_lo (by omega)]
    simp [rd]
  | k + 1, v, i, u, h0, h1, h2 => by
    have hi9 : i = 9 → v ≤ 1 := fun e => by
      subst e
      have : (128 : Nat) ^ 9 = 9223372036854775808 := by decide
      rw [this] at h1
      omega
    by_cases hv : v < 128
    · rw [grp_lo hv]
      have hc : (UInt8.ofNat v).toNat = v := by simp; omega
      rw [List.singleton_append, rd, hc, if_neg (by rintro (⟨e, h⟩ | ⟨h, e⟩); · have := hi9 e; omega
                                                    · have := h2 h; omega), if_neg (by omega), Nat.mod_eq_of_lt hv]
      rfl
    · have hc : (UInt8.ofNat (v % 128 + 128)).toNat = v % 128 + 128 := by simp; omega
      rw [grp_hi hv, List.cons_append, rd, hc, if_neg (by rintro (⟨e, h⟩ | ⟨h, e⟩); · have := hi9 e; omega
                                                          · omega), if_pos (by omega), rd_grp rest k (v / 128) (i + 1) _ (by rw [Nat.pow_succ] at h0; omega) ?_ (fun _ => by omega)]
      · rw [List.length_cons]
        congr 1
        · have e1 : (v % 128 + 128) % 128 = v % 128 := by omega
          have e2 : v / 128 * 128 ^ (i + 1) = (v / 128 * 128) * 128 ^ i := by rw [Nat.pow_succ]; rw [Nat.mul_comm (128 ^ i) 128, ← Nat.mul_assoc]
          rw [e1, e2, Nat.add_assoc, ← Nat.add_mul]
          congr 2
          omega
        · omega
      · have e2 : v / 128 * 128 ^ (i + 1) = (v / 128 * 128) * 128 ^ i := by rw [Nat.pow_succ]; rw [Nat.mul_comm (128 ^ i) 128, ← Nat.mul_assoc]
        rw [e2]
        exact Nat.lt_of_le_of_lt (Nat.mul_le_mul_right _ (by omega)) h1
/-- What was written is read, whatever stands behind. -/
theorem rd_zz (n : Int) (h : -9223372036854775808 ≤ n ∧ n ≤ 9223372036854775807) (rest : List UInt8) : rd (grp (zz n) ++ rest) 0 0 = .got (zz n) (grp (zz n)).length := by
  have h1 := zz_lt n h
  have h2 := rd_grp rest 10 (zz n) 0 0 (by
    have : (128 : Nat) ^ 10 = 1180591620717411303424 := by decide
    omega) (by simp; exact h1) (fun h => absurd h (by omega))
  simpa using h2
/-- What is read stands there, in the only way. -/
theorem rd_only : ∀ (l : List UInt8) (i u v n : Nat), rd l i u = .got v n → ∃ x k, v = u + x * 128 ^ i ∧ n = i + k ∧ 1 ≤ k ∧ l.take k = grp x ∧ k ≤ l.length ∧ (0 < i → 0 < x)
  | [], i, u, v, n, h => by cases h
  | c :: r, i, u, v, n, h => by
    rw [rd] at h
    split at h
    · cases h
    · rename_i hf
      have hcc : UInt8.ofNat c.toNat = c := by simp
      split at h
      · rename_i hc
        obtain ⟨x, k, rfl, rfl, hk, ht, hl, hx⟩ := rd_only r (i + 1) _ v n h
        have hx0 := hx (by omega)
        have hlt := c.toNat_lt
        refine ⟨c.toNat % 128 + 128 * x, k + 1, ?_, by omega, by omega, ?_, by rw [List.length_cons]; omega, fun _ => by omega⟩
        · rw [Nat.add_mul, Nat.pow_succ, Nat.add_assoc]
          congr 2
          rw [Nat.mul_comm 128 x, Nat.mul_assoc, Nat.mul_comm (128 ^ i) 128]
        · rw [List.take_succ_cons, ht, grp_hi (u := c.toNat % 128 + 128 * x) (by omega)]
          congr 1
          · rw [show (c.toNat % 128 + 128 * x) % 128 + 128 = c.toNat by omega, hcc]
          · rw [show (c.toNat % 128 + 128 * x) / 128 = x by omega]
      · rename_i hc
        simp only [Got.got.injEq] at h
        obtain ⟨rfl, rfl⟩ := h
        refine ⟨c.toNat, 1, by rw [Nat.mod_eq_of_lt (by omega)], rfl, by omega, ?_, by rw [List.length_cons]; omega, fun h => ?_⟩
        · rw [List.take_succ_cons, List.take_zero, grp_lo (by omega), hcc]
        · by_cases e : c.toNat = 0
          · exact absurd (.inr ⟨h, e⟩) hf
          · omega
end Vi
end Go.Proofs.YtpgbjnenllfmlaaGreatDoor
/-! Numbers written in groups of seven bits: the document's PutInt. -/
namespace Go.Proofs.YtpgbjnenllfmlaaGreatDoor
open Go.RowKit
set_option linter.unusedVariables false

theorem or_128f : ∀ r : Fin 256, (r.val ||| 128) = r.val % 128 + 128 := by decide +kernel
theorem or_128 (r : Nat) (h : r < 256) : bits .or .u8 (r : Int) 128 = ((r % 128 + 128 : Nat) : Int) := by
  have h1 := u8_or_nat r 128 h (by omega)
  have e : r ||| 128 = r % 128 + 128 := or_128f ⟨r, h⟩
  rw [e] at h1
  exact h1
theorem u64_not (a : Nat) (ha : a < 18446744073709551616) : bits .xor .u64 IntKind.u64.max (a : Int) = 18446744073709551615 - (a : Int) := by
  have h := congrArg BitVec.toNat (BitVec.allOnes_xor (x := BitVec.ofNat 64 a))
  rw [BitVec.toNat_xor, BitVec.toNat_allOnes, BitVec.toNat_not, BitVec.toNat_ofNat, Nat.mod_eq_of_lt (by omega)] at h
  have h1 := u64_xor_nat (2 ^ 64 - 1) a (by omega) ha
  rw [h] at h1
  rw [show IntKind.u64.max = ((2 ^ 64 - 1 : Nat) : Int) from rfl, h1]
  omega

set_option maxRecDepth 100000 in
set_option maxHeartbeats 4000000 in
theorem refPutInt_any (b : ByteArray) (n : Int) (w : World) (hb : b.size ≤ 1000000000) (hn : -9223372036854775808 ≤ n ∧ n ≤ 9223372036854775807) :
    Calls Tryz.prog 31 #[.string b, .int .i64 n] w fun e w' => e = .returned (.string ⟨(b.data.toList ++ Vi.grp (Vi.zz n)).toArray⟩) ∧ Below w.heap.size w w' := by
  obtain ⟨g0, c0, w1, hcv, hO1, hb1⟩ := bytes_own w b hb
  obtain ⟨m, hm⟩ : ∃ m, b.data.toList = m := ⟨_, rfl⟩
  obtain ⟨N, hN⟩ : ∃ N, b.size = N := ⟨_, rfl⟩
  have HN : Hid (m.length = N) := by show _ = _; rw [← hm, ← hN, ← Lib.size_eq]
  rw [hm] at hO1 ⊢
  rw [hN] at hcv hO1 hb
  obtain ⟨B, hB⟩ : ∃ B, w.heap.size = B := ⟨_, rfl⟩
  rw [hB] at hO1 hb1 ⊢
  have HO1 := Lib.hid hO1
  have HB1 := Lib.hid hb1
  have HBB := Lib.hid hB
  have hzl := Vi.zz_lt n hn
  obtain ⟨u0, hu0⟩ : ∃ u0, Vi.zz n = u0 := ⟨_, rfl⟩
  rw [hu0] at hzl ⊢
  obtain ⟨T, hT⟩ : ∃ T, m ++ Vi.grp u0 = T := ⟨_, rfl⟩
  have HTL : Hid (T.length ≤ N + 10) := by
    show _ ≤ _
    rw [← hT, List.length_append, HN.out]
    have := Vi.grp_len10 hzl
    omega
  rw [hT]
  have HT := Lib.hid hT
  have HU := Lib.hid hzl
  obtain ⟨c, hc⟩ : ∃ c : Int, IntKind.u64.wrap n = c := ⟨_, rfl⟩
  have hsg : IntKind.u64.signed = false := rfl
  have HO0 : Hid (OwnB w1 B (.slice (some ⟨g0, 0, none⟩) N c0) m) := HO1
  have HNN := Lib.hid hN
  have hcb : 0 ≤ c ∧ c < 18446744073709551616 := by rw [← hc, IntKind.wrap_u64]; omega
  obtain ⟨d, hd⟩ : ∃ d : Nat, d = (c * 2 % 18446744073709551616).toNat := ⟨_, rfl⟩
  have hd2 : IntKind.u64.wrap (c * 2) = (d : Int) := by rw [IntKind.wrap_u64, hd]; omega
  have hdb : d < 18446744073709551616 := by omega
  by_cases h0 : n < 0
  · have hlt : decide (n < 0) = true := decide_eq_true h0
    have hx : bits .xor .u64 IntKind.u64.max (d : Int) = (u0 : Int) := by
      rw [u64_not d hdb]
      rw [IntKind.wrap_u64] at hc
      unfold Vi.zz at hu0
      split at hu0 <;> omega
    clear hu0 hzl hn h0 hm hO1 hb1 hB hN hT hcb hd hdb
    go_enter Tryz.func31, Tryz.ntmps31
    go_wp2_with fail
    go_loopw [5, 6] (fun i v wr => ∃ (u : Nat) (l : List UInt8), i = .int .u64 u ∧ Hid (u < 18446744073709551616) ∧ Hid (OwnB wr B v l) ∧ Hid (l ++ Vi.grp u = T) ∧ Hid (Below B w wr)) (fun i _ _ => (intOf i).toNat)
    case atStart => exact ⟨u0, m, rfl, HU, HO0, HT, HB1⟩
    case round =>
      obtain ⟨u, l, rfl, HUR, HO, HLT, HB⟩ := hrel
      have hBr : B ≤ wr.heap.size := by have := HB.out.size; have := HBB.out; omega
      have HLL : Hid (l.length + 1 ≤ 1000000000000) := by
        show _ ≤ _
        have h1 := congrArg List.length HLT.out
        rw [List.length_append] at h1
        have h2 := Vi.grp_pos u
        have := HTL.out
        omega
      by_cases h1 : u < 128
      · have hgt : decide ((127 : Int) < (u : Int)) = false := decide_eq_false (by omega)
        have hw8 : IntKind.u8.wrap (u : Int) = (u : Int) := by rw [IntKind.wrap_u8]; omega
        have HBV : Hid ((u : Int) = ((UInt8.ofNat u).toNat : Int)) := by show _ = _; simp; omega
        have HG := Lib.hid (Vi.grp_lo h1)
        clear h1
        go_wp2_with (at_builtin; refine wpList_append_ex _ rfl _ _ _ _ rfl _ _ rfl rfl _ (push_one HO.out hBr (UInt8.ofNat u) _ HBV.out HLL.out _) ?_)
        intro v2 w2 hp2
        have HO2 := Lib.hid hp2.own
        have HB2 := Lib.hid (HB.out.trans hp2.bel)
        rw [← HG.out, HLT.out] at HO2
        have hconv := string_own HO2.out
        obtain ⟨sr, hsr⟩ : ∃ r : ByteArray, (⟨T.toArray⟩ : ByteArray) = r := ⟨_, rfl⟩
        have HSR := Lib.hid hsr
        rw [hsr] at hconv
        clear hp2 hsr HO HB
        go_wp2
        go_ret
        exact ⟨by rw [HSR.out]; rfl, HB2.out⟩
      · have hgt : decide ((127 : Int) < (u : Int)) = true := decide_eq_true (by omega)
        obtain ⟨r, hr⟩ : ∃ r : Nat, u % 256 = r := ⟨_, rfl⟩
        have hw8 : IntKind.u8.wrap (u : Int) = (r : Int) := by rw [IntKind.wrap_u8]; omega
        have hor := or_128 r (by omega)
        obtain ⟨x, hx⟩ : ∃ x : Nat, u % 128 + 128 = x := ⟨_, rfl⟩
        rw [show r % 128 + 128 = x by omega] at hor
        have HBV : Hid ((x : Int) = ((UInt8.ofNat x).toNat : Int)) := by show _ = _; simp; omega
        obtain ⟨u2, hu2⟩ : ∃ u2 : Nat, u / 128 = u2 := ⟨_, rfl⟩
        have HG : Hid (Vi.grp u = UInt8.ofNat x :: Vi.grp u2) := by show _ = _; rw [Vi.grp_hi h1, hx, hu2]
        have HU2 : Hid (u2 < 18446744073709551616) := by show _ < _; have := HUR.out; omega
        have hdv : (u : Int) / 128 = (u2 : Int) := by omega
        have hdec : u2 < u := by omega
        clear h1 hr hx hu2
        go_wp2_with (at_builtin; refine wpList_append_ex _ rfl _ _ _ _ rfl _ _ rfl rfl _ (push_one HO.out hBr (UInt8.ofNat x) _ HBV.out HLL.out _) ?_)
        intro v2 w2 hp2
        have HO2 := Lib.hid hp2.own
        have HB2 := Lib.hid (HB.out.trans hp2.bel)
        have HL2 : Hid ((l ++ [UInt8.ofNat x]) ++ Vi.grp u2 = T) := by
          show _ = _
          rw [← HLT.out, HG.out, List.append_assoc]
          rfl
        clear hp2 HO HB HLT
        go_wp2
        exact ⟨⟨u2, _, by first | rfl | go_num, HU2, HO2, HL2, HB2⟩, by simp [intOf]; omega⟩
  · have hlt : decide (n < 0) = false := decide_eq_false h0
    have hdu : d = u0 := by
      rw [IntKind.wrap_u64] at hc
      unfold Vi.zz at hu0
      split at hu0 <;> omega
    clear hzl hn h0 hm hO1 hb1 hB hN hT hcb hd hdb
    subst hdu
    clear hu0
    go_enter Tryz.func31, Tryz.ntmps31
    go_wp2_with fail
    go_loopw [5, 6] (fun i v wr => ∃ (u : Nat) (l : List UInt8), i = .int .u64 u ∧ Hid (u < 18446744073709551616) ∧ Hid (OwnB wr B v l) ∧ Hid (l ++ Vi.grp u = T) ∧ Hid (Below B w wr)) (fun i _ _ => (intOf i).toNat)
    case atStart => exact ⟨d, m, rfl, HU, HO0, HT, HB1⟩
    case round =>
      obtain ⟨u, l, rfl, HUR, HO, HLT, HB⟩ := hrel
      have hBr : B ≤ wr.heap.size := by have := HB.out.size; have := HBB.out; omega
      have HLL : Hid (l.length + 1 ≤ 1000000000000) := by
        show _ ≤ _
        have h1 := congrArg List.length HLT.out
        rw [List.length_append] at h1
        have h2 := Vi.grp_pos u
        have := HTL.out
        omega
      by_cases h1 : u < 128
      · have hgt : decide ((127 : Int) < (u : Int)) = false := decide_eq_false (by omega)
        have hw8 : IntKind.u8.wrap (u : Int) = (u : Int) := by rw [IntKind.wrap_u8]; omega
        have HBV : Hid ((u : Int) = ((UInt8.ofNat u).toNat : Int)) := by show _ = _; simp; omega
        have HG := Lib.hid (Vi.grp_lo h1)
        clear h1
        go_wp2_with (at_builtin; refine wpList_append_ex _ rfl _ _ _ _ rfl _ _ rfl rfl _ (push_one HO.out hBr (UInt8.ofNat u) _ HBV.out HLL.out _) ?_)
        intro v2 w2 hp2
        have HO2 := Lib.hid hp2.own
        have HB2 := Lib.hid (HB.out.trans hp2.bel)
        rw [← HG.out, HLT.out] at HO2
        have hconv := string_own HO2.out
        obtain ⟨sr, hsr⟩ : ∃ r : ByteArray, (⟨T.toArray⟩ : ByteArray) = r := ⟨_, rfl⟩
        have HSR := Lib.hid hsr
        rw [hsr] at hconv
        clear hp2 hsr HO HB
        go_wp2
        go_ret
        exact ⟨by rw [HSR.out]; rfl, HB2.out⟩
      · have hgt : decide ((127 : Int) < (u : Int)) = true := decide_eq_true (by omega)
        obtain ⟨r, hr⟩ : ∃ r : Nat, u % 256 = r := ⟨_, rfl⟩
        have hw8 : IntKind.u8.wrap (u : Int) = (r : Int) := by rw [IntKind.wrap_u8]; omega
        have hor := or_128 r (by omega)
        obtain ⟨x, hx⟩ : ∃ x : Nat, u % 128 + 128 = x := ⟨_, rfl⟩
        rw [show r % 128 + 128 = x by omega] at hor
        have HBV : Hid ((x : Int) = ((UInt8.ofNat x).toNat : Int)) := by show _ = _; simp; omega
        obtain ⟨u2, hu2⟩ : ∃ u2 : Nat, u / 128 = u2 := ⟨_, rfl⟩
        have HG : Hid (Vi.grp u = UInt8.ofNat x :: Vi.grp u2) := by show _ = _; rw [Vi.grp_hi h1, hx, hu2]
        have HU2 : Hid (u2 < 18446744073709551616) := by show _ < _; have := HUR.out; omega
        have hdv : (u : Int) / 128 = (u2 : Int) := by omega
        have hdec : u2 < u := by omega
        clear h1 hr hx hu2
        go_wp2_with (at_builtin; refine wpList_append_ex _ rfl _ _ _ _ rfl _ _ rfl rfl _ (push_one HO.out hBr (UInt8.ofNat x) _ HBV.out HLL.out _) ?_)
        intro v2 w2 hp2
        have HO2 := Lib.hid hp2.own
        have HB2 := Lib.hid (HB.out.trans hp2.bel)
        have HL2 : Hid ((l ++ [UInt8.ofNat x]) ++ Vi.grp u2 = T) := by
          show _ = _
          rw [← HLT.out, HG.out, List.append_assoc]
          rfl
        clear hp2 HO HB HLT
        go_wp2
        exact ⟨⟨u2, _, by first | rfl | go_num, HU2, HO2, HL2, HB2⟩, by simp [intOf]; omega⟩
end Go.Proofs.YtpgbjnenllfmlaaGreatDoor
/-! Numbers read: the document's Int. -/
namespace Go.Proofs.YtpgbjnenllfmlaaGreatDoor
open Go.RowKit
set_option linter.unusedVariables false

/-- What is read at a place: number, place after it, error. -/
def gotI (a : Int) : Vi.Got → Int × Int × Int
  | .missing => (0, a, 5)
  | .form => (0, a, 4)
  | .got u k => (Vi.uz u, a + (k : Int), 0)
def intR (l : List UInt8) (a : Int) : Int × Int × Int := if a < 0 ∨ (l.length : Int) < a then (0, a, 2) else gotI a (Vi.rd (l.drop a.toNat) 0 0)
def tri (r : Int × Int × Int) : Ending := .returned (.tuple #[.int .i64 r.1, .int .i64 r.2.1, .int .i64 r.2.2])
theorem rd_nil {l : List UInt8} {p i u : Nat} (h : l.length ≤ p) : Vi.rd (l.drop p) i u = .missing := by
  rw [List.drop_eq_nil_of_le h]; rfl
theorem rd_step {l : List UInt8} {p i u : Nat} (h : p < l.length) : Vi.rd (l.drop p) i u = if (i = 9 ∧ 1 < (l.getD p 0).toNat) ∨ (0 < i ∧ (l.getD p 0).toNat = 0) then .form
    else if 128 ≤ (l.getD p 0).toNat then Vi.rd (l.drop (p + 1)) (i + 1) (u + (l.getD p 0).toNat % 128 * 128 ^ i) else .got (u + (l.getD p 0).toNat % 128 * 128 ^ i) (i + 1) := by
  have e : l.drop p = l.getD p 0 :: l.drop (p + 1) := by
    rw [List.drop_eq_getElem_cons h]
    simp [List.getD, h]
  rw [e, Vi.rd]
theorem u8_and127f : ∀ r : Fin 256, (r.val &&& 127) = r.val % 128 := by decide +kernel
theorem u8_and127 (r : Nat) (h : r < 256) : bits .and .u8 (r : Int) 127 = ((r % 128 : Nat) : Int) := by
  have h1 := u8_and_nat r 127 h (by omega)
  rw [show r &&& 127 = r % 128 from u8_and127f ⟨r, h⟩] at h1
  exact h1
theorem or_grp (u m i : Nat) (hu : u < 128 ^ i) (h : u + m * 128 ^ i < 18446744073709551616) : bits .or .u64 (u : Int) ((m * 128 ^ i : Nat) : Int) = ((u + m * 128 ^ i : Nat) : Int) := by
  rw [u64_or_nat _ _ (by omega) (by omega)]
  have e : (128 : Nat) ^ i = 2 ^ (7 * i) := by rw [Nat.pow_mul]
  rw [e] at hu ⊢
  rw [Nat.mul_comm m, Nat.or_comm, ← Nat.two_pow_add_eq_or_of_lt hu]
  congr 1
  omega
theorem wrap64_eq (n : Int) : wrap64 n = IntKind.i64.wrap n := by
  rw [IntKind.wrap_i64]
  unfold wrap64
  first | rfl | omega
/-- What one group more comes to. -/
theorem grp_room (u c i : Nat) (hi : i ≤ 9) (hu : u < 128 ^ i) (h9 : i = 9 → c ≤ 1) : u + c % 128 * 128 ^ i < 18446744073709551616 ∧ u + c % 128 * 128 ^ i < 128 ^ (i + 1) := by
  have h2 : u + c % 128 * 128 ^ i < 128 ^ (i + 1) := by
    have : c % 128 * 128 ^ i ≤ 127 * 128 ^ i := Nat.mul_le_mul_right _ (by omega)
    rw [Nat.pow_succ]
    omega
  refine ⟨?_, h2⟩
  by_cases e : i = 9
  · subst e
    have := h9 rfl
    have h9 : (128 : Nat) ^ 9 = 9223372036854775808 := by decide
    have : c % 128 * 128 ^ 9 ≤ 1 * 128 ^ 9 := Nat.mul_le_mul_right _ (by omega)
    rw [h9] at hu this ⊢
    omega
  · have : (128 : Nat) ^ (i + 1) ≤ 128 ^ 9 := Nat.pow_le_pow_right (by omega) (by omega)
    have h9 : (128 : Nat) ^ 9 = 9223372036854775808 := by decide
    omega

end Go.Proofs.YtpgbjnenllfmlaaGreatDoor
/-! Texts written, and numbers of items read: the document's PutText and count. -/
namespace Go.Proofs.YtpgbjnenllfmlaaGreatDoor
open Go.RowKit
set_option linter.unusedVariables false

theorem cat_list (a b : ByteArray) : (a ++ b).data.toList = a.data.toList ++ b.data.toList := by
  rw [ByteArray.data_append]; simp
/-- A text as it is written. -/
def gtxt (s : List UInt8) : List UInt8 := Vi.grp (Vi.zz (s.length : Int)) ++ s
theorem gtxt_len (s : List UInt8) (h : s.length ≤ 1000000000) : (gtxt s).length ≤ s.length + 10 := by
  unfold gtxt
  rw [List.length_append]
  have := Vi.grp_len10 (Vi.zz_lt (s.length : Int) (by omega))
  omega
/-- The number of items at a place. -/
def cntR (l : List UInt8) (a most : Int) : Int × Int × Int :=
  if (intR l a).2.2 = 0 then (if (intR l a).1 < 0 then (0, a, 4) else if most < (intR l a).1 then (0, a, 3) else ((intR l a).1, (intR l a).2.1, 0)) else (0, a, (intR l a).2.2)
end Go.Proofs.YtpgbjnenllfmlaaGreatDoor
