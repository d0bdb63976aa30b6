
/- The program's Width and Count. -/
import Derived.Test.YtadhmmklhhaagaaDoorRound
import Derived.Test.YtadhmmklhhaagaaDoorInts
import Derived.Test.YtadhmmklhhaagaaDoorKMth
import Derived.Test.YtadhmmklhhaagaaDoorKTb
import Derived.Test.YtadhmmklhhaagaaDoorOwn
import Derived.Test.YtadhmmklhhaagaaDoorKStp
/-! The program's Width and Count. -/
namespace Go.Proofs.YtadhmmklhhaagaaDoor
open Go.RowKit
set_option linter.unusedVariables false

theorem pw3_wdt (p : Int) (k : Nat) (hk : k < 3) : k < wdt p ↔ pw3 k ≤ p := by
  have h3 : k = 0 ∨ k = 1 ∨ k = 2 := by omega
  unfold wdt
  rcases h3 with rfl | rfl | rfl <;> simp only [pw3] <;> split <;> (try split) <;> (try split) <;> omega
set_option maxRecDepth 100000 in
set_option maxHeartbeats 4000000 in
theorem width_any (p : Int) (w : World) (hw : Tb w) : Calls Tryd.prog 21 #[.int .i64 p] w fun e w' => e = .returned (.int .i64 (wdt p)) ∧ w = w' := by
  obtain ⟨K, hK⟩ : ∃ K, wdt p = K := ⟨_, rfl⟩
  have hK3 : K ≤ 3 := by rw [← hK]; exact wdt_le p
  have HT : Hid (∀ k, k < 3 → k < K → decide (pw3 k ≤ p) = true) := fun k h h2 => decide_eq_true ((pw3_wdt p k h).1 (by omega))
  have HF : Hid (K < 3 → decide (pw3 K ≤ p) = false) := fun h => decide_eq_false (fun h2 => by have := (pw3_wdt p K h).2 h2; omega)
  have HC : Hid (∀ k, k < 3 → w.cell? ⟨0, k, none⟩ = some (.int .i64 (pw3 k))) := fun k hk => hw.cell hk
  rw [hK]
  clear hK hw
  go_enter Tryd.func21, Tryd.ntmps21
  go_wp2_with fail
  go_loop [3] (fun v => ∃ k : Nat, k ≤ K ∧ v = .int .i64 k) (fun v => K - (intOf v).toNat)
  case atStart => exact ⟨0, by omega, rfl⟩
  case round =>
    obtain ⟨k, hk, rfl⟩ := hrel
    by_cases hlt : k < K
    · have hc := HC.out k (by omega)
      have q := HT.out k (by omega) hlt
      have hk3 : decide ((k : Int) < 3) = true := decide_eq_true (by omega)
      generalize pw3 k = x at *
      go_wp2
      go_round
      case rel => exact ⟨k + 1, by omega, by go_num⟩
      case measure => simp [intOf]; omega
    · obtain rfl : k = K := by omega
      by_cases h3 : k < 3
      · have hc := HC.out k h3
        have q := HF.out h3
        have hk3 : decide ((k : Int) < 3) = true := decide_eq_true (by omega)
        generalize pw3 k = x at *
        go_wp2
        go_ret
        exact ⟨rfl, rfl⟩
      · have hk3 : decide ((k : Int) < 3) = false := decide_eq_false (by omega)
        go_wp2
        go_ret
        exact ⟨rfl, rfl⟩

set_option maxRecDepth 100000 in
set_option maxHeartbeats 4000000 in
theorem count_any (p : Int) (n : Nat) (w : World) (hw : Tb w) (hn : n ≤ 1000000) : Calls Tryd.prog 20 #[.int .i64 p, .int .i64 n] w fun e w' => e = .returned (.int .i64 (cnt p n)) ∧ w = w' := by
  have HW := Lib.hid (width_any p w hw)
  obtain ⟨C, hC⟩ : ∃ C, cnt p n = C := ⟨_, rfl⟩
  obtain ⟨K, hK⟩ : ∃ K, wdt p = K := ⟨_, rfl⟩
  have hK3 : K ≤ 3 := by rw [← hK]; exact wdt_le p
  rw [hC]
  rw [hK] at HW
  unfold cnt at hC
  rw [hK] at hC
  have hlt : decide ((n : Int) < 0) = false := decide_eq_false (by omega)
  clear hK hw
  by_cases h0 : K = 0
  · rw [if_pos h0] at hC
    subst h0
    have hmn : ¬ (1152921504606846975 : Int) < (n : Int) := by omega
    have hml : IntKind.i64.wrap (8 * (n : Int)) = (C : Int) := by rw [IntKind.wrap_i64]; omega
    have hm8 : 8 * (n : Int) = (C : Int) := by omega
    have hwc : IntKind.i64.wrap (C : Int) = (C : Int) := by rw [IntKind.wrap_i64]; omega
    clear hC hn
    go_enter Tryd.func20, Tryd.ntmps20
    go_wp2_with (refine HW.out.mono ?_; rintro e w' ⟨rfl, rfl⟩)
    go_ret
    exact ⟨rfl, rfl⟩
  · rw [if_neg h0] at hC
    have hk0 : ((K : Int) == 0) = false := by simp only [beq_eq_false_iff_ne]; omega
    have hk0' : (K == 0) = false := by simp only [beq_eq_false_iff_ne]; omega
    obtain ⟨q, hq⟩ : ∃ q, n / K = q := ⟨_, rfl⟩
    obtain ⟨r, hr⟩ : ∃ r, n % K = r := ⟨_, rfl⟩
    have hqn : q ≤ n := by rw [← hq]; exact Nat.div_le_self _ _
    have hqi : (n : Int) / (K : Int) = (q : Int) := by rw [← hq]; rfl
    have hqt : (n : Int).tdiv (K : Int) = (q : Int) := by rw [Int.tdiv_eq_ediv_of_nonneg (by omega), hqi]
    have hri : (n : Int) % (K : Int) = (r : Int) := by rw [← hr]; rfl
    have hrt : (n : Int).tmod (K : Int) = (r : Int) := by rw [Int.tmod_eq_emod_of_nonneg (by omega), hri]
    have hCq : (0 < r ∧ C = q + 1) ∨ (r = 0 ∧ C = q) := by
      have h1 := Nat.div_add_mod n K
      rw [hq, hr] at h1
      have h2 : r < K := by rw [← hr]; exact Nat.mod_lt _ (by omega)
      have h3 : ∀ m, K * m ≤ n + K - 1 → n + K - 1 < K * (m + 1) → C = m := fun m h4 h5 => by
        rw [← hC]
        exact Nat.div_eq_of_lt_le (by rw [Nat.mul_comm]; exact h4) (by rw [Nat.mul_comm]; exact h5)
      rcases Nat.eq_zero_or_pos r with h6 | h6
      · right
        refine ⟨h6, h3 q (by omega) (by rw [Nat.mul_add]; omega)⟩
      · left
        refine ⟨h6, h3 (q + 1) (by rw [Nat.mul_add]; omega) (by rw [Nat.mul_add, Nat.mul_add]; omega)⟩
    have hwq : IntKind.i64.wrap (q : Int) = (q : Int) := by rw [IntKind.wrap_i64]; omega
    clear hC hq hr
    rcases hCq with ⟨h1, rfl⟩ | ⟨h1, rfl⟩
    · have q1 : decide ((0 : Int) < (r : Int)) = true := decide_eq_true (by omega)
      have hw1 : IntKind.i64.wrap ((q : Int) + 1) = ((q + 1 : Nat) : Int) := by rw [IntKind.wrap_i64]; omega
      have hw2 : wrap64 ((q : Int) + 1) = ((q + 1 : Nat) : Int) := by unfold wrap64; omega
      clear hqn hn q1
      go_enter Tryd.func20, Tryd.ntmps20
      go_wp2_with (refine HW.out.mono ?_; rintro e w' ⟨rfl, rfl⟩)
      go_ret
      exact ⟨rfl, rfl⟩
    · have q1 : decide ((0 : Int) < (r : Int)) = false := decide_eq_false (by omega)
      have q2 : ¬ 0 < r := by omega
      clear h1 hqn hn q1
      go_enter Tryd.func20, Tryd.ntmps20
      go_wp2_with (refine HW.out.mono ?_; rintro e w' ⟨rfl, rfl⟩)
      go_ret
      exact ⟨rfl, rfl⟩
end Go.Proofs.YtadhmmklhhaagaaDoor
/-! The program's strings as elements: number, addGroups, addBits. -/
namespace Go.Proofs.YtadhmmklhhaagaaDoor
open Go.RowKit
set_option linter.unusedVariables false

def szOf : Value → Nat | .string b => b.size | _ => 0
theorem big_lt3 (l : List UInt8) (h : l.length ≤ 3) : big l < 16777216 := by
  have h1 := big_lt l
  have h2 : 256 ^ l.length ≤ 256 ^ 3 := Nat.pow_le_pow_right (by omega) h
  omega
set_option maxRecDepth 100000 in
set_option maxHeartbeats 4000000 in
theorem num_any (s : ByteArray) (w : World) (hs : s.size ≤ 3) : Calls Tryd.prog 43 #[.string s] w fun e w' => e = .returned (.int .i64 (big s.data.toList)) ∧ w = w' := by
  obtain ⟨N, hN⟩ : ∃ N, s.size = N := ⟨_, rfl⟩
  have HIX := Lib.hid (fun k (hk : k < N) w => index_str s k (by omega) w)
  obtain ⟨l, hl⟩ : ∃ l, s.data.toList = l := ⟨_, rfl⟩
  rw [hl] at HIX ⊢
  have hln : l.length = N := by rw [← hl, ← hN, ← Lib.size_eq]
  have HS := Lib.hid (fun k (hk : k < N) => big_take_succ l k (by omega))
  have HL := Lib.hid (fun k => big_lt3 (l.take k) (by rw [List.length_take]; omega))
  have HE : Hid (big (l.take N) = big l) := by show _ = _; rw [← hln, List.take_length]
  have H0 : Hid ((0 : Nat) = big (l.take 0)) := rfl
  rw [hN] at hs
  clear hl hln
  go_enter Tryd.func43, Tryd.ntmps43
  go_wp2_with fail
  go_loop [3, 4, 7] (fun x _ i => ∃ k X : Nat, k ≤ N ∧ i = .int .i64 k ∧ x = .int .i64 X ∧ Hid (X = big (l.take k))) (fun _ _ i => N - (intOf i).toNat)
  case atStart => exact ⟨0, 0, by omega, rfl, rfl, H0⟩
  case round =>
    obtain ⟨k, X, hk, rfl, rfl, HX⟩ := hrel
    by_cases hlt : k < N
    · have hix := HIX.out k hlt w
      obtain ⟨c, hc⟩ : ∃ c : Nat, (l.getD k 0).toNat = c := ⟨_, rfl⟩
      rw [show Sha.bt l k = (c : Int) by rw [← hc]; rfl] at hix
      have hcl : c < 256 := by rw [← hc]; exact (l.getD k 0).toNat_lt
      have hX : X < 16777216 := by rw [HX.out]; exact HL.out k
      obtain ⟨Y, hY⟩ : ∃ Y : Nat, X * 256 + c = Y := ⟨_, rfl⟩
      have HX2 : Hid (Y = big (l.take (k + 1))) := by show _ = _; rw [HS.out k hlt, ← HX.out, hc, hY]
      clear hc
      have hYi : (X : Int) * 256 + (c : Int) = (Y : Int) := by omega
      go_wp2
      go_round
      case rel => exact ⟨k + 1, Y, by omega, by go_num, rfl, HX2⟩
      case measure => simp [intOf]; omega
    · obtain rfl : k = N := by omega
      have HR : Hid (X = big l) := by show _ = _; rw [HX.out, HE.out]
      go_wp2
      go_ret
      exact ⟨by rw [HR.out]; rfl, rfl⟩

theorem gath_step {B : Nat} {W w w2 : World} {v : Value} {zs : List Int} {o : Obj} (hb : Below B W w) (hB : B ≤ w.heap.size) (hown : Gath w B v zs) (hgr : (w.alloc o).grownBy w2 v.ownBlock) : Below B W w2 ∧ B ≤ w2.heap.size := by
  have h1 : Below B W w2 := (hb.alloc hB o).grown hgr (by simp; omega) (fun g hg => hown.block g hg)
  exact ⟨h1, by have := hgr.size; simp at this; omega⟩
set_option maxRecDepth 100000 in
set_option maxHeartbeats 4000000 in
theorem groups_any (k : Nat) (s : ByteArray) (v0 : Value) (w : World) (B : Nat) (hB : B ≤ w.heap.size) (hk : 1 ≤ k) (hk3 : k ≤ 3) (hs : s.size ≤ 100000) (h0 : Gath w B v0 []) :
    Calls Tryd.prog 28 #[v0, .int .i64 k, .string s] w fun e w' => ∃ v, e = .returned v ∧ Gath w' B v ((chunks k s.data.toList).map (fun n : Nat => (n : Int))) ∧ Below B w w' := by
  obtain ⟨T, hT⟩ : ∃ T, (chunks k s.data.toList).map (fun n : Nat => (n : Int)) = T := ⟨_, rfl⟩
  rw [hT]
  have HT : Hid ([] ++ (chunks k s.data.toList).map (fun n : Nat => (n : Int)) = T) := hT
  have HG0 := Lib.hid h0
  have HW0 : Hid (Below B w w) := Below.refl _ _
  have HB0 := Lib.hid hB
  have HS0 : Hid (([] : List Int).length + s.size ≤ 100000) := by show _ ≤ _; simpa using hs
  clear hT h0 hB hs
  go_enter Tryd.func28, Tryd.ntmps28
  go_wp2_with fail
  go_loopw [0, 2, 7] (fun v x _ wr => ∃ (zs : List Int) (r : ByteArray), x = .string r ∧ Hid (zs ++ (chunks k r.data.toList).map (fun n : Nat => (n : Int)) = T) ∧ Hid (Gath wr B v zs) ∧ Hid (Below B w wr) ∧ Hid (B ≤ wr.heap.size) ∧ Hid (zs.length + r.size ≤ 100000)) (fun _ x _ _ => szOf x)
  case atStart => exact ⟨[], s, rfl, HT, HG0, HW0, HB0, HS0⟩
  case round =>
    obtain ⟨zs, r, rfl, HTR, HG, HW, HBR, HSR⟩ := hrel
    obtain ⟨X, hX⟩ : ∃ X, r.size = X := ⟨_, rfl⟩
    have hrl : r.data.toList.length = X := by rw [← hX, ← Lib.size_eq]
    have HXB : Hid (zs.length + X ≤ 100000) := by rw [← hX]; exact HSR
    rcases Nat.eq_zero_or_pos X with hX0 | hX0
    · have hr0 : r.data.toList = [] := List.eq_nil_of_length_eq_zero (by omega)
      have HF : Hid (zs = T) := by
        have h := HTR.out
        rw [hr0, chunks_nil] at h
        show _ = _
        simpa using h
      have q : decide ((0 : Int) < (X : Int)) = false := decide_eq_false (by omega)
      have q2 : ¬ 0 < X := by omega
      clear hr0 hrl
      go_wp2
      go_ret
      exact ⟨_, rfl, by rw [← HF.out]; exact HG.out, HW.out⟩
    · obtain ⟨m, hm⟩ : ∃ m, min k X = m := ⟨_, rfl⟩
      have hm1 : 1 ≤ m := by omega
      have hmX : m ≤ X := by omega
      have hm3 : m ≤ 3 := by omega
      have hmn : min (k : Int) (X : Int) = (m : Int) := by omega
      have q : decide ((0 : Int) < (X : Int)) = true := decide_eq_true (by omega)
      have hX6 : X ≤ 100000 := by have := HXB.out; omega
      have HY := Lib.hid (ext_take r m)
      have HR2 : Hid ((r.extract m X).data.toList = r.data.toList.drop m) := by
        show _ = _
        have h := congrArg (fun b : ByteArray => b.data.toList) (cut_toList r m (X - m))
        rw [show m + (X - m) = X by omega] at h
        simp only at h
        rw [← h, List.take_of_length_le (by rw [List.length_drop]; omega)]
      have HYS : Hid ((r.extract 0 m).size = m) := by show _ = _; rw [Lib.size_eq, HY.out, List.length_take]; omega
      have HRS : Hid ((r.extract m X).size = X - m) := by show _ = _; rw [Lib.size_eq, HR2.out, List.length_drop]; omega
      have HC := Lib.hid (num_any (r.extract 0 m) wr (by rw [HYS.out]; exact hm3))
      obtain ⟨z, hz⟩ : ∃ z, big (r.data.toList.take m) = z := ⟨_, rfl⟩
      rw [HY.out, hz] at HC
      have HT2 : Hid ((zs ++ [(z : Int)]) ++ (chunks k (r.extract m X).data.toList).map (fun n : Nat => (n : Int)) = T) := by
        show _ = _
        have h := HTR.out
        rw [chunks_cons hk (fun e => by rw [e] at hrl; simp at hrl; omega)] at h
        have ht : r.data.toList.take k = r.data.toList.take m := by rw [← hm, List.take_eq_take_iff]; omega
        have hd : r.data.toList.drop k = r.data.toList.drop m := by
          rcases Nat.le_total k X with h | h
          · rw [show m = k by omega]
          · rw [List.drop_of_length_le (by omega), List.drop_of_length_le (by omega)]
        rw [ht, hd, hz, ← HR2.out] at h
        rw [← h]; simp
      have HSR2 : Hid ((zs ++ [(z : Int)]).length + (r.extract m X).size ≤ 100000) := by
        show _ ≤ _
        have := HXB.out
        rw [HRS.out, List.length_append, List.length_singleton]; omega
      obtain ⟨r2, hr2⟩ : ∃ r2 : ByteArray, r.extract m X = r2 := ⟨_, rfl⟩
      rw [hr2] at HT2 HSR2 HRS
      have hcs : (m = X ∧ X < k ∧ r2 = ByteArray.empty) ∨ (m = k ∧ ¬ X < k ∧ r.extract m X = r2) := by
        rcases Nat.lt_or_ge X k with h | h
        · left
          refine ⟨by omega, h, ?_⟩
          have h2 := HRS.out
          rw [show X - m = 0 by omega] at h2
          exact bytes_ext (by
            have h3 : r2.data.toList.length = 0 := by rw [← Lib.size_eq]; exact h2
            rw [List.eq_nil_of_length_eq_zero h3]; rfl)
        · exact .inr ⟨by omega, by omega, hr2⟩
      clear hm hz hrl HTR HSR hr2 HR2
      rcases hcs with ⟨rfl, hxk, rfl⟩ | ⟨rfl, hxk, hr2⟩
      all_goals
        go_wp2_with fail
        refine HC.out.mono ?_
        rintro e w' ⟨rfl, rfl⟩
        go_wp2_with (at_builtin; refine append_one _ rfl _ _ rfl B _ zs z rfl (HG.out.alloc _) ⟨wr.heap.size, 0, none⟩ rfl ?c1 ?c2 ?c3 ?_)
        case c1 => rw [cell_new]; rfl
        case c2 => have := HXB.out; omega
        case c3 => have := HBR.out; simp; omega
        intro v' w2 hown2 hgr
        have R := gath_step HW.out HBR.out HG.out hgr
        have HO2 := Lib.hid hown2
        have HW2 := Lib.hid R.1
        have HB2 := Lib.hid R.2
        clear hown2 hgr HG R
        go_wp2
        go_roundw
        case rel => exact ⟨_, _, rfl, HT2, HO2, HW2, HB2, HSR2⟩
        case measure =>
          have h2 := HRS.out
          simp only [szOf]
          omega

theorem and1 (y : Nat) (h : y < 256) : bits .and .u8 (y : Int) 1 = ((y % 2 : Nat) : Int) := by
  have h1 := u8_and_nat y 1 h (by omega)
  rw [Nat.and_one_is_mod] at h1
  exact h1
theorem bits8_at (b : UInt8) (t : Nat) (ht : t ≤ 7) : (bits8 b).take (7 - t) ++ [((b.toNat / 2 ^ t % 2 : Nat) : Int)] = (bits8 b).take (8 - t) := by
  have h : t = 0 ∨ t = 1 ∨ t = 2 ∨ t = 3 ∨ t = 4 ∨ t = 5 ∨ t = 6 ∨ t = 7 := by omega
  rcases h with rfl | rfl | rfl | rfl | rfl | rfl | rfl | rfl <;> simp [bits8]
set_option maxRecDepth 100000 in
set_option maxHeartbeats 4000000 in
theorem bits_any (s : ByteArray) (v0 : Value) (w : World) (B : Nat) (hB : B ≤ w.heap.size) (hs : s.size ≤ 100000) (h0 : Gath w B v0 []) :
    Calls Tryd.prog 29 #[v0, .string s] w fun e w' => ∃ v, e = .returned v ∧ Gath w' B v (s.data.toList.flatMap bits8) ∧ Below B w w' := by
  obtain ⟨N, hN⟩ : ∃ N, s.size = N := ⟨_, rfl⟩
  have HIX := Lib.hid (fun k (hk : k < N) w => index_str s k (by omega) w)
  obtain ⟨l, hl⟩ : ∃ l, s.data.toList = l := ⟨_, rfl⟩
  rw [hl] at HIX ⊢
  have hln : l.length = N := by rw [← hl, ← hN, ← Lib.size_eq]
  have HS : Hid (∀ k, k < N → (l.take (k + 1)).flatMap bits8 = (l.take k).flatMap bits8 ++ bits8 (l.getD k 0)) := fun k hk => by
    rw [List.take_add_one, List.getElem?_eq_getElem (by omega), List.flatMap_append]
    simp [List.getD, show k < l.length by omega]
  have HE : Hid ((l.take N).flatMap bits8 = l.flatMap bits8) := by show _ = _; rw [← hln, List.take_length]
  have HLB : Hid (∀ k, ((l.take k).flatMap bits8).length ≤ 800000) := fun k => by
    rw [bits_len, List.length_take]
    omega
  have HG0 : Hid (Gath w B v0 ((l.take 0).flatMap bits8)) := h0
  have HW0 : Hid (Below B w w) := Below.refl _ _
  have HB0 := Lib.hid hB
  rw [hN] at hs
  clear hl hln h0 hB
  go_enter Tryd.func29, Tryd.ntmps29
  go_wp2_with fail
  go_loopw [0, 5, 6, 9] (fun v _ _ i wr => ∃ (k : Nat), k ≤ N ∧ i = .int .i64 k ∧ Hid (Gath wr B v ((l.take k).flatMap bits8)) ∧ Hid (Below B w wr) ∧ Hid (B ≤ wr.heap.size)) (fun _ _ _ i _ => N - (intOf i).toNat)
  case atStart => exact ⟨0, by omega, rfl, HG0, HW0, HB0⟩
  case round =>
    obtain ⟨k, hk, rfl, HG, HW, HBR⟩ := hrel
    by_cases hlt : k < N
    · have hix := fun w => HIX.out k hlt w
      obtain ⟨b, hb⟩ : ∃ b, l.getD k 0 = b := ⟨_, rfl⟩
      have HSK := Lib.hid (HS.out k hlt)
      have HLK := Lib.hid (HLB.out k)
      rw [hb] at HSK
      obtain ⟨c, hc⟩ : ∃ c : Nat, b.toNat = c := ⟨_, rfl⟩
      rw [show Sha.bt l k = (c : Int) by rw [← hc, ← hb]; rfl] at hix
      have hcl : c < 256 := by rw [← hc]; exact b.toNat_lt
      have HBA := Lib.hid (bits8_at b)
      have HBL : Hid ((bits8 b).length = 8) := rfl
      obtain ⟨Z, hZ⟩ : ∃ Z, bits8 b = Z := ⟨_, rfl⟩
      rw [hc, hZ] at HBA
      rw [hZ] at HSK HBL
      obtain ⟨P, hP⟩ : ∃ P, (l.take k).flatMap bits8 = P := ⟨_, rfl⟩
      rw [hP] at HSK HG HLK
      have HG1 : Hid (Gath wr B u0 (P ++ Z.take (7 - 7))) := by show Gath _ _ _ _; simpa using HG.out
      have HIXK := Lib.hid hix
      clear hb hc hZ hP hix HG
      go_wp2_with fail
      go_loopw [0, 6] (fun v j wr => (∃ t : Nat, t ≤ 7 ∧ j = .int .i64 t ∧ Hid (Gath wr B v (P ++ Z.take (7 - t))) ∧ Hid (Below B w wr) ∧ Hid (B ≤ wr.heap.size)) ∨ (j = .int .i64 (-1) ∧ Hid (Gath wr B v (P ++ Z)) ∧ Hid (Below B w wr) ∧ Hid (B ≤ wr.heap.size))) (fun _ j _ => (intOf j + 1).toNat)
      case atStart => exact .inl ⟨7, by omega, rfl, HG1, HW, HBR⟩
      case round =>
        rcases hrel with ⟨t, ht, rfl, HGI, HWI, HBI⟩ | ⟨rfl, HGI, HWI, HBI⟩
        · have hix := HIXK.out wr
          obtain ⟨y, hy⟩ : ∃ y : Nat, c / 2 ^ t = y := ⟨_, rfl⟩
          obtain ⟨z, hz⟩ : ∃ z : Nat, y % 2 = z := ⟨_, rfl⟩
          have hyc : y < 256 := by rw [← hy]; exact Nat.lt_of_le_of_lt (Nat.div_le_self _ _) hcl
          have hyi : (c : Int) / 2 ^ t = (y : Int) := by rw [← hy]; push_cast; rfl
          have hge : decide ((0 : Int) ≤ (t : Int)) = true := decide_eq_true (by omega)
          have hand := and1 y hyc
          rw [hz] at hand
          have hz2 : z < 2 := by omega
          have HG3 : Hid (∀ w2 v, Gath w2 B v (P ++ (Z.take (7 - t) ++ [(z : Int)])) → Gath w2 B v (P ++ Z.take (8 - t))) := fun w2 v h => by
            rw [← HBA.out t ht, hy, hz]; exact h
          have HLL : Hid ((P ++ Z.take (7 - t)).length ≤ 800010) := by
            show _ ≤ _
            have h1 := HLK.out
            have h2 := HBL.out
            rw [List.length_append, List.length_take]; omega
          have HZ8 : Hid (Z.take 8 = Z) := by show _ = _; rw [List.take_of_length_le (by rw [HBL.out]; omega)]
          clear hy hz
          go_wp2_with (at_builtin; refine append_one _ rfl _ _ rfl B _ _ (z : Int) rfl (HGI.out.alloc _) ⟨wr.heap.size, 0, none⟩ rfl ?c1 ?c2 ?c3 ?_)
          case c1 => rw [cell_new]; rfl
          case c2 => have := HLL.out; omega
          case c3 => have := HBI.out; simp; omega
          intro v' w2 hown2 hgr
          have R := gath_step HWI.out HBI.out HGI.out hgr
          have HO2 := Lib.hid (HG3.out _ _ hown2)
          have HW2 := Lib.hid R.1
          have HB2 := Lib.hid R.2
          clear hown2 hgr HGI R HG3
          rcases Nat.eq_zero_or_pos t with ht0 | ht0
          · subst ht0
            have HO3 : Hid (Gath w2 B v' (P ++ Z)) := by
              show Gath _ _ _ _
              have h := HO2.out
              rw [Nat.sub_zero, HZ8.out] at h
              exact h
            clear HO2
            go_wp2
            go_roundw
            case rel => exact .inr ⟨by first | rfl | go_num, HO3, HW2, HB2⟩
            case measure => first | (simp [intOf]; done) | (simp [intOf]; omega)
          · obtain ⟨t1, rfl⟩ : ∃ t1, t = t1 + 1 := ⟨t - 1, by omega⟩
            have hs1 : ((t1 + 1 : Nat) : Int) - 1 = (t1 : Int) := by omega
            rw [show 8 - (t1 + 1) = 7 - t1 by omega] at HO2
            go_wp2
            go_roundw
            case rel => exact .inl ⟨t1, by omega, by go_num, HO2, HW2, HB2⟩
            case measure => first | (simp [intOf]; done) | (simp [intOf]; omega)
        · have hlt0 : decide ((0 : Int) ≤ (-1 : Int)) = false := rfl
          have HG4 : Hid (Gath wr B u0 ((l.take (k + 1)).flatMap bits8)) := by show Gath _ _ _ _; rw [HSK.out]; exact HGI.out
          clear HGI
          go_wp2
          go_roundw
          case rel => exact ⟨k + 1, by omega, by go_num, HG4, HWI, HBI⟩
          case measure => simp [intOf]; omega
    · obtain rfl : k = N := by omega
      have HG2 : Hid (Gath wr B u0 (l.flatMap bits8)) := by show Gath _ _ _ _; rw [← HE.out]; exact HG.out
      clear HG
      go_wp2
      go_ret
      exact ⟨_, rfl, HG2.out, HW.out⟩
end Go.Proofs.YtadhmmklhhaagaaDoor
