
/- The program's elements as strings: addBytes, fromGroups, fromBits. -/
import Derived.Test.YtadhmmklhhaagaaDoorKPr1
import Derived.Test.YtadhmmklhhaagaaDoorKMth
import Derived.Test.YtadhmmklhhaagaaDoorKPk
import Derived.Test.YtadhmmklhhaagaaDoorVSpo
import Derived.Test.YtadhmmklhhaagaaDoorVPts
/-! The program's elements as strings: addBytes, fromGroups, fromBits. -/
namespace Go.Proofs.YtadhmmklhhaagaaDoor
open Go.RowKit
set_option linter.unusedVariables false

/-- A made slice of bytes, of which m count. -/
theorem own_made (w : World) (B n m : Nat) (hB : B ≤ w.heap.size) (hm : m ≤ n) (hn : n ≤ 1000000) : OwnB (w.alloc (.cells (madeCells #[.int .u8 0] n) 5)) B (.slice (some ⟨w.heap.size, 0, none⟩) m n) (List.replicate m 0) := by
  refine .inr ⟨w.heap.size, n, madeCells #[.int .u8 0] n, (0, 0), by rw [List.length_replicate], hB, heap_alloc_new w _, .inl rfl, by rw [List.length_replicate]; exact hm, by unfold maxLen; omega, size_madeCells _ _, fun j hj => ?_⟩
  rw [List.length_replicate] at hj
  have h1 : Sha.bt (List.replicate m (0 : UInt8)) j = 0 := by simp [Sha.bt, List.getD, hj]
  rw [h1]
  simp [madeCells, show j < n by omega, Nat.mod_one]
theorem OwnB.shape {w : World} {base : Nat} {v : Value} {l : List UInt8} (h : OwnB w base v l) : ∃ a cap, v = .slice a l.length cap := by
  rcases h with ⟨rfl, rfl⟩ | ⟨g, cap, cur, fr, rfl, _⟩
  · exact ⟨none, 0, rfl⟩
  · exact ⟨_, cap, rfl⟩
set_option maxRecDepth 100000 in
set_option maxHeartbeats 4000000 in
theorem bytes_any (v0 : Value) (l : List UInt8) (x k : Nat) (w : World) (B : Nat) (hB : B ≤ w.heap.size) (h0 : OwnB w B v0 l) (hl : l.length ≤ 1000000) (hx : x < 16777216) (hk : k ≤ 3) :
    Calls Tryd.prog 44 #[v0, .int .i64 x, .int .i64 k] w fun e w' => ∃ v, e = .returned v ∧ OwnB w' B v (l ++ bytesN k x) ∧ Below B w w' := by
  obtain ⟨T, hT⟩ : ∃ T, l ++ bytesN k x = T := ⟨_, rfl⟩
  rw [hT]
  have HT := Lib.hid hT
  have HTL : Hid (T.length ≤ 1000003) := by show _ ≤ _; rw [← hT, List.length_append, bytesN_len]; omega
  have HO0 := Lib.hid h0
  have HW0 : Hid (Below B w w) := Below.refl _ _
  have HB0 := Lib.hid hB
  clear hT h0 hB hl
  go_enter Tryd.func44, Tryd.ntmps44
  go_wp2_with fail
  go_loopw [0, 2] (fun v kk wr => ∃ (j : Nat) (pre : List UInt8), kk = .int .i64 j ∧ j ≤ 3 ∧ Hid (pre ++ bytesN j x = T) ∧ Hid (OwnB wr B v pre) ∧ Hid (Below B w wr) ∧ Hid (B ≤ wr.heap.size)) (fun _ kk _ => (intOf kk).toNat)
  case atStart => exact ⟨k, l, rfl, hk, HT, HO0, HW0, HB0⟩
  case round =>
    obtain ⟨j, pre, rfl, hj, HP, HO, HW, HBR⟩ := hrel
    rcases Nat.eq_zero_or_pos j with hj0 | hj0
    · subst hj0
      have HF : Hid (pre = T) := by
        show _ = _
        have h := HP.out
        rw [bytesN, List.append_nil] at h
        exact h
      go_wp2
      go_ret
      exact ⟨_, rfl, by rw [← HF.out]; exact HO.out, HW.out⟩
    · obtain ⟨j1, rfl⟩ : ∃ j1, j = j1 + 1 := ⟨j - 1, by omega⟩
      have hsb : ((j1 + 1 : Nat) : Int) - 1 = (j1 : Int) := by omega
      have hgt : decide ((0 : Int) < ((j1 + 1 : Nat) : Int)) = true := decide_eq_true (by omega)
      obtain ⟨sh, hsh⟩ : ∃ sh, 8 * j1 = sh := ⟨_, rfl⟩
      have hshi : 8 * (j1 : Int) = (sh : Int) := by omega
      obtain ⟨y, hy⟩ : ∃ y, x / 256 ^ j1 = y := ⟨_, rfl⟩
      have h2 : (256 : Nat) ^ j1 = 2 ^ sh := by rw [← hsh, Nat.pow_mul]
      have hyx : y ≤ x := by rw [← hy]; exact Nat.div_le_self _ _
      have hyi : (x : Int) / 2 ^ sh = (y : Int) := by rw [← hy, h2]; push_cast; rfl
      obtain ⟨r, hr⟩ : ∃ r, y % 256 = r := ⟨_, rfl⟩
      have hw8 : IntKind.u8.wrap (y : Int) = (r : Int) := by rw [IntKind.wrap_u8]; omega
      have HBV : Hid ((r : Int) = ((UInt8.ofNat y).toNat : Int)) := by show _ = _; rw [UInt8.toNat_ofNat']; omega
      have HLL : Hid (pre.length + 1 ≤ 1000000000000) := by
        show _ ≤ _
        have h := congrArg List.length HP.out
        rw [List.length_append] at h
        have := HTL.out
        omega
      have HP2 : Hid ((pre ++ [UInt8.ofNat y]) ++ bytesN j1 x = T) := by
        show _ = _
        have h := HP.out
        rw [bytesN, hy] at h
        rw [← h]; simp
      have hs24 : sh ≤ 24 := by omega
      have hbr := HBR.out
      clear hy h2 hr hsh HP
      go_wp2_with (at_builtin; refine wpList_append_ex _ rfl _ _ _ _ rfl _ _ rfl rfl _ (push_one HO.out hbr (UInt8.ofNat y) _ HBV.out HLL.out _) ?_)
      intro v2 w2 hp2
      have HO2 := Lib.hid hp2.own
      have HB2 := Lib.hid (HW.out.trans hp2.bel)
      have HBR2 : Hid (B ≤ w2.heap.size) := Nat.le_trans hbr hp2.bel.size
      clear hp2 HO HW
      go_wp2
      exact ⟨⟨j1, _, rfl, by omega, HP2, HO2, HB2, HBR2⟩, by simp [intOf]⟩

set_option maxRecDepth 100000 in
set_option maxHeartbeats 8000000 in
theorem fromBits_any (p : Int) (aa : Option Addr) (n c : Nat) (l : List Int) (N : Nat) (w : World) (hp : wdt p = 0) (hI : Ints w (.slice aa n c) l) (hN : N ≤ 100000) (hl : l.length = 8 * N) :
    Calls Tryd.prog 31 #[.slice aa n c, .int .i64 N] w fun e w' => ∃ r, e = two r ∧ UnpackS p l N r ∧ Below w.heap.size w w' := by
  obtain ⟨L, hL, hLn⟩ : ∃ L, l.length = L ∧ n = L := by
    obtain ⟨_, _, h, _⟩ := hI
    simp only [Value.slice.injEq] at h
    exact ⟨n, h.2.1.symm, rfl⟩
  rw [hLn] at hI ⊢
  rw [hL] at hl
  clear hLn n
  obtain ⟨B, hB⟩ : ∃ B, w.heap.size = B := ⟨_, rfl⟩
  have hmk := run_make_row' (P := Tryd.prog) 28 5 (.int .u8 0) 1 Tryd.underlying28 infoU8 rfl .i64 .i64 N (by omega) (by omega) w
  have HO0 := Lib.hid (own_made w B N N (by omega) (Nat.le_refl _) (by omega))
  have hb0 : Below B w (w.alloc (.cells (madeCells #[.int .u8 0] N) 5)) := (Below.refl _ _).alloc (by omega) _
  have HI0 := Lib.hid hI
  have HBB := Lib.hid hB
  have HW0 := Lib.hid hb0
  have HS0 : Hid (B ≤ (w.alloc (.cells (madeCells #[.int .u8 0] N) 5)).heap.size) := by show _ ≤ _; simp; omega
  rw [hB] at hmk HO0 ⊢
  generalize w.alloc (.cells (madeCells #[.int .u8 0] N) 5) = w1 at *
  have HM0 := Lib.hid (made_start l N)
  have HST := Lib.hid (fun k bs h hi h0 h1 => made_step (l := l) (n := N) (i := k) (bs := bs) h (by omega) hi h0 h1)
  have HEN := Lib.hid (fun bs h => made_end (p := p) (l := l) (n := N) (bs := bs) hp h (by omega))
  have HNO := Lib.hid (fun i hi h => made_not (p := p) (l := l) (n := N) (i := i) hp hi h)
  have HLL := Lib.hid hL
  clear hI hb0 hB hL hp
  go_enter Tryd.func31, Tryd.ntmps31
  go_wp2_with fail
  go_loopw [7, 8, 13] (fun _ _ i wr => ∃ (k : Nat) (bs : List UInt8), i = .int .i64 k ∧ k ≤ L ∧ Hid (Made l N k bs) ∧ Hid (OwnB wr B (.slice (some ⟨B, 0, none⟩) N N) bs) ∧ Hid (Below B w wr) ∧ Hid (B ≤ wr.heap.size)) (fun _ _ i _ => L - (intOf i).toNat)
  case atStart => exact ⟨0, _, rfl, by omega, HM0, HO0, HW0, HS0⟩
  case round =>
    obtain ⟨k, bs, rfl, hk, HM, HO, HW, HS⟩ := hrel
    have HI := Lib.hid (HI0.out.below (Nat.le_of_eq HBB.out) HW.out)
    by_cases hlt : k < L
    · obtain ⟨b1, o1, hae, hc1⟩ := Ints.at' HI.out hlt
      obtain ⟨x, hx⟩ : ∃ x, l.getD k 0 = x := ⟨_, rfl⟩
      rw [hx] at hc1
      by_cases hx0 : x < 0
      · have q1 : decide (x < 0) = true := decide_eq_true hx0
        have HR := Lib.hid (HNO.out k (by have := HLL.out; omega) (.inl (by omega)))
        subst hae
        clear hx hx0
        go_wp2
        go_ret2
        exact ⟨([], 4), rfl, HR.out, HW.out⟩
      · have q1 : decide (x < 0) = false := decide_eq_false hx0
        by_cases hx1 : 1 < x
        · have q2 : decide ((1 : Int) < x) = true := decide_eq_true hx1
          have HR := Lib.hid (HNO.out k (by have := HLL.out; omega) (.inr (by omega)))
          subst hae
          clear hx hx0 hx1
          go_wp2
          go_ret2
          exact ⟨([], 4), rfl, HR.out, HW.out⟩
        · have q2 : decide ((1 : Int) < x) = false := decide_eq_false hx1
          obtain ⟨hq, hlt2, hM2⟩ := HST.out k bs HM.out (by have := HLL.out; omega) (by omega) (by omega)
          obtain ⟨X, rfl⟩ := Int.eq_ofNat_of_zero_le (show 0 ≤ x by omega)
          obtain ⟨q, hqq⟩ : ∃ q, k / 8 = q := ⟨_, rfl⟩
          obtain ⟨Y, hY⟩ : ∃ Y, (bs.getD q 0).toNat = Y := ⟨_, rfl⟩
          rw [hx, hqq, hY, Int.toNat_natCast] at hlt2 hM2
          rw [hqq] at hq
          obtain ⟨V, hV⟩ : ∃ V, 2 * Y + X = V := ⟨_, rfl⟩
          rw [hV] at hlt2 hM2
          have hqi : (k : Int) / 8 = (q : Int) := by omega
          have hqt : (k : Int).tdiv 8 = (q : Int) := by rw [Int.tdiv_eq_ediv_of_nonneg (by omega), hqi]
          have hbl : bs.length = N := HM.out.1
          have hcl := HO.out.cell (j := q) (by omega)
          rw [show Sha.bt bs q = (Y : Int) by rw [← hY]; rfl] at hcl
          have hY2 : Y < 128 := by omega
          have hX2 : X < 2 := by omega
          have hw1 : IntKind.u8.wrap ((Y : Int) * 2) = (Y : Int) * 2 := by rw [IntKind.wrap_u8]; omega
          have hw2 : IntKind.u8.wrap (X : Int) = (X : Int) := by rw [IntKind.wrap_u8]; omega
          have hVi : (Y : Int) * 2 + (X : Int) = (V : Int) := by omega
          have hw3 : IntKind.u8.wrap (V : Int) = (V : Int) := by rw [IntKind.wrap_u8]; omega
          obtain ⟨hfr, hO2, hB2⟩ := HO.out.set q (by omega) (UInt8.ofNat V) (V : Int) (by rw [UInt8.toNat_ofNat']; omega)
          have HM2 := Lib.hid hM2
          have HO2 := Lib.hid hO2
          have HW2 := Lib.hid (HW.out.trans hB2)
          have HS2 : Hid (B ≤ (wr.setCell ⟨B, q, none⟩ (.int .u8 V)).heap.size) := Nat.le_trans HS.out hB2.size
          subst hae
          clear hx hx0 hx1 hqq hY hV hbl hM2 hO2 hB2 HM HO HW HI
          go_wp2
          go_roundw
          case rel => exact ⟨k + 1, _, by go_num, by omega, HM2, HO2, HW2, HS2⟩
          case measure => simp [intOf]; omega
    · obtain rfl : k = L := by omega
      have HR := Lib.hid (HEN.out bs (by rw [HLL.out]; exact HM.out))
      have hconv := string_own HO.out
      obtain ⟨S, hS⟩ : ∃ S : ByteArray, (⟨bs.toArray⟩ : ByteArray) = S := ⟨_, rfl⟩
      have HSS := Lib.hid hS
      rw [hS] at hconv
      clear hS
      go_wp2
      go_ret2
      exact ⟨(bs, 0), by rw [← HSS.out]; rfl, HR.out, HW.out⟩
end Go.Proofs.YtadhmmklhhaagaaDoor
/-! The program's elements as strings: fromGroups. -/
namespace Go.Proofs.YtadhmmklhhaagaaDoor
open Go.RowKit
set_option linter.unusedVariables false

theorem make_room (c : Nat) (hc : c ≤ 1000000) (w : World) : (Instr.makeSlice 28 (.int .i64 0) (.int .i64 (c : Int))).run Tryd.prog w = .ok (.slice (some ⟨w.heap.size, 0, none⟩) 0 c) (w.alloc (.cells (madeCells #[.int .u8 0] c) 5)) := by
  obtain ⟨i, hi, hzz⟩ := Option.map_eq_some_iff.1 infoU8
  simp only [Prod.mk.injEq] at hzz
  obtain ⟨hz, hs, hb⟩ := hzz
  have hr := run_make (P := Tryd.prog) w 28 5 i (.int .u8 0) Tryd.underlying28 hi hz .i64 .i64 0 (c : Int) (by omega) (by omega) (by rw [hb]; omega) (by omega)
  simp only [Int.toNat_natCast, hs, Nat.mul_one] at hr
  exact hr
theorem pw3_pow (j : Nat) (hj : j < 3) : pw3 j = ((256 ^ (j + 1) : Nat) : Int) := by
  have h : j = 0 ∨ j = 1 ∨ j = 2 := by omega
  rcases h with rfl | rfl | rfl <;> decide
theorem pow3_le (j : Nat) (hj : j < 3) : 256 ^ (j + 1) ≤ 16777216 := by
  have h : j = 0 ∨ j = 1 ∨ j = 2 := by omega
  rcases h with rfl | rfl | rfl <;> decide

set_option maxRecDepth 100000 in
set_option maxHeartbeats 8000000 in
theorem fromGroups_any (p : Int) (aa : Option Addr) (n c : Nat) (l : List Int) (N : Nat) (w : World) (hw : Tb w) (hp : wdt p ≠ 0) (hI : Ints w (.slice aa n c) l) (hN : N ≤ 100000) (hl : l.length = cnt p N) :
    Calls Tryd.prog 30 #[.slice aa n c, .int .i64 (wdt p), .int .i64 N] w fun e w' => ∃ r, e = two r ∧ UnpackS p l N r ∧ Below w.heap.size w w' := by
  obtain ⟨L, hL, hLn⟩ : ∃ L, l.length = L ∧ n = L := by
    obtain ⟨_, _, h, _⟩ := hI
    simp only [Value.slice.injEq] at h
    exact ⟨n, h.2.1.symm, rfl⟩
  rw [hLn] at hI ⊢
  clear hLn n
  obtain ⟨B, hB⟩ : ∃ B, w.heap.size = B := ⟨_, rfl⟩
  obtain ⟨W, hW⟩ : ∃ W, wdt p = W := ⟨_, rfl⟩
  have hW3 : W ≤ 3 := by rw [← hW]; exact wdt_le p
  have hL8 : L ≤ 800000 := by rw [← hL, hl]; have := cnt_le p N; omega
  have HST := Lib.hid (fun i bs k hM (hi : i < L) hk h0 h1 => madeG_step (p := p) (l := l) (n := N) (i := i) (bs := bs) hp hM (by omega) hl (k := k) hk h0 h1)
  have HNO := Lib.hid (fun i k (hi : i < L) hk h => madeG_not (p := p) (l := l) (n := N) (i := i) hp (by omega) (k := k) hk h)
  have HEN := Lib.hid (fun bs hM => madeG_end (p := p) (l := l) (n := N) (bs := bs) hp hl hM)
  have HCM := Lib.hid (fun i (hi : i < L) => cnt_mul (p := p) (n := N) (i := i) hp (by omega))
  rw [hW] at HST HNO HEN HCM hp ⊢
  rw [← hl, hL] at HEN
  have hmk := make_room N (by omega) w
  have HO0 := Lib.hid (own_made w B N 0 (by omega) (Nat.zero_le _) (by omega))
  have hb0 : Below B w (w.alloc (.cells (madeCells #[.int .u8 0] N) 5)) := (Below.refl _ _).alloc (by omega) _
  have HI0 := Lib.hid hI
  have HT := Lib.hid hw
  have HSZ : Hid (max 1 0 < B) := by rw [← hB]; exact hw.size
  have HBB := Lib.hid hB
  have HW0 := Lib.hid hb0
  have HS0 : Hid (B ≤ (w.alloc (.cells (madeCells #[.int .u8 0] N) 5)).heap.size) := by show _ ≤ _; simp; omega
  rw [hB] at hmk HO0 ⊢
  generalize w.alloc (.cells (madeCells #[.int .u8 0] N) 5) = w1 at *
  have HM0 := Lib.hid (madeG_start l W N)
  have HLL := Lib.hid hL
  have H00 : Hid (([] : List UInt8).length = 0) := rfl
  clear hI hb0 hB hL hl hW hw
  go_enter Tryd.func30, Tryd.ntmps30
  go_wp2_with fail
  go_loopw [8, 10, 11, 16] (fun v _ _ i wr => ∃ (k : Nat) (bs : List UInt8) (a : Option Addr) (m cap : Nat), v = .slice a m cap ∧ i = .int .i64 k ∧ k ≤ L ∧ Hid (bs.length = m) ∧ Hid (MadeG l W N k bs) ∧ Hid (OwnB wr B (.slice a m cap) bs) ∧ Hid (Below B w wr) ∧ Hid (B ≤ wr.heap.size)) (fun _ _ _ i _ => L - (intOf i).toNat)
  case atStart => exact ⟨0, [], _, 0, _, rfl, rfl, by omega, H00, HM0, HO0, HW0, HS0⟩
  case round =>
    obtain ⟨k, bs, a, m, cap, rfl, rfl, hk, HBL, HM, HO, HW, HS⟩ := hrel
    have HI := Lib.hid (HI0.out.below (Nat.le_of_eq HBB.out) HW.out)
    by_cases hlt : k < L
    · have hT := HT.out.below HSZ.out HW.out
      obtain ⟨b1, o1, hae, hc1⟩ := Ints.at' HI.out hlt
      obtain ⟨x, hx⟩ : ∃ x, l.getD k 0 = x := ⟨_, rfl⟩
      rw [hx] at hc1
      have hkN : k * W < N := HCM.out k hlt
      have hml : m = k * W := by rw [← HBL.out, HM.out.1]; omega
      obtain ⟨D, hD⟩ : ∃ D, N - m = D := ⟨_, rfl⟩
      have hmN : m < N := by omega
      obtain ⟨j, hj⟩ : ∃ j, min W D = j + 1 := ⟨min W D - 1, by omega⟩
      have hj3 : j < 3 := by omega
      have hcp := hT.cell hj3
      rw [pw3_pow j hj3] at hcp
      have hPb := pow3_le j hj3
      have HKK : Hid (j + 1 = min W (N - k * W)) := by show _ = _; rw [← hml, hD, hj]
      have HSTk := Lib.hid (HST.out k bs (j + 1) HM.out hlt HKK.out)
      have HNOk := Lib.hid (HNO.out k (j + 1) hlt HKK.out)
      rw [hx] at HSTk HNOk
      obtain ⟨P, hP⟩ : ∃ P, 256 ^ (j + 1) = P := ⟨_, rfl⟩
      rw [hP] at HSTk HNOk hcp hPb
      obtain ⟨J, hJ⟩ : ∃ J, j + 1 = J := ⟨_, rfl⟩
      rw [hJ] at HSTk
      have hcs : (D < W ∧ J = D) ∨ (¬ D < W ∧ J = W) := by omega
      have hDi : (N : Int) - (m : Int) = (D : Int) := by omega
      have hbl := HBL.out
      have HMB : Hid (bs.length ≤ 1000000) := by show _ ≤ _; omega
      have hNm : ¬ N < m := by omega
      have hsb : (J : Int) - 1 = (j : Int) := by omega
      have hJ3 : J ≤ 3 := by omega
      subst hae
      clear hJ hj HKK hml hkN hP hx hT HST HNO HEN HCM HI HBL
      rcases hcs with ⟨hdw, rfl⟩ | ⟨hdw, rfl⟩
      all_goals
        by_cases hx0 : x < 0
        · have q1 : decide (x < 0) = true := decide_eq_true hx0
          have HR := Lib.hid (HNOk.out (.inl hx0))
          clear hx0 hD
          go_wp2
          go_ret2
          exact ⟨([], 4), rfl, HR.out, HW.out⟩
        · have q1 : decide (x < 0) = false := decide_eq_false hx0
          obtain ⟨X, rfl⟩ := Int.eq_ofNat_of_zero_le (show 0 ≤ x by omega)
          by_cases hx1 : P ≤ X
          · have HR := Lib.hid (HNOk.out (.inr (by omega)))
            have q2 : decide ((P : Int) ≤ (X : Int)) = true := decide_eq_true (by omega)
            clear hx0 hD
            go_wp2
            go_ret2
            exact ⟨([], 4), rfl, HR.out, HW.out⟩
          · have HM2 := Lib.hid (HSTk.out (by omega) (by omega))
            rw [Int.toNat_natCast] at HM2
            have q2 : decide ((P : Int) ≤ (X : Int)) = false := decide_eq_false (by omega)
            have HC := Lib.hid (bytes_any (.slice a m cap) bs X J wr B HS.out HO.out HMB.out (by omega) hJ3)
            clear hx0 hD hPb
            go_wp2_with fail
            refine HC.out.mono ?_
            rintro e w2 ⟨v2, rfl, hO2, hB2⟩
            obtain ⟨T, hT⟩ : ∃ T, bs ++ bytesN J X = T := ⟨_, rfl⟩
            rw [hT] at HM2 hO2
            obtain ⟨a2, cap2, rfl⟩ := hO2.shape
            obtain ⟨m2, hm2⟩ : ∃ m2, T.length = m2 := ⟨_, rfl⟩
            rw [hm2] at hO2 ⊢
            have HL2 := Lib.hid hm2
            have HO2 := Lib.hid hO2
            have HW2 := Lib.hid (HW.out.trans hB2)
            have HS2 : Hid (B ≤ w2.heap.size) := Nat.le_trans HS.out hB2.size
            clear hT hm2 hO2 hB2 HC HO HW HM HS
            go_wp2
            go_roundw
            case rel => exact ⟨k + 1, T, a2, m2, cap2, rfl, by go_num, by omega, HL2, HM2, HO2, HW2, HS2⟩
            case measure => simp [intOf]; omega
    · obtain rfl : k = L := by omega
      have HR := Lib.hid (HEN.out bs HM.out)
      have hconv := string_own HO.out
      obtain ⟨S, hS⟩ : ∃ S : ByteArray, (⟨bs.toArray⟩ : ByteArray) = S := ⟨_, rfl⟩
      have HSS := Lib.hid hS
      rw [hS] at hconv
      clear hS
      go_wp2
      go_ret2
      exact ⟨(bs, 0), by rw [← HSS.out]; rfl, HR.out, HW.out⟩
end Go.Proofs.YtadhmmklhhaagaaDoor
