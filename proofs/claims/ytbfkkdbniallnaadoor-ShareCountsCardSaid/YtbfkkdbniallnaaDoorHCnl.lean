
/- The walk through ShareCounts. -/
import Derived.Test.YtbfkkdbniallnaaDoorHCnt
namespace Go.Proofs.YtbfkkdbniallnaaDoor
open Go.RowKit Go.Sort
open Num
set_option linter.unusedVariables false

set_option maxRecDepth 100000 in
set_option maxHeartbeats 8000000 in
theorem shareCounts_walk (a b c d : Nat) (w : World) (hw : Wheel w) (ha : a < 256) (hb : b < 256) (hc : c < 256) (hd : d < 256) :
    Calls Tryd.prog 8 #[.int .u8 a, .int .u8 b, .int .u8 c, .int .u8 d] w fun e w' => e = .returned (.bool true) ∧ Below w.heap.size w w' := by
  obtain ⟨g, hg⟩ : ∃ g, w.heap.size = g := ⟨_, rfl⟩
  have hta : 0 < g := by rw [← hg]; exact hw.size
  rw [hg]
  obtain ⟨H, hH, hH1, hH4⟩ : ∃ H : Nat, 1 + (a : Int) % 4 = (H : Int) ∧ 1 ≤ H ∧ H ≤ 4 := ⟨1 + a % 4, by omega, by omega, by omega⟩
  obtain ⟨K1, hK1, hK1a, hK1b, hK1c⟩ : ∃ K1 : Nat, wrap64 (1 + (b : Int) % (if (H : Int) < 3 then (H : Int) else 3)) = (K1 : Int) ∧ 1 ≤ K1 ∧ K1 ≤ 3 ∧ K1 ≤ H := by
    by_cases h3 : (H : Int) < 3
    · rw [if_pos h3]
      have h4 := Int.emod_nonneg (b : Int) (show (H : Int) ≠ 0 by omega)
      have h5 := Int.emod_lt_of_pos (b : Int) (show (0 : Int) < (H : Int) by omega)
      obtain ⟨r, hr⟩ := Int.eq_ofNat_of_zero_le h4
      rw [hr] at h5 ⊢
      refine ⟨1 + r, ?_, by omega, by omega, by omega⟩
      unfold wrap64
      omega
    · rw [if_neg h3]
      refine ⟨1 + b % 3, ?_, by omega, by omega, by omega⟩
      unfold wrap64
      omega
  obtain ⟨s0, hs0, hs0b⟩ : ∃ s0 : Nat, (c : Int) % 5 = (s0 : Int) ∧ s0 < 5 := ⟨c % 5, by omega, by omega⟩
  obtain ⟨s1, hs1, hs1b⟩ : ∃ s1 : Nat, (d : Int) % 5 = (s1 : Int) ∧ s1 < 5 := ⟨d % 5, by omega, by omega⟩
  have HH := Lib.hid hH
  have HK := Lib.hid hK1
  have HS0 := Lib.hid hs0
  have HS1 := Lib.hid hs1
  clear hH hK1 hs0 hs1
  go_enter Tryd.func8, Tryd.ntmps8
  go_upto_region 5 with fail
  simp only [HH.out, HS0.out, HS1.out]
  simp only [HK.out]
  obtain ⟨q1, hq1⟩ : ∃ q : Int, (if (H : Int) < 3 then (H : Int) else 3) = q := ⟨_, rfl⟩
  simp only [hq1]
  obtain ⟨K, hKK⟩ : ∃ K, K1 = K + 1 := ⟨K1 - 1, by omega⟩
  have HKK := Lib.hid hKK
  have hK3 : K < 3 := by omega
  have hKH : K < H := by omega
  have HPB : Hid (planB 5 (K1 : Int) (H : Int) = true) := planB_of prm_5 (by omega) (by omega) (by omega) (by omega) (by omega)
  obtain ⟨W1, hW1⟩ : ∃ W1, w.alloc (Obj.cells #[Value.int IntKind.i64 5, Value.int IntKind.i64 (K1 : Int), Value.int IntKind.i64 (H : Int)] 24) = W1 := ⟨_, rfl⟩
  obtain ⟨W2, hW2⟩ : ∃ W2, W1.alloc (Obj.cells Tryd.zeroCells64 64) = W2 := ⟨_, rfl⟩
  have hz1 : W1.heap.size = g + 1 := by rw [← hW1]; simp [hg]
  have hz2 : W2.heap.size = g + 1 + 1 := by rw [← hW2]; simp [hz1]
  have hb1 : Below g w W1 := by rw [← hW1, ← hg]; exact (Below.refl _ _).alloc (Nat.le_refl _) _
  have hb2 : Below (g + 1) W1 W2 := by rw [← hW2, ← hz1]; exact (Below.refl _ _).alloc (Nat.le_refl _) _
  have hp2 : PlanAt W2 g 5 (K1 : Int) (H : Int) := by
    have h := planAt_new w 5 (K1 : Int) (H : Int) 24
    rw [hW1, hg] at h
    exact h.below (Nat.lt_succ_self g) hb2
  have hr2 : W2.rowIs (g + 1) 64 1250 (fun i => .int .i64 (cf K s0 s1 0 0 i)) := by
    have h := ct_row W1 K s0 s1
    rw [hW2, hz1] at h
    exact h
  have hbw : Below g w W2 := hb1.trans (hb2.mono (Nat.le_succ g))
  have hww : Wheel W2 := hw.below hta hbw
  have HC3 : Hid (CtW w (W2.alloc (.cells #[.int .i64 (s0 : Int), .int .i64 (s1 : Int)] 3)) g K1 H s0 s1 (cf K s0 s1 0 0)) := by
    have hal : Below W2.heap.size W2 (W2.alloc (.cells #[.int .i64 (s0 : Int), .int .i64 (s1 : Int)] 3)) := (Below.refl _ _).alloc (Nat.le_refl _) _
    refine ⟨hp2.below (by omega) hal, hr2.alloc _, ⟨3, ?_⟩, hbw.trans (hal.mono (by omega)), hww.below (by omega) hal, by simp [hz2], hta⟩
    have h := heap_alloc_new W2 (.cells #[.int .i64 (s0 : Int), .int .i64 (s1 : Int)] 3)
    rw [hz2] at h
    exact h
  have c1 := hp2.c1
  have hw1 : IntKind.i64.wrap ((K1 : Int) - 1) = (K : Int) := by rw [IntKind.wrap_i64]; omega
  have HZ2 := Lib.hid hz2
  rw [hW1, hW2]
  clear hW1 hW2 hz1 hb1 hb2 hp2 hr2 hbw hww hq1 hw hKK hz2
  go_wp2_with fail
  go_loop [13, 48] (fun t i => ∃ k : Nat, k ≤ K ∧ i = .int .i64 k ∧ t = .int .i64 ((5 ^ k : Nat) : Int)) (fun _ i => K - (intOf i).toNat)
  case atStart => exact ⟨0, Nat.zero_le _, rfl, rfl⟩
  case round =>
    obtain ⟨k, hk, rfl, rfl⟩ := hrel
    have hTb : 5 ^ k ≤ 25 := by
      have : k = 0 ∨ k = 1 ∨ k = 2 := by omega
      rcases this with rfl | rfl | rfl <;> decide
    have hT1 : (((5 ^ k : Nat) : Int)) * 5 = ((5 ^ (k + 1) : Nat) : Int) := by rw [Nat.pow_succ]; push_cast; rfl
    obtain ⟨T, hT⟩ : ∃ T, 5 ^ k = T := ⟨_, rfl⟩
    rw [hT] at hTb hT1 ⊢
    have HT1 := Lib.hid hT1
    have HTK := Lib.hid hT
    clear hT hT1
    by_cases hlt : k < K
    · go_wp2_with fail
      go_round
      case rel => exact ⟨k + 1, by omega, by go_num, by rw [HT1.out]⟩
      case measure => simp [intOf]; omega
    · obtain rfl : k = K := by omega
      go_wp2_with fail
      have hslc : (W2.alloc (.cells #[.int .i64 (s0 : Int), .int .i64 (s1 : Int)] 3)).heap.size = g + 3 := by have := HZ2.out; simp; omega
      have HZ3 := Lib.hid hslc
      have HBE : Hid (W2.heap.size = g + 2) := HZ2.out
      rw [HBE.out]
      clear hslc c1
      generalize W2.alloc (.cells #[.int .i64 (s0 : Int), .int .i64 (s1 : Int)] 3) = W3 at *
      have HQ0 := HC3
      go_loopw [14, 15, 16, 17, 18, 19, 20, 21, 22, 24, 57] (fun _ _ _ _ _ _ _ _ _ _ i wr => ∃ r : Nat, r ≤ 2 ∧ i = .int .i64 r ∧ Hid (CtW w wr g K1 H s0 s1 (cf k s0 s1 r 0))) (fun _ _ _ _ _ _ _ _ _ _ i _ => 2 - (intOf i).toNat)
      case atStart => exact ⟨0, by omega, rfl, HQ0⟩
      case round =>
        obtain ⟨r, hr, rfl, HC⟩ := hrel
        by_cases hlt2 : r < 2
        · obtain ⟨sW, hsW⟩ : ∃ sW, selN s0 s1 r = sW := ⟨_, rfl⟩
          have hsb : sW < 5 := by rw [← hsW]; unfold selN; split <;> assumption
          have hcell : wr.cell? ⟨g + 2, r, none⟩ = some (.int .i64 (sW : Int)) := by
            obtain ⟨t, hs⟩ := HC.out.ss
            have : r = 0 ∨ r = 1 := by omega
            rcases this with rfl | rfl
            · simp only [World.cell?, hs, ← hsW]; rfl
            · simp only [World.cell?, hs, ← hsW]; rfl
          have HSW := Lib.hid hsW
          clear hsW
          obtain ⟨wo, hwo⟩ : ∃ wo, wo = wr := ⟨_, rfl⟩
          subst hwo
          have hd2 : decide (r < 2) = true := decide_eq_true hlt2
          have hd2' : decide ((r : Int) < 2) = true := decide_eq_true (by omega)
          go_wp2_with fail
          clear hcell
          go_loopw [16, 17, 18, 19, 20, 21, 22, 24, 63] (fun _ _ _ _ _ _ _ _ i wr => ∃ n : Nat, n ≤ T ∧ i = .int .i64 n ∧ Hid (CtW w wr g K1 H s0 s1 (cf k s0 s1 r n))) (fun _ _ _ _ _ _ _ _ i _ => T - (intOf i).toNat)
          case atStart => exact ⟨0, Nat.zero_le _, rfl, HC⟩
          case round =>
            clear HC
            obtain ⟨n, hn, rfl, HC⟩ := hrel
            by_cases hlt3 : n < T
            · obtain ⟨wo, hwo⟩ : ∃ wo, wo = wr := ⟨_, rfl⟩
              subst hwo
              have hd3 : decide (n < T) = true := decide_eq_true hlt3
              have hd3' : decide ((n : Int) < (T : Int)) = true := decide_eq_true (by omega)
              have HG0 : Hid (Gath wo (g + 3) (.slice none 0 0) (dg n 0)) := gath_nil _ _
              have hdiv0 : n = n / 5 ^ 0 := by simp
              have hz3 : g + 2 < wo.heap.size := HC.out.sz
              have HZO := Lib.hid hz3
              have hn25 : n ≤ 25 := by omega
              have HDV0 := Lib.hid hdiv0
              clear hdiv0 hz3
              go_wp2_with fail
              go_loopw [17, 18, 19] (fun v x m wr => ∃ (j M : Nat), j ≤ k ∧ M ≤ 25 ∧ x = .int .i64 j ∧ m = .int .i64 M ∧ Hid (M = n / 5 ^ j) ∧ Hid (Gath wr (g + 3) v (dg n j)) ∧ Hid (CtW w wr g K1 H s0 s1 (cf k s0 s1 r n))) (fun _ x _ _ => k - (intOf x).toNat)
              case atStart => exact ⟨0, n, Nat.zero_le _, hn25, rfl, rfl, HDV0, HG0, HC⟩
              case round =>
                clear HC
                obtain ⟨j, M, hj, hM, rfl, rfl, HMD, HG, HC⟩ := hrel
                have c1 := HC.out.pl.c1
                by_cases hlt4 : j < k
                · have HDN : Hid (dg n j ++ [(M : Int) % 5] = dg n (j + 1)) := by
                    show _ = _
                    rw [← dg_succ, HMD.out]
                    congr 2
                  have HMN : Hid (M / 5 = n / 5 ^ (j + 1)) := by show _ = _; rw [HMD.out, Nat.div_div_eq_div_mul, Nat.pow_succ]
                  have HM5 : Hid ((M : Int) / 5 = ((M / 5 : Nat) : Int)) := by show _ = _; omega
                  go_wp2_with (at_builtin; refine append_one _ rfl _ _ rfl (g + 3) u17 (dg n j) ((M : Int) % 5) rfl (HG.out.alloc _) ⟨wr.heap.size, 0, none⟩ rfl ?c1 ?c2 ?c3 ?_)
                  case c1 => rw [cell_new]; rfl
                  case c2 => rw [dg_len]; omega
                  case c3 => have := HC.out.sz; simp; omega
                  intro v6 w6 hown6 hgr6
                  rw [HDN.out] at hown6
                  have HG6 := Lib.hid hown6
                  have hb6 : Below wr.heap.size wr w6 ∨ True := .inr trivial
                  have hbb : Below (g + 3) wr w6 := ((Below.refl _ _).alloc (by have := HC.out.sz; omega) _).grown hgr6 (by have := HC.out.sz; simp; omega) (fun q hq => (World.ownsRow.lt HG.out q hq).1)
                  have HC6 : Hid (CtW w w6 g K1 H s0 s1 (cf k s0 s1 r n)) := by
                    obtain ⟨h1, h2, ⟨t, h3⟩, h4, h5, h6, h7⟩ := HC.out
                    exact ⟨h1.below (by omega) hbb, h2.of_block (hbb.block _ (by omega)), ⟨t, by rw [hbb.block _ (by omega)]; exact h3⟩, h4.trans (hbb.mono (by omega)), h5.below (by omega) hbb, Nat.lt_of_lt_of_le h6 hbb.size, h7⟩
                  clear hown6 hgr6 hbb hb6 HG HC c1
                  go_wp2_with fail
                  go_roundw
                  case rel => exact ⟨j + 1, M / 5, by omega, by omega, by go_num, by rw [HM5.out], HMN, HG6, HC6⟩
                  case measure => simp [intOf]; omega
                · obtain rfl : j = k := by omega
                  obtain ⟨av, cv, rfl⟩ := HG.out.shape
                  have HGS := Lib.hid (HG.out.slc (by rw [dg_len]; omega))
                  rw [dg_len] at HGS ⊢
                  have hal : Below wr.heap.size wr (wr.alloc (.cells #[.int .i64 (sW : Int)] 3)) := (Below.refl _ _).alloc (Nat.le_refl _) _
                  have HCA := Lib.hid (HC.out.below hal)
                  have hD := sh.deal 5 (K1 : Int) (H : Int) (.slice (some ⟨wr.heap.size, 0, none⟩) 1 1) (.slice av j cv) [(sW : Int)] (dg n j) (wr.alloc (.cells #[.int .i64 (sW : Int)] 3)) HCA.out.wh (by decide) (slc_lit wr (sW : Int)) (HGS.out.below (Nat.le_refl _) hal) (by simp) (by rw [dg_len]; omega)
                  have hok := deal_ok_of (K := j) (N := H) (s := [(sW : Int)]) (r := dg n j) HPB.out (by have := HKK.out; omega) rfl (fun x hx => by simp at hx; subst hx; exact ⟨by omega, by omega⟩) (dg_els n j) (by rw [dg_len]; simp)
                  rw [hok.1, hok.2] at hD
                  unfold planV at hD
                  have HD := Lib.hid hD
                  have c0 := HC.out.pl.c0
                  have c1 := HC.out.pl.c1
                  have c2 := HC.out.pl.c2
                  clear hal hD hok HG
                  go_wp2_with fail
                  refine HD.out.mono ?_
                  rintro e w5 ⟨v5, rfl, hn5, hb5⟩
                  have HC5 := Lib.hid (HCA.out.below hb5)
                  have HN5 := Lib.hid hn5.shares
                  obtain ⟨a5, c5, rfl, hc5, _⟩ := hn5.shape
                  rw [dealF_len] at hc5 HN5 ⊢
                  have n1 : ((H : Int) != (H : Int)) = false := by simp
                  obtain ⟨b5, o5, v0, rfl, _, _, _⟩ := HN5.out.at (i := 0) (by omega)
                  have y1 : (j : Int) ≤ (c5 : Int) := by omega
                  have y2 : j ≤ c5 := by omega
                  have c1 := HC5.out.pl.c1
                  have c2 := HC5.out.pl.c2
                  have HW0 : Hid (Below w5.heap.size w5 w5) := Below.refl _ _
                  clear hn5 hb5 HD HCA HC c0
                  go_wp2_with fail
                  clear c1 c2 n1
                  go_loopw [22, 24, 104] (fun v _ i wr => ∃ q V : Nat, q ≤ j ∧ V < 625 ∧ i = .int .i64 q ∧ v = .int .i64 V ∧ Hid (V = vw j sW n q) ∧ Hid (Below w5.heap.size w5 wr)) (fun _ _ i _ => j - (intOf i).toNat)
                  case atStart => exact ⟨0, 0, Nat.zero_le _, by omega, rfl, rfl, rfl, HW0⟩
                  case round =>
                    obtain ⟨q, V, hq, hV, rfl, rfl, HV, HW⟩ := hrel
                    by_cases hlt5 : q < j
                    · obtain ⟨b6, o6, v6, he, k0, k1, hi6⟩ := (HN5.out.below (Nat.le_refl _) HW.out).at (i := q) (by omega)
                      simp only [Option.some.injEq, Addr.mk.injEq, and_true] at he
                      obtain ⟨rfl, rfl⟩ := he
                      rw [dealF_get (by omega)] at k0 hi6
                      simp only at k0 hi6
                      have hdv : dealV 5 j [(sW : Int)] (dg n j) ((q + 1 : Nat) : Int) = [E ((sW : Int) :: dg n j) ((q + 1 : Nat) : Int) % 5] := by
                        unfold dealV polyL
                        simp only [List.length_singleton, List.range_one, List.map_cons, List.map_nil, Nat.zero_mul, List.drop_zero]
                        rw [List.take_of_length_le (by rw [dg_len]; exact Nat.le_refl _)]
                        rfl
                      rw [hdv] at hi6
                      obtain ⟨Y, hY⟩ := Int.eq_ofNat_of_zero_le (Int.emod_nonneg (E ((sW : Int) :: dg n j) ((q + 1 : Nat) : Int)) (show (5 : Int) ≠ 0 by omega))
                      have hY5 : Y < 5 := by have := Int.emod_lt_of_pos (E ((sW : Int) :: dg n j) ((q + 1 : Nat) : Int)) (show (0 : Int) < 5 by omega); omega
                      rw [hY] at hi6
                      obtain ⟨va6, vc6, rfl⟩ := hi6.shape
                      obtain ⟨b7, o7, rfl, hc7⟩ := hi6.pos (k := 0) (by simp)
                      rw [Nat.add_zero] at hc7
                      have hc7 : wr.cell? ⟨b7, o7, none⟩ = some (.int .i64 (Y : Int)) := hc7
                      have HVN : Hid (5 * V + Y = vw j sW n (q + 1)) := by
                        show _ = _
                        rw [HV.out]
                        show _ = 5 * vw j sW n q + (E ((sW : Int) :: dg n j) ((q + 1 : Nat) : Int) % 5).toNat
                        rw [hY]; rfl
                      have hVB : 5 * V + Y < 625 := by rw [HVN.out]; exact vw_small j hK3 sW hsb n (by rw [HTK.out]; exact hlt3) (q + 1) (by omega)
                      obtain ⟨J, hJ⟩ : ∃ J : Nat, q + 1 = J := ⟨_, rfl⟩
                      rw [hJ] at k0
                      have hal : Below wr.heap.size wr (wr.alloc (.cells #[.int .i64 (J : Int), .slice (some ⟨b7, o7, none⟩) 1 vc6] 55)) := (Below.refl _ _).alloc (Nat.le_refl _) _
                      have hcA := hal.cell (p := ⟨b7, o7, none⟩) (cell_lt hc7)
                      rw [hc7] at hcA
                      have HWA : Hid (Below w5.heap.size w5 (wr.alloc (.cells #[.int .i64 (J : Int), .slice (some ⟨b7, o7, none⟩) 1 vc6] 55))) := HW.out.trans (hal.mono HW.out.size)
                      obtain ⟨s6, s7⟩ := cells_new2 wr (.int .i64 (J : Int)) (.slice (some ⟨b7, o7, none⟩) 1 vc6) 55 wr.heap.size rfl
                      have hYm : (Y : Int) % 5 = (Y : Int) := by omega
                      have HMO := Lib.hid (mod_any (Y : Int) 5 (wr.alloc (.cells #[.int .i64 (J : Int), .slice (some ⟨b7, o7, none⟩) 1 vc6] 55)) (by omega) (by omega))
                      rw [hYm] at HMO
                      have hV5 : IntKind.i64.wrap (5 * (V : Int)) = 5 * (V : Int) := by rw [IntKind.wrap_i64]; omega
                      have hV6 : IntKind.i64.wrap (5 * (V : Int) + (Y : Int)) = ((5 * V + Y : Nat) : Int) := by rw [IntKind.wrap_i64]; omega
                      have HJJ := Lib.hid hJ
                      clear hi6 hdv hY hJ hal hYm hc7 HW
                      go_wp2_with fail
                      refine HMO.out.mono ?_
                      rintro e w7 ⟨rfl, rfl⟩
                      go_wp2_with fail
                      go_roundw
                      case rel => exact ⟨q + 1, 5 * V + Y, by omega, hVB, by go_num, rfl, HVN, HWA⟩
                      case measure => simp [intOf]; omega
                    · obtain rfl : q = j := by omega
                      have hcw := HC5.out.below HW.out
                      have hcell := hcw.row.cell (i := r * 625 + V) (by omega)
                      have hfr := hcw.row.frozen (r * 625 + V)
                      obtain ⟨X, hX⟩ : ∃ X : Nat, cf q s0 s1 r n (r * 625 + V) = (X : Int) := ⟨_, cf_at HSW.out hV⟩
                      rw [hX] at hcell
                      have hXb : X ≤ 25 := by
                        have h1 := cf_at (K := q) (n := n) HSW.out hV
                        rw [hX] at h1
                        have h2 : cnt q sW n V ≤ n := by
                          unfold cnt
                          have := List.length_filter_le (fun m => vw q sW m q == V) (List.range n)
                          rw [List.length_range] at this
                          exact this
                        omega
                      have HCN : Hid (CtW w (wr.setCell ⟨g + 1, r * 625 + V, none⟩ (.int .i64 ((X : Int) + 1))) g K1 H s0 s1 (cf q s0 s1 r (n + 1))) := hcw.set _ _ fun jj _ => by
                        rw [cf_step HSW.out (by rw [← HV.out]; exact hV), ← HV.out]
                        by_cases e : jj = r * 625 + V
                        · rw [if_pos e, if_pos e, e, hX]
                        · rw [if_neg e, if_neg e]
                      have HXX := Lib.hid hX
                      have hVi : (V : Int) < 625 := by omega
                      have hri : (r : Int) < 2 := by omega
                      clear hd2' hd3'
                      have hwX : IntKind.i64.wrap ((X : Int) + 1) = (X : Int) + 1 := by rw [IntKind.wrap_i64]; omega
                      have HCD := Lib.hid (HCN.out.below ((Below.refl _ _).drew))
                      clear hcw hX
                      go_wp2_with fail
                      apply region_oneW (fun W => Hid (CtW w W g K1 H s0 s1 (cf q s0 s1 r (n + 1))))
                      case hr =>
                        refine wp_region_noPanic ?_
                        go_region_law (fail)
                        all_goals
                          refine NoPanic.normal ?_
                          exact ⟨rfl, rfl, HCD⟩
                      rintro W HCW
                      clear hcell hfr HCN HCD hwX
                      go_wp2_with fail
                      go_roundw
                      case rel => exact ⟨n + 1, by omega, by go_num, HCW⟩
                      case measure => simp [intOf]; omega
            · obtain rfl : n = T := by omega
              have HCN : Hid (CtW w wr g K1 H s0 s1 (cf k s0 s1 (r + 1) 0)) := HC.out.congr fun j => by rw [← HTK.out]; exact cf_next k s0 s1 r j
              go_wp2_with fail
              go_roundw
              case rel => exact ⟨r + 1, by omega, by go_num, HCN⟩
              case measure => simp [intOf]; omega
        · obtain rfl : r = 2 := by omega
          have HR := Lib.hid HC.out.row
          have HEN : Hid (∀ q v, q < 2 → v < T → cf k s0 s1 2 0 (q * 625 + v) = 1) := fun q v hq hv => cf_end hK3 hs0b hs1b hq (by rw [HTK.out]; exact hv)
          have HAW := Lib.hid (awake6_any sh wr HC.out.wh)
          have HBF0 := Lib.hid HC.out.be
          have HSZ := Lib.hid HC.out.sz
          go_wp2_with fail
          go_loop [25, 132] (fun _ i => ∃ v : Nat, v ≤ T ∧ i = .int .i64 v) (fun _ i => T - (intOf i).toNat)
          case atStart => exact ⟨0, Nat.zero_le _, rfl⟩
          case round =>
            obtain ⟨v, hv, rfl⟩ := hrel
            by_cases hlt3 : v < T
            · have e0 := HR.out.cell (i := v) (by omega)
              have e1 := HR.out.cell (i := 625 + v) (by omega)
              have q0 := HEN.out 0 v (by omega) hlt3
              have q1' := HEN.out 1 v (by omega) hlt3
              rw [Nat.zero_mul, Nat.zero_add] at q0
              rw [Nat.one_mul] at q1'
              rw [q0] at e0
              rw [q1'] at e1
              clear q0 q1'
              have hv625 : v < 625 := by omega
              go_wp2_with fail
              go_round
              case rel => exact ⟨v + 1, by omega, by go_num⟩
              case measure => simp [intOf]; omega
            · obtain rfl : v = T := by omega
              go_wp2_with fail
              refine HAW.out.mono ?_
              rintro e w9 ⟨rfl, hb9⟩
              have HBF : Hid (Below g w w9) := HBF0.out.trans (hb9.mono (by have := HSZ.out; omega))
              clear hb9
              go_wp2
              go_ret
              exact ⟨rfl, HBF.out⟩
end Go.Proofs.YtbfkkdbniallnaaDoor
