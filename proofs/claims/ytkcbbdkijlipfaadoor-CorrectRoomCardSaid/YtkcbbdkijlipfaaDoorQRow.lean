
/- The walk through CorrectRoom. -/
import Derived.Test.YtkcbbdkijlipfaaDoorQLid
import Derived.Test.YtkcbbdkijlipfaaDoorQBmt
import Derived.Test.YtkcbbdkijlipfaaDoorQDal
import Derived.Test.YtkcbbdkijlipfaaDoorQAwk
import Derived.Deep.RegionHeld3
namespace Go.Proofs.YtkcbbdkijlipfaaDoor
open Go.RowKit Go.Sort
open Num
set_option linter.unusedVariables false

theorem same_no (s t : Value) (l l' : List Int) (w : World) (hs : Ints w s l) (ht : Ints w t l') (hne : l.length ≠ l'.length) :
    Calls Tryd.prog 18 #[s, t] w fun e w' => e = .returned (.bool false) ∧ w = w' := by
  obtain ⟨a, c, rfl, hlen, hcell⟩ := hs
  obtain ⟨a', c', rfl, _, hcell'⟩ := ht
  clear hcell hcell'
  have h2 : ((l.length : Int) != (l'.length : Int)) = true := by simp; omega
  have h3 : ¬ (l.length : Int) = (l'.length : Int) := by omega
  go_enter Tryd.func18, Tryd.ntmps18
  go_wp2
  go_ret
  exact ⟨rfl, rfl⟩
theorem outL_many {L : List Shr} {T : Nat} (hT : T ≤ L.length) (hn : (L.map (·.1)).Nodup) (hH : ∀ j, j < T → 0 ≤ (L.getD j (0, [])).1 ∧ (L.getD j (0, [])).1 ≤ 16) : T ≤ (outL L T 17).length := by
  have h := sub_len ((L.take T).map (·.1)) (outL L T 17) (by rw [List.map_take]; exact hn.sublist (List.take_sublist _ _)) fun x hx => by
    obtain ⟨y, hy, rfl⟩ := List.mem_map.1 hx
    obtain ⟨j, hj, rfl⟩ := List.mem_iff_getElem.1 hy
    have hj2 : j < T := by rw [List.length_take] at hj; omega
    refine (outL_mem hH _).2 ⟨j, hj2, ?_⟩
    rw [sget_eq (by omega), List.getElem_take]
  simp at h; omega
set_option maxRecDepth 100000 in
set_option maxHeartbeats 16000000 in
theorem correctRoom_walk (s : Value) (l : List Int) (w : World) (hw : Wheel w) (hs : Ints w s l) :
    Calls Tryd.prog 6 #[s] w fun e w' => e = .returned (.bool true) ∧ Below w.heap.size w w' := by
  have HL := Lib.hid (light_any s l w hs)
  have HAW := Lib.hid (awake7_any w hw)
  obtain ⟨g, hg⟩ : ∃ g, w.heap.size = g := ⟨_, rfl⟩
  have hd0 := dice_new hs
  have hta : 1 < g := by rw [← hg]; exact hw.size
  obtain ⟨bl, hbl⟩ : ∃ b, decide ((l.length : Int) ≤ 500) = b := ⟨_, rfl⟩
  rw [hbl] at HL
  have HR := Lib.hid (roll_any s w (by obtain ⟨a, c, h, _⟩ := hs; exact ⟨a, _, c, h⟩))
  rw [hg] at HR hd0
  rw [hg]
  have HW0 := Lib.hid (hw.below hw.size ((Below.refl w.heap.size w).alloc (Nat.le_refl _) (.cells #[s, .int .i64 0] 57)))
  have HB0 : Hid (Below g w (w.alloc (.cells #[s, .int .i64 0] 57))) := by rw [← hg]; exact (Below.refl _ _).alloc (Nat.le_refl _) _
  have HD0 := Lib.hid hd0
  clear hd0 hw hs hbl
  cases bl with
  | false =>
    go_enter Tryd.func6, Tryd.ntmps6
    go_wp2_with fail
    refine HL.out.mono ?_
    rintro e w' ⟨rfl, rfl⟩
    go_wp2_with fail
    refine HAW.out.mono ?_
    rintro e w' ⟨rfl, hb⟩
    rw [hg] at hb
    have HB := Lib.hid hb
    clear hb
    go_wp2
    go_ret
    exact ⟨rfl, HB.out⟩
  | true =>
    go_enter Tryd.func6, Tryd.ntmps6
    go_wp2_with fail
    refine HL.out.mono ?_
    rintro e w' ⟨rfl, rfl⟩
    go_wp2_with fail
    refine HR.out.mono ?_
    rintro e w1 ⟨rfl, rfl⟩
    generalize w.alloc (.cells #[s, .int .i64 0] 57) = w1 at *
    go_wp2_with fail
    refine (prime_any g s l w1 HD0.out).mono ?_
    rintro e w2 ⟨p, hprm, hp2, rfl, hd2, hb2⟩
    have HPRM := Lib.hid hprm
    have hpp : 2 ≤ p := by have := hprm.1; omega
    have HP2 := Lib.hid hp2
    have HD2 := Lib.hid hd2
    have HB2 := Lib.hid (HB0.out.trans (hb2.below (Nat.le_refl _) (Nat.le_of_lt HD0.out.size)))
    have HW2 := Lib.hid (HW0.out.below hta (hb2.below (Nat.le_refl _) (Nat.le_of_lt HD0.out.size)))
    clear hb2 hd2 hprm HD0 HB0 HW0 HL HR
    go_wp2_with fail
    refine (plan_any g s l p w2 HD2.out hpp (by omega)).mono ?_
    rintro e w3 ⟨k, n, rfl, hk1, hkn, hn7, hnp, hd3, hb3⟩
    have HPB : Hid (planB p k n = true) := planB_of HPRM.out (by have := HP2.out; omega) hk1 hkn (by omega) hnp
    obtain ⟨K, hK⟩ := Int.eq_ofNat_of_zero_le (show 0 ≤ k - 1 by omega)
    obtain ⟨N, rfl⟩ := Int.eq_ofNat_of_zero_le (show 0 ≤ n by omega)
    obtain rfl : k = (K : Int) + 1 := by omega
    have HKN : Hid (K + 1 ≤ N ∧ N ≤ 7) := ⟨by omega, by omega⟩
    have HNP := Lib.hid hnp
    have hb3' := hb3.below (Nat.le_refl _) (Nat.le_of_lt HD2.out.size)
    have hg3 : g < w3.heap.size := hd3.size
    have hST : StL w (w3.alloc (.cells #[.int .i64 p, .int .i64 ((K : Int) + 1), .int .i64 (N : Int)] 28)) g w3.heap.size s l p ((K : Int) + 1) (N : Int) := by
      have hal : Below w3.heap.size w3 (w3.alloc (.cells #[.int .i64 p, .int .i64 ((K : Int) + 1), .int .i64 (N : Int)] 28)) := (Below.refl _ _).alloc (Nat.le_refl _) _
      exact ⟨hd3.below hal hg3, planAt_new _ _ _ _ _, (HW2.out.below hta hb3').below (by omega) hal, (HB2.out.trans hb3').trans (hal.mono (by omega)), hg3, by simp, hta⟩
    have HST := Lib.hid hST
    clear hST hb3 hb3' hg3 hd3 HB2 HW2 HD2 hK hk1 hkn hn7 hnp hp2
    unfold planV
    go_wp2_with fail
    obtain ⟨gp, hgp⟩ : ∃ gp, w3.heap.size = gp := ⟨_, rfl⟩
    rw [hgp] at HST ⊢
    generalize w3.alloc (.cells #[.int .i64 p, .int .i64 ((K : Int) + 1), .int .i64 (N : Int)] 28) = w4 at *
    clear hgp
    have hpm : p ≤ 1073741824 := by have := HP2.out; omega
    have hp1 : 1 ≤ p := by omega
    have HDE : Hid (Calls Tryd.prog 12 #[.pointer (some ⟨g, 0, none⟩), .agg #[.int .i64 p, .int .i64 ((K : Int) + 1), .int .i64 (N : Int)], .int .i64 1] w4 fun e w' => ∃ v1 v2 S R, e = .returned (.tuple #[v1, v2]) ∧ 1 ≤ S.length ∧ S.length ≤ 1 ∧ Els p S ∧ Gath w' w4.heap.size v1 S ∧ SharesN w' w4.heap.size v2 (dealF p K N S R) ∧ DiceAt w' g s l ∧ But g w4 w') :=
      dealt_all g s l p K N 1 w4 HST.out.di HPRM.out hpm HPB.out HKN.out ⟨by omega, by omega⟩
    have c0 := HST.out.pl.c0
    have c1 := HST.out.pl.c1
    have c2 := HST.out.pl.c2
    go_wp2_with fail
    refine HDE.out.mono ?_
    rintro e w5 ⟨v5, v6, S, R, rfl, hS1, hS3, hSE, hSG, hSN, hd5, hb5⟩
    have HG4 : Hid (g < w4.heap.size) := Nat.lt_trans HST.out.lt HST.out.sz
    have HS5 := Lib.hid (HST.out.but hb5 hd5)
    have HSS : Hid (1 ≤ S.length ∧ S.length ≤ 1) := ⟨hS1, hS3⟩
    have HSE := Lib.hid hSE
    have HSG := Lib.hid (hSG.mono HG4.out)
    have HSN := Lib.hid (hSN.mono HG4.out)
    have HON := Lib.hid (dealF_on p K N S R)
    have HGD := Lib.hid (dealF_gd hp1 K N S R)
    obtain ⟨a5, c5, rfl⟩ := HSG.out.shape
    obtain ⟨a6, c6, rfl, hc6, hc6b⟩ := HSN.out.shape
    rw [dealF_len] at HSN hc6 ⊢
    obtain ⟨L, hL⟩ : ∃ L, dealF p K N S R = L := ⟨_, rfl⟩
    rw [hL] at HSN HON HGD
    have hl2 : L.length = N := by rw [← hL, dealF_len]
    have HGL := HGD
    have HOL := HON
    have HLL := Lib.hid hl2
    have HN6 := HSN
    have HS6 := HS5
    have HSG6 := HSG
    obtain ⟨m2, hm2⟩ : ∃ m2, m2 = N := ⟨_, rfl⟩
    have HM2 : Hid (K + 1 ≤ N ∧ N ≤ 7) := HKN.out
    clear hm2 hb5 hd5 hSE hSG hSN hS1 hS3 HDE HST hl2 hL HSN HS5 HSG HON HGD
    obtain ⟨rm, hrm⟩ : ∃ rm : Nat, roomV ((K : Int) + 1) (N : Int) = (rm : Int) := ⟨(N - (K + 1)) / 2, by have h := HM2.out; unfold roomV; rw [if_neg (by omega)]; omega⟩
    have HRM : Hid (rm = (N - (K + 1)) / 2) := by have h := HM2.out; show _ = _; unfold roomV at hrm; rw [if_neg (by omega)] at hrm; omega
    have HRO := Lib.hid (room_any p ((K : Int) + 1) (N : Int) (N : Int) w5 (by omega) (wf64 (by omega) (by have := HKN.out; omega)) (wf64 (by omega) (by have := HM2.out; omega)))
    rw [hrm] at HRO
    unfold planV at HRO
    have c0 := HS6.out.pl.c0
    have c1 := HS6.out.pl.c1
    have c2 := HS6.out.pl.c2
    clear hrm
    go_wp2_with fail
    refine HRO.out.mono ?_
    rintro e w7 ⟨rfl, hb7⟩
    have HS7 := Lib.hid (HS6.out.below hb7)
    have HSG7 := Lib.hid (HSG6.out.kept hb7 (Nat.le_refl _))
    have HN7 := Lib.hid (HN6.out.below hb7 (Nat.le_refl _))
    have hr0 : ¬ (rm : Int) < 0 := by omega
    have hr1 : (rm : Int) < (N : Int) := by have := HRM.out; have := HM2.out; omega
    have hwr : IntKind.i64.wrap ((rm : Int) + 1) = (rm : Int) + 1 := by rw [IntKind.wrap_i64]; have := HM2.out; omega
    have c0 := HS7.out.pl.c0
    clear hb7 HRO HS6 HSG6 HN6 c1 c2
    have HLI := Lib.hid (lie_any g s l p (rm + 1) S.length (.slice a6 N c6) L w7 HS7.out.di hpp hpm HN7.out.shares HSS.out.1 (by have := HSS.out; omega) HGL.out.len HGL.out.els (fun x hx => by have := HGL.out.hold x hx; have := HKN.out; omega) (by rw [HLL.out]; omega) (by rw [HLL.out]; have := HM2.out; omega) (by rw [HLL.out]; have := HM2.out; omega))
    rw [show ((rm + 1 : Nat) : Int) = (rm : Int) + 1 by push_cast; rfl] at HLI
    go_wp2_with fail
    refine HLI.out.mono ?_
    rintro e w9 ⟨v9, o9, L', rfl, hn9, ho9, hlp, hd, hb⟩
    have HS9 := Lib.hid (HS7.out.but hb hd)
    have HN9 := Lib.hid hn9.shares
    have HO9 := Lib.hid ho9
    have HLP := Lib.hid hlp
    clear hd hb hn9 ho9 hlp hwr c0 HLI
    have HGL' := Lib.hid (lie_gd HLP.out HGL.out)
    have hll' : L'.length = N := by rw [HLP.out.len, HLL.out]
    have HLL' := Lib.hid hll'
    have hsz0 : (L'.getD 0 (0, [])).2.length = S.length := HLP.out.size 0 (by rw [HLL.out]; have := HM2.out; omega)
    have HROB := Lib.hid (robust_ok p (K + 1) N v9 L' w9 HS9.out.wh (wf_small hp1 hpm) (by have := HPB.out; rw [show ((K + 1 : Nat) : Int) = (K : Int) + 1 by push_cast; rfl]; exact this) (goodB_of_gd HPRM.out hpm HGL'.out (by have := HSS.out; omega)) (by rw [hll']; exact HM2.out.1) HN9.out)
    rw [hsz0, show ((K + 1 : Nat) : Int) = (K : Int) + 1 by push_cast; rfl] at HROB
    unfold planV at HROB
    have c0 := HS9.out.pl.c0
    have c1 := HS9.out.pl.c1
    have c2 := HS9.out.pl.c2
    have HOM : Hid (rm < (outL L (rm + 1) 17).length) := outL_many (T := rm + 1) (by rw [HLL.out]; omega) HGL.out.one (fun j hj => by
      have := HGL.out.hold _ (sget (show j < L.length by rw [HLL.out]; omega))
      have := HKN.out
      omega)
    clear hsz0 HS7 HN7 HSG7
    go_wp2_with fail
    refine HROB.out.mono ?_
    rintro e w10 ⟨v10, v11, S2, W2, c, rfl, hrr, hi10, hi11, hb10⟩
    have HS10 := Lib.hid (HS9.out.below hb10)
    have HAWE := Lib.hid (awake7_any w10 HS10.out.wh)
    have HRR := Lib.hid hrr
    have HI11 := Lib.hid hi11
    have HO10 := Lib.hid (HO9.out.below (Nat.le_refl _) hb10)
    obtain ⟨a10, d10, rfl⟩ := hi10.shape
    obtain ⟨a11, d11, rfl⟩ := hi11.shape
    have hcode := hrr.code
    clear hrr hi10 hi11 hb10 c0 c1 c2 HROB HS9 HO9
    rcases hcode with rfl | rfl
    · obtain ⟨q1, q2, q3, _⟩ := HRR.out.ok rfl
      rw [hll', ← HRM.out] at q3
      have hlw : W2.length ≠ (outL L (rm + 1) 17).length := by have := HOM.out; omega
      have HSM := Lib.hid (same_no _ _ _ _ w10 HI11.out HO10.out hlw)
      obtain ⟨lw, hlw2⟩ : ∃ n, W2.length = n := ⟨_, rfl⟩
      rw [hlw2] at q3 HSM ⊢
      rw [q1]
      obtain ⟨ls, hls⟩ : ∃ n, S.length = n := ⟨_, rfl⟩
      rw [hls]
      have q4 : (lw : Int) ≤ (rm : Int) := by omega
      clear hlw q1 hlw2 hls
      go_wp2_with fail
      refine HSM.out.mono ?_
      rintro e w11 ⟨rfl, rfl⟩
      go_wp2_with fail
      refine HAWE.out.mono ?_
      rintro e w13 ⟨rfl, hb13⟩
      have HBF := Lib.hid (HS10.out.be.trans (hb13.mono (Nat.le_of_lt (Nat.lt_trans HS10.out.lt HS10.out.sz))))
      clear hb13
      go_wp2_with fail
      go_ret
      exact ⟨rfl, HBF.out⟩
    · obtain ⟨rfl, rfl, _⟩ := HRR.out.no (by omega)
      go_wp2_with fail
      refine HAWE.out.mono ?_
      rintro e w13 ⟨rfl, hb13⟩
      have HBF := Lib.hid (HS10.out.be.trans (hb13.mono (Nat.le_of_lt (Nat.lt_trans HS10.out.lt HS10.out.sz))))
      clear hb13
      go_wp2_with fail
      go_ret
      exact ⟨rfl, HBF.out⟩
end Go.Proofs.YtkcbbdkijlipfaaDoor
