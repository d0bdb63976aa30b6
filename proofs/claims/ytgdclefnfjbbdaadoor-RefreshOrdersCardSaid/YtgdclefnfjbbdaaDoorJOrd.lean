
/- The walk through RefreshOrders. -/
import Derived.Test.YtgdclefnfjbbdaaDoorJLsm
import Derived.Deep.RegionHeld3
namespace Go.Proofs.YtgdclefnfjbbdaaDoor
open Go.RowKit Go.Sort
open Num
set_option linter.unusedVariables false

set_option maxRecDepth 100000 in
set_option maxHeartbeats 16000000 in
theorem refreshOrders_walk (s : Value) (l : List Int) (w : World) (hw : Wheel w) (hs : Ints w s l) :
    Calls Tryd.prog 5 #[s] w fun e w' => e = .returned (.bool true) ∧ Below w.heap.size w w' := by
  have HL := Lib.hid (light_any s l w hs)
  have HAW := Lib.hid (awake8_any w hw)
  obtain ⟨g, hg⟩ : ∃ g, w.heap.size = g := ⟨_, rfl⟩
  have hd0 := dice_new hs
  have hta : 0 < g := by rw [← hg]; exact hw.size
  obtain ⟨bl, hbl⟩ : ∃ b, decide ((l.length : Int) ≤ 500) = b := ⟨_, rfl⟩
  rw [hbl] at HL
  have HR := Lib.hid (roll_any s w (by obtain ⟨a, c, h, _⟩ := hs; exact ⟨a, _, c, h⟩))
  rw [hg] at HR hd0
  rw [hg]
  have HW0 := Lib.hid (hw.below hw.size ((Below.refl w.heap.size w).alloc (Nat.le_refl _) (.cells #[s, .int .i64 0] 59)))
  have HB0 : Hid (Below g w (w.alloc (.cells #[s, .int .i64 0] 59))) := by rw [← hg]; exact (Below.refl _ _).alloc (Nat.le_refl _) _
  have HD0 := Lib.hid hd0
  clear hd0 hw hs hbl
  cases bl with
  | false =>
    go_enter Tryd.func5, Tryd.ntmps5
    go_wp2_with fail
    refine HL.out.mono ?_
    rintro e w' ⟨rfl, rfl⟩
    go_wp2_with fail
    refine HAW.out.mono ?_
    rintro e w' ⟨rfl, hb⟩
    rw [hg] at hb
    have HB := Lib.hid hb
    clear hb
    go_wp2
    go_ret
    exact ⟨rfl, HB.out⟩
  | true =>
    go_enter Tryd.func5, Tryd.ntmps5
    go_wp2_with fail
    refine HL.out.mono ?_
    rintro e w' ⟨rfl, rfl⟩
    go_wp2_with fail
    refine HR.out.mono ?_
    rintro e w1 ⟨rfl, rfl⟩
    generalize w.alloc (.cells #[s, .int .i64 0] 59) = w1 at *
    go_wp2_with fail
    refine (prime_any g s l w1 HD0.out).mono ?_
    rintro e w2 ⟨p, hprm, hp2, rfl, hd2, hb2⟩
    have HPRM := Lib.hid hprm
    have hpp : 2 ≤ p := by have := hprm.1; omega
    have HP2 := Lib.hid hp2
    have HD2 := Lib.hid hd2
    have HB2 := Lib.hid (HB0.out.trans (hb2.below (Nat.le_refl _) (Nat.le_of_lt HD0.out.size)))
    have HW2 := Lib.hid (HW0.out.below hta (hb2.below (Nat.le_refl _) (Nat.le_of_lt HD0.out.size)))
    clear hb2 hd2 hprm HD0 HB0 HW0 HL HR
    go_wp2_with fail
    refine (plan_any g s l p w2 HD2.out hpp (by omega)).mono ?_
    rintro e w3 ⟨k, n, rfl, hk1, hkn, hn7, hnp, hd3, hb3⟩
    have hplb : planB p k n = true := planB_of HPRM.out (by have := HP2.out; omega) hk1 hkn (by omega) hnp
    obtain ⟨K, hK⟩ := Int.eq_ofNat_of_zero_le (show 0 ≤ k - 1 by omega)
    obtain ⟨N, rfl⟩ := Int.eq_ofNat_of_zero_le (show 0 ≤ n by omega)
    obtain rfl : k = (K : Int) + 1 := by omega
    have HQ : Hid (Pf p K N) := ⟨HPRM.out, by have := HP2.out; omega, hplb, ⟨by omega, by omega⟩, hnp⟩
    have hb3' := hb3.below (Nat.le_refl _) (Nat.le_of_lt HD2.out.size)
    have hg3 : g < w3.heap.size := hd3.size
    have hST : StL w (w3.alloc (.cells #[.int .i64 p, .int .i64 ((K : Int) + 1), .int .i64 (N : Int)] 30)) g w3.heap.size s l p ((K : Int) + 1) (N : Int) := by
      have hal : Below w3.heap.size w3 (w3.alloc (.cells #[.int .i64 p, .int .i64 ((K : Int) + 1), .int .i64 (N : Int)] 30)) := (Below.refl _ _).alloc (Nat.le_refl _) _
      exact ⟨hd3.below hal hg3, planAt_new _ _ _ _ _, (HW2.out.below hta hb3').below (by omega) hal, (HB2.out.trans hb3').trans (hal.mono (by omega)), hg3, by simp, hta⟩
    have HST := Lib.hid hST
    clear hST hb3 hb3' hg3 hd3 HB2 HW2 HD2 hK hk1 hkn hn7 hnp hp2 hplb HPRM HP2 hpp
    unfold planV
    go_wp2_with fail
    obtain ⟨gp, hgp⟩ : ∃ gp, w3.heap.size = gp := ⟨_, rfl⟩
    rw [hgp] at HST ⊢
    generalize w3.alloc (.cells #[.int .i64 p, .int .i64 ((K : Int) + 1), .int .i64 (N : Int)] 30) = w4 at *
    clear hgp
    have HX4 : Hid (Lw w w4 g gp s l p ((K : Int) + 1) (N : Int) [] []) := ⟨HST.out, fun x hx => by simp at hx, fun x hx => by simp at hx⟩
    have c0 := HST.out.pl.c0
    have c1 := HST.out.pl.c1
    have c2 := HST.out.pl.c2
    have HDE := Lib.hid (HX4.out.dealt HQ.out 2 (by omega))
    clear HST
    go_wp2_with fail
    refine HDE.out.mono ?_
    rintro e w5 ⟨v1, v2, S, R, rfl, hS1, hS3, hSE, hX5⟩
    have HX5 := Lib.hid hX5
    have HSS : Hid (1 ≤ S.length ∧ S.length ≤ 2) := ⟨hS1, hS3⟩
    have HSE := Lib.hid hSE
    have HSVL := Lib.hid (secV_deal (K := K) (r := R) HQ.out.p1 hSE)
    have hg5 := hX5.getG (v := v1) (z := S) (by simp)
    have hn5 := hX5.getM (v := v2) (L := rowL N (dealV p K S R)) (by simp)
    obtain ⟨aS, cS, rfl⟩ := hg5.shape
    obtain ⟨aL, cL, rfl, _, _⟩ := hn5.shape
    rw [rowL_len] at HX5 ⊢
    obtain ⟨c, hc⟩ : ∃ c, S.length = c := ⟨_, rfl⟩
    have HCC := Lib.hid hc
    rw [hc] at HX5 ⊢
    obtain ⟨c0, c1, c2⟩ := HX5.out.cells
    clear hX5 hS1 hS3 hSE hg5 hn5 hc HDE HX4
    obtain ⟨Z, hZ⟩ : ∃ Z, c * K = Z := ⟨_, rfl⟩
    have HZZ := Lib.hid hZ
    have hc2 : c ≤ 2 := by rw [← HCC.out]; exact HSS.out.2
    have hzb : Z ≤ 1000000 := by
      have h1 : c * K ≤ 2 * 7 := Nat.mul_le_mul hc2 (by have := HQ.out.kn; omega)
      omega
    have HTL : Hid ((List.replicate c (0 : Int)).length = c) := by show _ = _; rw [List.length_replicate]
    clear hZ
    have HXD1 := Lib.hid HX5.out.drew
    go_wp2_with fail
    clear c0 c1 c2
    have HSK := HXD1.out.cells
    go_region_held3 (fun W' => W'.cell? ⟨gp, 0, none⟩ = some (.int .i64 p) ∧ W'.cell? ⟨gp, 1, none⟩ = some (.int .i64 ((K : Int) + 1)) ∧ W'.cell? ⟨gp, 2, none⟩ = some (.int .i64 (N : Int))) (first | go_keep | exact HSK)
      (first
        | (go_at_call 17; refine (HXD1.out.random HQ.out HZZ.out (by omega)).mono ?_; rintro e w6 ⟨rfl, hX⟩; have HX6 := Lib.hid hX; have HSK := hX.cells; clear hX)
        | (go_at_call 16; refine (HX6.out.elements HQ.out Z hzb).mono ?_; rintro e w7 ⟨vAr, RA, rfl, hrl, hre, hX⟩; have HX7 := Lib.hid hX; have HSK := hX.cells; have HRL1 := Lib.hid hrl; have HRE1 := Lib.hid hre; clear hX hrl hre)
        | (go_at_call 19; refine (HX7.out.zero HQ.out HZZ.out (by omega) (vr := vAr) (R := RA) (by simp) HRL1.out HRE1.out).mono ?_; rintro e w8 ⟨vA, rfl, hX⟩; have HX8 := Lib.hid hX; have HSK := hX.cells; clear hX))
    have HSV1 := Lib.hid (secV_deal (K := K) (r := RA) HQ.out.p1 (els_zeroL HQ.out.p1 c))
    obtain ⟨avA, cvA, rfl, _, _⟩ := (HX8.out.getM (v := vA) (L := rowL N (dealV p K (List.replicate c 0) RA)) (by simp)).shape
    rw [rowL_len] at HX8 ⊢
    obtain ⟨c0, c1, c2⟩ := HX8.out.cells
    clear HSK HX7 HX6 HXD1 HX5
    have HXD2 := Lib.hid HX8.out.drew
    go_wp2_with fail
    clear c0 c1 c2
    have HSK := HXD2.out.cells
    go_region_held3 (fun W' => W'.cell? ⟨gp, 0, none⟩ = some (.int .i64 p) ∧ W'.cell? ⟨gp, 1, none⟩ = some (.int .i64 ((K : Int) + 1)) ∧ W'.cell? ⟨gp, 2, none⟩ = some (.int .i64 (N : Int))) (first | go_keep | exact HSK)
      (first
        | (go_at_call 17; refine (HXD2.out.random HQ.out HZZ.out (by omega)).mono ?_; rintro e w9 ⟨rfl, hX⟩; have HX9 := Lib.hid hX; have HSK := hX.cells; clear hX)
        | (go_at_call 16; refine (HX9.out.elements HQ.out Z hzb).mono ?_; rintro e w10 ⟨vBr, RB, rfl, hrl, hre, hX⟩; have HX10 := Lib.hid hX; have HSK := hX.cells; have HRL2 := Lib.hid hrl; have HRE2 := Lib.hid hre; clear hX hrl hre)
        | (go_at_call 19; refine (HX10.out.zero HQ.out HZZ.out (by omega) (vr := vBr) (R := RB) (by simp) HRL2.out HRE2.out).mono ?_; rintro e w11 ⟨vB, rfl, hX⟩; have HX11 := Lib.hid hX; have HSK := hX.cells; clear hX))
    have HSV2 := Lib.hid (secV_deal (K := K) (r := RB) HQ.out.p1 (els_zeroL HQ.out.p1 c))
    obtain ⟨avB, cvB, rfl, _, _⟩ := (HX11.out.getM (v := vB) (L := rowL N (dealV p K (List.replicate c 0) RB)) (by simp)).shape
    rw [rowL_len] at HX11 ⊢
    obtain ⟨c0, c1, c2⟩ := HX11.out.cells
    clear HSK HX10 HX9 HXD2 HX8
    have HSV3 := Lib.hid (HSV1.out.add HQ.out.p1 HSV2.out rfl)
    rw [lin_zeros HQ.out.p1] at HSV3
    have HSV4 := Lib.hid (HSVL.out.add HQ.out.p1 HSV2.out (by rw [HTL.out, HCC.out]))
    have HSMR := Lib.hid (sum_two (p := p) (k := (K : Int) + 1) (n := (N : Int)) HQ.out.pl rfl HSV1.out HSV2.out rfl (by rw [HTL.out]; omega))
    have HLS := Lib.hid (lists_two (t := 23) (HX11.out.getM (v := .slice avA N cvA) (L := rowL N (dealV p K (List.replicate c 0) RA)) (by simp)).shares (HX11.out.getM (v := .slice avB N cvB) (L := rowL N (dealV p K (List.replicate c 0) RB)) (by simp)).shares rfl)
    have HX12 := Lib.hid (HX11.out.below ((Below.refl _ _).alloc (Nat.le_refl _) (.cells #[.slice avA N cvA, .slice avB N cvB] 23)))
    have HSU := Lib.hid (HX12.out.sum HQ.out HLS.out HSMR.out)
    go_wp2_with fail
    refine HSU.out.mono ?_
    rintro e w13 ⟨vC, rfl, hX⟩
    have HX13 := Lib.hid hX
    obtain ⟨avC, cvC, rfl, _, _⟩ := (hX.getM (v := vC) (L := rowL N (addV p (dealV p K (List.replicate c 0) RA) (dealV p K (List.replicate c 0) RB))) (by simp)).shape
    rw [rowL_len] at HX13 ⊢
    obtain ⟨c0, c1, c2⟩ := HX13.out.cells
    have HL4 : Hid ((linF p S (List.replicate c 0) 1).length = c) := by show _ = _; rw [linF_len', HTL.out, HCC.out]; simp
    clear hX HX12 HX11 HSU HLS HSMR
    go_wp2_with fail
    refine (HX13.out.apply HQ.out (v := .slice aL N cL) (z := .slice avC N cvC) (V := dealV p K S R) (U := addV p (dealV p K (List.replicate c 0) RA) (dealV p K (List.replicate c 0) RB)) (by simp) (by simp) HSVL.out HSV3.out (by rw [HTL.out, HCC.out]) (by rw [HCC.out]; omega)).mono ?_
    rintro e w14 ⟨vx, rfl, hX⟩
    have HX14 := Lib.hid hX
    obtain ⟨ax, cx, rfl, _, _⟩ := (hX.getM (v := vx) (L := rowL N (addV p (dealV p K S R) (addV p (dealV p K (List.replicate c 0) RA) (dealV p K (List.replicate c 0) RB)))) (by simp)).shape
    rw [rowL_len] at HX14 ⊢
    obtain ⟨c0, c1, c2⟩ := HX14.out.cells
    clear hX HX13
    go_wp2_with fail
    refine (HX14.out.apply HQ.out (v := .slice aL N cL) (z := .slice avB N cvB) (V := dealV p K S R) (U := dealV p K (List.replicate c 0) RB) (by simp) (by simp) HSVL.out HSV2.out (by rw [HTL.out, HCC.out]) (by rw [HCC.out]; omega)).mono ?_
    rintro e w15 ⟨vy, rfl, hX⟩
    have HX15 := Lib.hid hX
    obtain ⟨ay, cy, rfl, _, _⟩ := (hX.getM (v := vy) (L := rowL N (addV p (dealV p K S R) (dealV p K (List.replicate c 0) RB))) (by simp)).shape
    rw [rowL_len] at HX15 ⊢
    obtain ⟨c0, c1, c2⟩ := HX15.out.cells
    clear hX HX14
    go_wp2_with fail
    refine (HX15.out.apply HQ.out (v := .slice ay N cy) (z := .slice avA N cvA) (V := addV p (dealV p K S R) (dealV p K (List.replicate c 0) RB)) (U := dealV p K (List.replicate c 0) RA) (by simp) (by simp) HSV4.out HSV1.out (by rw [HTL.out, HL4.out]) (by rw [HL4.out]; omega)).mono ?_
    rintro e w16 ⟨vz, rfl, hX⟩
    have HX16 := Lib.hid hX
    obtain ⟨az, cz, rfl, _, _⟩ := (hX.getM (v := vz) (L := rowL N (addV p (addV p (dealV p K S R) (dealV p K (List.replicate c 0) RB)) (dealV p K (List.replicate c 0) RA))) (by simp)).shape
    rw [rowL_len] at HX16 ⊢
    obtain ⟨c0, c1, c2⟩ := HX16.out.cells
    clear hX HX15
    have HX17 := HX16
    have hord := add_orders HQ.out.p1 (dealV p K S R) (dealV p K (List.replicate c 0) RA) (dealV p K (List.replicate c 0) RB) (fun h => by rw [dealV_len, dealV_len, HTL.out, HCC.out]) (fun h => by rw [dealV_len, dealV_len, HTL.out, HCC.out])
    rw [← hord] at HX17
    clear HX16 hord
    go_wp2_with fail
    refine (HX17.out.sameS (v := .slice ax N cx) (z := .slice az N cz) (L := rowL N (addV p (dealV p K S R) (addV p (dealV p K (List.replicate c 0) RA) (dealV p K (List.replicate c 0) RB)))) (by simp) (by simp)).mono ?_
    rintro e w18 ⟨rfl, hX⟩
    have HX18 := Lib.hid hX
    obtain ⟨c0, c1, c2⟩ := hX.cells
    clear hX
    go_wp2_with fail
    refine HX18.out.awake.mono ?_
    rintro e w19 ⟨rfl, hb⟩
    have HB := Lib.hid hb
    clear hb c0 c1 c2
    go_wp2
    go_ret
    exact ⟨rfl, HB.out⟩
end Go.Proofs.YtgdclefnfjbbdaaDoor
