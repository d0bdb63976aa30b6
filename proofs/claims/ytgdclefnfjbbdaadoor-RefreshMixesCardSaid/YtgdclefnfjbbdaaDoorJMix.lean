
/- The walk through RefreshMixes. -/
import Derived.Test.YtgdclefnfjbbdaaDoorJLaw
import Derived.Deep.RegionHeld3
namespace Go.Proofs.YtgdclefnfjbbdaaDoor
open Go.RowKit Go.Sort
open Num
set_option linter.unusedVariables false

set_option maxRecDepth 100000 in
set_option maxHeartbeats 16000000 in
theorem refreshMixes_walk (s : Value) (l : List Int) (w : World) (hw : Wheel w) (hs : Ints w s l) :
    Calls Tryd.prog 6 #[s] w fun e w' => e = .returned (.bool true) ∧ Below w.heap.size w w' := by
  have HL := Lib.hid (light_any s l w hs)
  have HAW := Lib.hid (awake8_any w hw)
  obtain ⟨g, hg⟩ : ∃ g, w.heap.size = g := ⟨_, rfl⟩
  have hd0 := dice_new hs
  have hta : 0 < g := by rw [← hg]; exact hw.size
  obtain ⟨bl, hbl⟩ : ∃ b, decide ((l.length : Int) ≤ 500) = b := ⟨_, rfl⟩
  rw [hbl] at HL
  have HR := Lib.hid (roll_any s w (by obtain ⟨a, c, h, _⟩ := hs; exact ⟨a, _, c, h⟩))
  rw [hg] at HR hd0
  rw [hg]
  have HW0 := Lib.hid (hw.below hw.size ((Below.refl w.heap.size w).alloc (Nat.le_refl _) (.cells #[s, .int .i64 0] 59)))
  have HB0 : Hid (Below g w (w.alloc (.cells #[s, .int .i64 0] 59))) := by rw [← hg]; exact (Below.refl _ _).alloc (Nat.le_refl _) _
  have HD0 := Lib.hid hd0
  clear hd0 hw hs hbl
  cases bl with
  | false =>
    go_enter Tryd.func6, Tryd.ntmps6
    go_wp2_with fail
    refine HL.out.mono ?_
    rintro e w' ⟨rfl, rfl⟩
    go_wp2_with fail
    refine HAW.out.mono ?_
    rintro e w' ⟨rfl, hb⟩
    rw [hg] at hb
    have HB := Lib.hid hb
    clear hb
    go_wp2
    go_ret
    exact ⟨rfl, HB.out⟩
  | true =>
    go_enter Tryd.func6, Tryd.ntmps6
    go_wp2_with fail
    refine HL.out.mono ?_
    rintro e w' ⟨rfl, rfl⟩
    go_wp2_with fail
    refine HR.out.mono ?_
    rintro e w1 ⟨rfl, rfl⟩
    generalize w.alloc (.cells #[s, .int .i64 0] 59) = w1 at *
    go_wp2_with fail
    refine (prime_any g s l w1 HD0.out).mono ?_
    rintro e w2 ⟨p, hprm, hp2, rfl, hd2, hb2⟩
    have HPRM := Lib.hid hprm
    have hpp : 2 ≤ p := by have := hprm.1; omega
    have HP2 := Lib.hid hp2
    have HD2 := Lib.hid hd2
    have HB2 := Lib.hid (HB0.out.trans (hb2.below (Nat.le_refl _) (Nat.le_of_lt HD0.out.size)))
    have HW2 := Lib.hid (HW0.out.below hta (hb2.below (Nat.le_refl _) (Nat.le_of_lt HD0.out.size)))
    clear hb2 hd2 hprm HD0 HB0 HW0 HL HR
    go_wp2_with fail
    refine (plan_any g s l p w2 HD2.out hpp (by omega)).mono ?_
    rintro e w3 ⟨k, n, rfl, hk1, hkn, hn7, hnp, hd3, hb3⟩
    have hplb : planB p k n = true := planB_of HPRM.out (by have := HP2.out; omega) hk1 hkn (by omega) hnp
    obtain ⟨K, hK⟩ := Int.eq_ofNat_of_zero_le (show 0 ≤ k - 1 by omega)
    obtain ⟨N, rfl⟩ := Int.eq_ofNat_of_zero_le (show 0 ≤ n by omega)
    obtain rfl : k = (K : Int) + 1 := by omega
    have HQ : Hid (Pf p K N) := ⟨HPRM.out, by have := HP2.out; omega, hplb, ⟨by omega, by omega⟩, hnp⟩
    have hb3' := hb3.below (Nat.le_refl _) (Nat.le_of_lt HD2.out.size)
    have hg3 : g < w3.heap.size := hd3.size
    have hST : StL w (w3.alloc (.cells #[.int .i64 p, .int .i64 ((K : Int) + 1), .int .i64 (N : Int)] 30)) g w3.heap.size s l p ((K : Int) + 1) (N : Int) := by
      have hal : Below w3.heap.size w3 (w3.alloc (.cells #[.int .i64 p, .int .i64 ((K : Int) + 1), .int .i64 (N : Int)] 30)) := (Below.refl _ _).alloc (Nat.le_refl _) _
      exact ⟨hd3.below hal hg3, planAt_new _ _ _ _ _, (HW2.out.below hta hb3').below (by omega) hal, (HB2.out.trans hb3').trans (hal.mono (by omega)), hg3, by simp, hta⟩
    have HST := Lib.hid hST
    clear hST hb3 hb3' hg3 hd3 HB2 HW2 HD2 hK hk1 hkn hn7 hnp hp2 hplb HPRM HP2 hpp
    unfold planV
    go_wp2_with fail
    obtain ⟨gp, hgp⟩ : ∃ gp, w3.heap.size = gp := ⟨_, rfl⟩
    rw [hgp] at HST ⊢
    generalize w3.alloc (.cells #[.int .i64 p, .int .i64 ((K : Int) + 1), .int .i64 (N : Int)] 30) = w4 at *
    clear hgp
    have HX4 : Hid (Lw w w4 g gp s l p ((K : Int) + 1) (N : Int) [] []) := ⟨HST.out, fun x hx => by simp at hx, fun x hx => by simp at hx⟩
    have c0 := HST.out.pl.c0
    have c1 := HST.out.pl.c1
    have c2 := HST.out.pl.c2
    have HDE := Lib.hid (HX4.out.dealt HQ.out 2 (by omega))
    clear HST
    go_wp2_with fail
    refine HDE.out.mono ?_
    rintro e w5 ⟨v1, v2, S, R, rfl, hS1, hS3, hSE, hX5⟩
    have HX5 := Lib.hid hX5
    have HSS : Hid (1 ≤ S.length ∧ S.length ≤ 2) := ⟨hS1, hS3⟩
    have HSE := Lib.hid hSE
    have HSVL := Lib.hid (secV_deal (K := K) (r := R) HQ.out.p1 hSE)
    have hg5 := hX5.getG (v := v1) (z := S) (by simp)
    have hn5 := hX5.getM (v := v2) (L := rowL N (dealV p K S R)) (by simp)
    obtain ⟨aS, cS, rfl⟩ := hg5.shape
    obtain ⟨aL, cL, rfl, _, _⟩ := hn5.shape
    rw [rowL_len] at HX5 ⊢
    obtain ⟨c, hc⟩ : ∃ c, S.length = c := ⟨_, rfl⟩
    have HCC := Lib.hid hc
    rw [hc] at HX5 ⊢
    obtain ⟨c0, c1, c2⟩ := HX5.out.cells
    clear hX5 hS1 hS3 hSE hg5 hn5 hc HDE HX4
    go_wp2_with fail
    refine (HX5.out.elements HQ.out c (by rw [← HCC.out]; have := HSS.out; omega)).mono ?_
    rintro e w6 ⟨v6, T, rfl, hT1, hT2, hX6⟩
    have HX6 := Lib.hid hX6
    have HTL := Lib.hid hT1
    have HTE := Lib.hid hT2
    obtain ⟨aT, cT, rfl⟩ := (hX6.getG (v := v6) (z := T) (by simp)).shape
    rw [hT1] at HX6 ⊢
    obtain ⟨Z, hZ⟩ : ∃ Z, c * K = Z := ⟨_, rfl⟩
    have HZZ := Lib.hid hZ
    have hzb : Z ≤ 1000000 := by
      have h1 : c * K ≤ 2 * 7 := Nat.mul_le_mul (by rw [← HCC.out]; exact HSS.out.2) (by have := HQ.out.kn; omega)
      omega
    have HXD := Lib.hid HX6.out.drew
    obtain ⟨c0, c1, c2⟩ := HX6.out.cells
    have hc2 : c ≤ 2 := by rw [← HCC.out]; exact HSS.out.2
    clear hX6 hT1 hT2 hZ
    go_wp2_with fail
    clear c0 c1 c2
    have HSK := HXD.out.cells
    go_region_held3 (fun W' => W'.cell? ⟨gp, 0, none⟩ = some (.int .i64 p) ∧ W'.cell? ⟨gp, 1, none⟩ = some (.int .i64 ((K : Int) + 1)) ∧ W'.cell? ⟨gp, 2, none⟩ = some (.int .i64 (N : Int))) (first | go_keep | exact HSK)
      (first
        | (go_at_call 17; refine (HXD.out.random HQ.out HZZ.out (by omega)).mono ?_; rintro e w7 ⟨rfl, hX⟩; have HX7 := Lib.hid hX; have HSK := hX.cells; clear hX)
        | (go_at_call 16; refine (HX7.out.elements HQ.out Z hzb).mono ?_; rintro e w8 ⟨v8, R2, rfl, hrl, hre, hX⟩; have HX8 := Lib.hid hX; have HSK := hX.cells; have HRL := Lib.hid hrl; have HRE := Lib.hid hre; clear hX hrl hre)
        | (go_at_call 33; refine (HX8.out.deal HQ.out (vs := .slice aT c cT) (S := T) (by simp) (by rw [HTL.out]; omega) HTE.out (by rw [HTL.out]; exact HZZ.out) (vr := v8) (R := R2) (by simp) HRL.out HRE.out).mono ?_; rintro e w9 ⟨v9, rfl, hX⟩; have HX9 := Lib.hid hX; have HSK := hX.cells; clear hX))
    have HSVZ := Lib.hid (secV_deal (K := K) (r := R2) HQ.out.p1 HTE.out)
    obtain ⟨aZ, cZ, rfl, _, _⟩ := (HX9.out.getM (v := v9) (L := rowL N (dealV p K T R2)) (by simp)).shape
    rw [rowL_len] at HX9 ⊢
    obtain ⟨c0, c1, c2⟩ := HX9.out.cells
    clear HSK HX8 HX7 HXD HX6 HX5
    go_wp2_with fail
    refine (HX9.out.apply HQ.out (v := .slice aL N cL) (z := .slice aZ N cZ) (V := dealV p K S R) (U := dealV p K T R2) (by simp) (by simp) HSVL.out HSVZ.out (by rw [HTL.out, HCC.out]) (by rw [HCC.out]; omega)).mono ?_
    rintro e w10 ⟨v10, rfl, hX⟩
    have HX10 := Lib.hid hX
    have HADD := Lib.hid (HSVL.out.add HQ.out.p1 HSVZ.out (by rw [HTL.out, HCC.out]))
    obtain ⟨aM, cM, rfl, _, _⟩ := (HX10.out.getM (v := v10) (L := rowL N (addV p (dealV p K S R) (dealV p K T R2))) (by simp)).shape
    rw [rowL_len] at HX10 ⊢
    obtain ⟨c0, c1, c2⟩ := HX10.out.cells
    have HLL : Hid ((linF p S T 1).length = c) := by show _ = _; rw [linF_len', HTL.out, HCC.out]; simp
    clear hX HX9
    go_wp2_with fail
    refine (HX10.out.combine HQ.out (z := .slice aM N cM) (S := linF p S T 1) (by simp) (HADD.out.comb HQ.out.pl (by push_cast; rfl) rfl (by rw [HLL.out]; omega))).mono ?_
    rintro e w11 ⟨v11, rfl, hX⟩
    have HX11 := Lib.hid hX
    obtain ⟨aC, cC, rfl⟩ := (hX.getG (v := v11) (z := linF p S T 1) (by simp)).shape
    rw [HLL.out] at HX11 ⊢
    clear hX HX10 c0 c1 c2
    have HTI : Hid (Ints w11 (.slice aT c cT) T) := (HX11.out.getG (v := .slice aT c cT) (z := T) (by simp)).reads (by rw [HTL.out]; omega)
    go_wp2_with fail
    go_loop [14, 16, 68] (fun b _ i => ∃ j : Nat, j ≤ c ∧ i = .int .i64 j ∧ ∃ y : Bool, b = .bool y ∧ Hid (y = (T.take j).all (· == 0))) (fun _ _ i => c - (intOf i).toNat)
    case atStart => exact ⟨0, Nat.zero_le _, rfl, true, rfl, rfl⟩
    case round =>
      obtain ⟨j, hj, rfl, y, rfl, HY⟩ := hrel
      by_cases hlt : j < c
      · obtain ⟨bx, ox, rfl, cx0⟩ := HTI.out.pos hlt
        obtain ⟨x, hx⟩ : ∃ x, T.getD j 0 = x := ⟨_, rfl⟩
        rw [hx] at cx0
        obtain ⟨z, hz⟩ : ∃ z, (x == 0) = z := ⟨_, rfl⟩
        have HN : Hid ((y && z) = (T.take (j + 1)).all (· == 0)) := by
          show _ = _
          rw [List.take_add_one, List.all_append, ← HY.out, List.getElem?_eq_getElem (by rw [HTL.out]; exact hlt), ← hz, ← hx, getD_lt (by rw [HTL.out]; exact hlt)]
          simp
        clear hx
        cases y with
        | true =>
          go_wp2_with fail
          go_round
          case rel => exact ⟨j + 1, by omega, by go_num, _, rfl, HN⟩
          case measure => simp [intOf]; omega
        | false =>
          go_wp2_with fail
          go_round
          case rel => exact ⟨j + 1, by omega, by go_num, false, rfl, HN⟩
          case measure => simp [intOf]; omega
      · obtain rfl : j = c := by omega
        have hy : T.all (· == 0) = y := by rw [HY.out, List.take_of_length_le (by rw [HTL.out]; omega)]
        have HYY := Lib.hid hy
        obtain ⟨c0, c1, c2⟩ := HX11.out.cells
        have hyy : (y == y) = true := by simp
        clear HY hy
        go_wp2_with fail
        refine (HX11.out.checks HQ.out (z := .slice aZ N cZ) (U := dealV p K T R2) (by simp) HSVZ.out (by rw [HTL.out]; omega) HYY.out).mono ?_
        rintro e w12 ⟨rfl, hX⟩
        have HX12 := Lib.hid hX
        obtain ⟨c0, c1, c2⟩ := hX.cells
        have h1p : El p 1 := ⟨by omega, by have := HQ.out.prm.1; omega⟩
        clear hX
        go_wp2_with fail
        refine (HX12.out.linear HQ.out (va := .slice aS j cS) (vb := .slice aT j cT) (A := S) (B := T) (by simp) (by simp) HSE.out HTE.out (by rw [HCC.out]; omega) (by rw [HTL.out]; omega) h1p).mono ?_
        rintro e w13 ⟨v13, rfl, hX⟩
        have HX13 := Lib.hid hX
        obtain ⟨aD, cD, rfl⟩ := (hX.getG (v := v13) (z := linF p S T 1) (by simp)).shape
        rw [HLL.out] at HX13 ⊢
        obtain ⟨c0, c1, c2⟩ := hX.cells
        clear hX
        go_wp2_with fail
        refine (HX13.out.same (va := .slice aC j cC) (vb := .slice aD j cD) (A := linF p S T 1) (by simp) (by simp) (by rw [HLL.out]; omega)).mono ?_
        rintro e w14 ⟨rfl, rfl⟩
        go_wp2_with fail
        refine HX13.out.awake.mono ?_
        rintro e w15 ⟨rfl, hb⟩
        have HB := Lib.hid hb
        clear hb c0 c1 c2
        go_wp2
        go_ret
        exact ⟨rfl, HB.out⟩
end Go.Proofs.YtgdclefnfjbbdaaDoor
