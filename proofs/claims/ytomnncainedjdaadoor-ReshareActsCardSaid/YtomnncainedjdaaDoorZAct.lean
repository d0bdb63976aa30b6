
/- The walk through ReshareActs. -/
import Derived.Test.YtomnncainedjdaaDoorZRx
import Derived.Test.YtomnncainedjdaaDoorZBk
import Derived.Deep.RegionHeld3
import Derived.Deep.DeepCutAuto
import Derived.Deep.CutBlock
namespace Go.Proofs.YtomnncainedjdaaDoor
open Go.RowKit Go.Sort
open Num
set_option linter.unusedVariables false

set_option maxRecDepth 100000 in
set_option maxHeartbeats 16000000 in
theorem reshareActs_walk (s : Value) (l : List Int) (sr : Value) (R : List Shr) (vf : Value) (fl : List Int) (vr : Value) (rr : List Int) (w : World) (hw : Wheel w) (hs : Ints w s l) (hr : SharesU w sr R) (hf : Slc w vf fl) (hfb : ∀ q, vf.ownBlock = some q → q < w.heap.size) (hv : Slc w vr rr) (hvb : ∀ q, vr.ownBlock = some q → q < w.heap.size) :
    Calls Tryd.prog 3 #[s, sr, vf, vr] w fun e w' => e = .returned (.bool true) ∧ Below w.heap.size w w' := by
  have HL := Lib.hid (light_any s l w hs)
  have HSM := Lib.hid (small_any sr R w hr)
  obtain ⟨g0, hg0⟩ : ∃ g, w.heap.size = g := ⟨_, rfl⟩
  obtain ⟨bl, hbl⟩ : ∃ b, decide ((l.length : Int) ≤ 500) = b := ⟨_, rfl⟩
  rw [hbl] at HL
  rw [hg0] at HSM ⊢
  have HWW := Lib.hid hw
  have HSS := Lib.hid hs
  have HRR := Lib.hid hr
  have HG0 := Lib.hid hg0
  have HVV := Lib.hid hv
  have HFF := Lib.hid hf
  obtain ⟨sra, srn, src, rfl⟩ : ∃ a n c, sr = .slice a n c := by obtain ⟨a, c, h, _⟩ := hr; exact ⟨a, _, c, h⟩
  obtain ⟨vra, vrc, rfl, _, _, _⟩ := id hv
  obtain ⟨rn, hrn⟩ : ∃ n, rr.length = n := ⟨_, rfl⟩
  rw [hrn] at HVV ⊢
  have HRN := Lib.hid hrn
  obtain ⟨vfa, vfc, rfl, _, _, _⟩ := id hf
  obtain ⟨fn, hfn⟩ : ∃ n, fl.length = n := ⟨_, rfl⟩
  rw [hfn] at HFF ⊢
  have HFN := Lib.hid hfn
  clear hw hs hr hbl hg0 hv hrn hvb hf hfb hfn
  cases bl with
  | false =>
    have HAW := Lib.hid (awake9_any w HWW.out)
    go_enter Tryd.func3, Tryd.ntmps3
    go_wp2_with fail
    refine HL.out.mono ?_
    rintro e w' ⟨rfl, rfl⟩
    go_wp2_with fail
    refine HAW.out.mono ?_
    rintro e w' ⟨rfl, hb⟩
    rw [HG0.out] at hb
    have HB := Lib.hid hb
    clear hb
    go_wp2
    go_ret
    exact ⟨rfl, HB.out⟩
  | true =>
  go_enter Tryd.func3, Tryd.ntmps3
  go_wp2_with fail
  refine HL.out.mono ?_
  rintro e w' ⟨rfl, rfl⟩
  go_wp2_with fail
  refine HSM.out.mono ?_
  rintro e w1 ⟨bs, rfl, hbs, hb1⟩
  have HB1 := Lib.hid hb1
  have HW1 := Lib.hid (HWW.out.below HWW.out.size (by rw [HG0.out]; exact hb1))
  have HSZ1 : Hid (g0 ≤ w1.heap.size) := by show _ ≤ _; rw [← HG0.out]; exact hb1.size
  clear hb1 HL HSM
  cases bs with
  | false =>
    clear hbs
    go_wp2_with fail
    refine (awake9_any w1 HW1.out).mono ?_
    rintro e w' ⟨rfl, hb⟩
    have HB := Lib.hid (HB1.out.trans (hb.mono HSZ1.out))
    clear hb
    go_wp2
    go_ret
    exact ⟨rfl, HB.out⟩
  | true =>
  obtain ⟨hr12, hr20⟩ := hbs rfl
  have HRL := Lib.hid (show R.length ≤ 12 ∧ ∀ x ∈ R, x.2.length ≤ 20 from ⟨hr12, hr20⟩)
  clear hbs hr12 hr20
  by_cases hfb : 12 < fn
  · have x12 : (12 : Int) < (fn : Int) := by omega
    go_wp2_with fail
    refine (awake9_any w1 HW1.out).mono ?_
    rintro e w' ⟨rfl, hb⟩
    have HB := Lib.hid (HB1.out.trans (hb.mono HSZ1.out))
    clear hb
    go_wp2
    go_ret
    exact ⟨rfl, HB.out⟩
  have x12 : ¬ (12 : Int) < (fn : Int) := by omega
  have HFB : Hid (fn ≤ 12) := by show _ ≤ _; omega
  by_cases hrb : 40 < rn
  · have g1 : (40 : Int) < (rn : Int) := by omega
    go_wp2_with fail
    refine (awake9_any w1 HW1.out).mono ?_
    rintro e w' ⟨rfl, hb⟩
    have HB := Lib.hid (HB1.out.trans (hb.mono HSZ1.out))
    clear hb
    go_wp2
    go_ret
    exact ⟨rfl, HB.out⟩
  have g1 : ¬ (40 : Int) < (rn : Int) := by omega
  have HRB : Hid (rn ≤ 40) := by show _ ≤ _; omega
  have HR1 := Lib.hid ((HRR.out.below (Nat.le_of_eq HG0.out) HB1.out).few (by have := HRL.out.1; omega))
  have HV1 := Lib.hid (HVV.out.below (Nat.le_of_eq HG0.out) HB1.out)
  have HF1 := Lib.hid (HFF.out.below (Nat.le_of_eq HG0.out) HB1.out)
  have hs1 := HSS.out.below (Nat.le_of_eq HG0.out) HB1.out
  have hd0 := dice_new hs1
  have HRO := Lib.hid (roll_any s w1 (by obtain ⟨a, c, h, _⟩ := hs1; exact ⟨a, _, c, h⟩))
  obtain ⟨g, hg⟩ : ∃ g, w1.heap.size = g := ⟨_, rfl⟩
  have hta : 0 < g := by rw [← hg]; exact HW1.out.size
  have HGG : Hid (g0 ≤ g) := by show _ ≤ _; rw [← hg]; exact HSZ1.out
  have HGE := Lib.hid hg
  rw [hg] at HRO hd0
  have HW0 := Lib.hid (HW1.out.below HW1.out.size ((Below.refl w1.heap.size w1).alloc (Nat.le_refl _) (.cells #[s, .int .i64 0] 61)))
  have HB0 : Hid (Below g w1 (w1.alloc (.cells #[s, .int .i64 0] 61))) := by rw [← hg]; exact (Below.refl _ _).alloc (Nat.le_refl _) _
  have HD0 := Lib.hid hd0
  clear hd0 hs1 hg hrb hfb
  go_wp2_with fail
  refine HRO.out.mono ?_
  rintro e w2 ⟨rfl, rfl⟩
  generalize w1.alloc (.cells #[s, .int .i64 0] 61) = w2 at *
  clear g1 x12
  go_wp2_with fail
  refine (prime_any g s l w2 HD0.out).mono ?_
  rintro e w3 ⟨p, hprm, hp2, rfl, hd2, hb2⟩
  have HPRM := Lib.hid hprm
  have hpp : 2 ≤ p := by have := hprm.1; omega
  have HP2 := Lib.hid hp2
  have HD2 := Lib.hid hd2
  have HB2 := Lib.hid (HB0.out.trans (hb2.below (Nat.le_refl _) (Nat.le_of_lt HD0.out.size)))
  have HW2 := Lib.hid (HW0.out.below hta (hb2.below (Nat.le_refl _) (Nat.le_of_lt HD0.out.size)))
  clear hb2 hd2 hprm HD0 HB0 HW0 HRO
  go_wp2_with fail
  refine (plan_any g s l p w3 HD2.out hpp (by omega)).mono ?_
  rintro e w4 ⟨k, n, rfl, hk1, hkn, hn7, hnp, hd3, hb3⟩
  have hplb : planB p k n = true := planB_of HPRM.out (by have := HP2.out; omega) hk1 hkn (by omega) hnp
  obtain ⟨K, hK⟩ := Int.eq_ofNat_of_zero_le (show 0 ≤ k - 1 by omega)
  obtain ⟨N, rfl⟩ := Int.eq_ofNat_of_zero_le (show 0 ≤ n by omega)
  obtain rfl : k = (K : Int) + 1 := by omega
  have HQ : Hid (Pf p K N) := ⟨HPRM.out, by have := HP2.out; omega, hplb, ⟨by omega, by omega⟩, hnp⟩
  have hb3' := hb3.below (Nat.le_refl _) (Nat.le_of_lt HD2.out.size)
  have hg3 : g < w4.heap.size := hd3.size
  have hST : StL w1 (w4.alloc (.cells #[.int .i64 p, .int .i64 ((K : Int) + 1), .int .i64 (N : Int)] 30)) g w4.heap.size s l p ((K : Int) + 1) (N : Int) := by
    have hal : Below w4.heap.size w4 (w4.alloc (.cells #[.int .i64 p, .int .i64 ((K : Int) + 1), .int .i64 (N : Int)] 30)) := (Below.refl _ _).alloc (Nat.le_refl _) _
    exact ⟨hd3.below hal hg3, planAt_new _ _ _ _ _, (HW2.out.below hta hb3').below (by omega) hal, (HB2.out.trans hb3').trans (hal.mono (by omega)), hg3, by simp, hta⟩
  have HST := Lib.hid hST
  clear hST hb3 hb3' hg3 hd3 HB2 HW2 HD2 hK hk1 hkn hn7 hnp hp2 hplb 
  unfold planV
  go_upto_region 5 with (fail)
  obtain ⟨gp, hgp⟩ : ∃ gp, w4.heap.size = gp := ⟨_, rfl⟩
  rw [hgp] at HST ⊢
  generalize w4.alloc (.cells #[.int .i64 p, .int .i64 ((K : Int) + 1), .int .i64 (N : Int)] 30) = w5 at *
  clear hgp
  have c0 := HST.out.pl.c0
  go_wp2_with fail
  refine (plan_any g s l p w5 HST.out.di hpp (by have := HP2.out; omega)).mono ?_
  rintro e w6 ⟨ko, no, rfl, hk1, hkn, hn7, hnp, hd6, hb6⟩
  have HTO : Hid (1 ≤ ko ∧ ko ≤ 8) := ⟨hk1, by omega⟩
  have HWF : Hid ((Lit.int .i64 p).wf = true) := HQ.out.wf
  have hST6 := HST.out.but hb6 hd6
  have HX7 : Hid (StL w1 (w6.alloc (.cells #[.int .i64 p, .int .i64 ko, .int .i64 no] 30)) g gp s l p ((K : Int) + 1) (N : Int) ∧ PlanZ (w6.alloc (.cells #[.int .i64 p, .int .i64 ko, .int .i64 no] 30)) w6.heap.size p ko no ∧ g < w6.heap.size ∧ gp < w6.heap.size) := by
    have hal : Below w6.heap.size w6 (w6.alloc (.cells #[.int .i64 p, .int .i64 ko, .int .i64 no] 30)) := (Below.refl _ _).alloc (Nat.le_refl _) _
    exact ⟨hST6.below hal, planZ_new _ _ _ _ _, hd6.size, hST6.sz⟩
  clear hb6 hd6 hk1 hkn hn7 hnp hST6 c0 HST hpp HPRM HP2
  unfold planV
  go_upto_region 6 with (fail)
  obtain ⟨gq, hgq⟩ : ∃ gq, w6.heap.size = gq := ⟨_, rfl⟩
  rw [hgq] at HX7 ⊢
  generalize w6.alloc (.cells #[.int .i64 p, .int .i64 ko, .int .i64 no] 30) = w7 at *
  clear hgq
  go_wp2_with fail
  refine (next_any g s l 8 w7 HX7.out.1.di (by omega) (by omega)).mono ?_
  rintro e w8 ⟨r, r0, r1, rfl, hd8, hb8⟩
  have HX8 : Hid (StL w1 w8 g gp s l p ((K : Int) + 1) (N : Int) ∧ PlanZ w8 gq p ko no ∧ g < gq ∧ gp < gq) := ⟨HX7.out.1.but hb8 hd8, HX7.out.2.1.but hb8 (by have := HX7.out.2.2.1; omega), HX7.out.2.2⟩
  clear HX7 hd8 hb8
  obtain ⟨b1, hb1⟩ : ∃ b, (r == 1) = b := ⟨_, rfl⟩
  obtain ⟨b2, hb2⟩ : ∃ b, (r == 2) = b := ⟨_, rfl⟩
  have HXC : Hid (∀ W, But gq w8 W → ∀ p2 k2 n2, PlanZ W gq p2 k2 n2 → StL w1 W g gp s l p ((K : Int) + 1) (N : Int)) := fun W k p2 k2 n2 hz => by
    have h1 := HX8.out.1
    have h2 := HX8.out.2.2
    have hbl : Below gq w8 W := k.below (Nat.le_refl _) (Nat.le_of_lt HX8.out.2.1.lt)
    exact ⟨h1.di.below hbl h2.1, h1.pl.below h2.2 hbl, h1.wh.below (by have := h1.ta; omega) hbl, h1.be.trans (hbl.mono (Nat.le_of_lt h2.1)), h1.lt, Nat.lt_of_lt_of_le h1.sz k.size, h1.ta⟩
  go_upto_block 0 with (fail)
  go_cut [76] (fun _ W => ∃ p2 k2 n2 : Int, Hid (PlanZ W gq p2 k2 n2 ∧ (Lit.int .i64 p2).wf = true ∧ k2 ≤ 8) ∧ Hid (StL w1 W g gp s l p ((K : Int) + 1) (N : Int)))
  case first =>
    cases b1 with
    | true =>
      have HAP := Lib.hid (anyPlan_k g s l w8 HX8.out.1.di)
      go_wp2_with fail
      refine HAP.out.mono ?_
      rintro e w9 ⟨p2, k2, n2, rfl, hwf, hd9, hb9, hk8⟩
      have hz9 := HX8.out.2.1.but hb9 (by have := HX8.out.2.2.1; omega)
      have hs9 := HX8.out.1.but hb9 hd9
      obtain ⟨hz, hbz, f0, f1, f2⟩ := hz9.write p2 k2 n2
      have HZ := Lib.hid hz
      have e0 := hz9.at'.c0
      have e1 := hz9.at'.c1
      have e2 := hz9.at'.c2
      have HS9 : Hid (StL w1 (planSet w9 gq p2 k2 n2) g gp s l p ((K : Int) + 1) (N : Int)) := by
        have h2 := HX8.out.2.2
        have hbl : Below gq w9 (planSet w9 gq p2 k2 n2) := hbz.below (Nat.le_refl _) (Nat.le_of_lt hz9.lt)
        exact ⟨hs9.di.below hbl h2.1, hs9.pl.below h2.2 hbl, hs9.wh.below (by have := hs9.ta; omega) hbl, hs9.be.trans (hbl.mono (Nat.le_of_lt h2.1)), hs9.lt, Nat.lt_of_lt_of_le hs9.sz hbz.size, hs9.ta⟩
      unfold planV
      clear hz hbz hz9 hs9 hd9 hb9 HAP
      go_wp2_with fail
      go_meet
      exact ⟨p2, k2, n2, ⟨HZ.out, hwf, hk8⟩, HS9⟩
    | false =>
      have c0 := HX8.out.1.pl.c0
      have c1 := HX8.out.1.pl.c1
      have c2 := HX8.out.1.pl.c2
      have e0 := HX8.out.2.1.at'.c0
      have e1 := HX8.out.2.1.at'.c1
      have e2 := HX8.out.2.1.at'.c2
      cases b2 with
      | true =>
        obtain ⟨hz, hbz, f0, f1, f2⟩ := HX8.out.2.1.write p ((K : Int) + 1) (N : Int)
        have HZ := Lib.hid hz
        have HS9 := Lib.hid (HXC.out _ hbz _ _ _ hz)
        clear hz hbz
        go_wp2_with fail
        go_meet
        exact ⟨p, (K : Int) + 1, (N : Int), ⟨HZ.out, HWF.out, by have := HQ.out.kn; omega⟩, HS9⟩
      | false =>
        go_wp2_with fail
        go_meet
        exact ⟨p, ko, no, ⟨HX8.out.2.1, HWF.out, HTO.out.2⟩, HX8.out.1⟩
  case rest =>
    obtain ⟨p2, k2, n2, HT, HS⟩ := hcut
    have HX : Hid (Rw w1 wc g gp gq s l p K N p2 k2 n2 [] [] [.slice sra srn src]) := ⟨⟨HS.out, fun x hx => by simp at hx, fun x hx => by simp at hx⟩, HT.out.1.at', HX8.out.2.2.1, fun v hv => by
      rw [List.mem_singleton.1 hv]
      exact ⟨R, .inl HR1.out, by have := HRL.out.1; omega, fun x hx => by have := HRL.out.2 x hx; omega⟩, by rw [HGE.out]; exact Nat.le_refl _⟩
    clear HXC HX8 HS hb1 hb2
    obtain ⟨c0, c1, c2, d0, d1, d2⟩ := HX.out.cells
    have HDE := Lib.hid (HX.out.dealt HQ.out 2 (by omega))
    go_wp2_with fail
    refine HDE.out.mono ?_
    rintro e w10 ⟨v1, v2, S, RD, rfl, hS1, hS3, hSE, hX⟩
    have HX10 := Lib.hid hX
    have HSS2 : Hid (1 ≤ S.length ∧ S.length ≤ 2) := ⟨hS1, hS3⟩
    have HSVL := Lib.hid (secV_deal (K := K) (r := RD) HQ.out.p1 hSE)
    obtain ⟨aL, cL, rfl, _, _⟩ := (hX.lw.getM (v := v2) (L := rowL N (dealV p K S RD)) (by simp)).shape
    rw [rowL_len] at HX10 ⊢
    obtain ⟨bl, ol, v0, hal, z0, z1, zi⟩ := (HX10.out.lw.getM (v := .slice aL N cL) (L := rowL N (dealV p K S RD)) (by simp)).shares.at (i := 0) (by have := HQ.out.kn; omega)
    subst hal
    rw [Nat.zero_mul, Nat.add_zero] at z1
    obtain ⟨av0, cv0, rfl⟩ := zi.shape
    have hN0 : 0 < N := by have := HQ.out.kn; omega
    rw [rowL_get hN0] at z1
    have hv0 : (dealV p K S RD ((0 + 1 : Nat) : Int)).length = S.length := HSVL.out.siz _
    simp only [hv0] at z1
    obtain ⟨c, hc⟩ : ∃ c, S.length = c := ⟨_, rfl⟩
    rw [hc] at z1
    have HCC := Lib.hid hc
    have hNI : (0 : Int) < (N : Int) := by omega
    clear z0 zi hv0 hc hX hS1 hS3 c0 c1 c2 d0 d1 d2 HX HDE
    obtain ⟨c0, c1, c2, d0, d1, d2⟩ := HX10.out.cells
    go_upto_region 13 with fail
    obtain ⟨KM, hKM⟩ : ∃ KM : Nat, max 1 k2 = (KM : Int) + 1 := ⟨(max 1 k2 - 1).toNat, by rw [Int.max_def]; split <;> omega⟩
    have HKM : Hid (KM ≤ 7) := by
      show _ ≤ _
      have h1 := HT.out.2.2
      rw [Int.max_def] at hKM
      split at hKM <;> omega
    have hmx := max_lay9 Tryd.prog 1 k2
    rw [hKM] at hmx
    obtain ⟨Z, hZ⟩ : ∃ Z, c * KM = Z := ⟨_, rfl⟩
    have HZB : Hid (Z ≤ 14) := by
      show _ ≤ _
      have h1 : c * KM ≤ 2 * 7 := Nat.mul_le_mul (by have := HSS2.out; have := HCC.out; omega) HKM.out
      omega
    have hZi : (c : Int) * (KM : Int) = (Z : Int) := by rw [← hZ]; push_cast; rfl
    have hwz : IntKind.i64.wrap ((c : Int) * (KM : Int)) = (Z : Int) := by rw [hZi, IntKind.wrap_i64]; have := HZB.out; omega
    have hwk : IntKind.i64.wrap ((KM : Int) + 1 - 1) = (KM : Int) := by rw [IntKind.wrap_i64]; have := HKM.out; omega
    have hwk2 : IntKind.i64.wrap (KM : Int) = (KM : Int) := by rw [IntKind.wrap_i64]; have := HKM.out; omega
    have HEL := Lib.hid (HX10.out.elements HQ.out Z (by have := HZB.out; omega))
    clear hKM hZ hZi
    go_wp2_with fail
    refine HEL.out.mono ?_
    rintro e w11 ⟨v11, good, rfl, hgl, hge, hX⟩
    have HX11 := Lib.hid hX
    have HGD : Hid (good.length = Z ∧ Els p good) := ⟨hgl, hge⟩
    obtain ⟨ag, cg, rfl⟩ := (hX.lw.getG (v := v11) (z := good) (by simp)).shape
    rw [hgl] at HX11 ⊢
    obtain ⟨VD, hVD⟩ : ∃ VD, dealV p K S RD = VD := ⟨_, rfl⟩
    rw [hVD] at HX11 HSVL
    have HVB : Hid (∀ x, (VD x).length = c) := fun x => by rw [HSVL.out.siz]; exact HCC.out
    have HOD := Lib.hid (HX11.out.oddO (v := .slice (some ⟨bl, ol, none⟩) N cL) (X := rowL N VD) (HX11.out.lw.getM (by simp)).shares (by rw [rowL_len]; have := HQ.out.kn; omega) (fun x hx => by
      obtain ⟨j, hj, rfl⟩ := rowL_mem hx
      show (VD _).length ≤ _
      rw [HVB.out]; have := HSS2.out; have := HCC.out; omega))
    rw [rowL_len] at HOD
    clear hX hgl hge HEL HX10 hmx hwz hwk hwk2 c0 c1 c2 d0 d1 d2 hVD z1 hNI
    go_wp2_with fail
    refine HOD.out.mono ?_
    rintro e w12 ⟨v12, X, rfl, hso, hxl, hxm, hsz, hbe, hX⟩
    obtain ⟨a12, c12, rfl, hx1, hx2, hx3, _⟩ := id hso.1
    have HAP : Hid (∃ v' W', (Builtin.append_ #[23, 23] 23 #[.slice a12 X.length c12, .slice sra srn src]).run Tryd.prog w12 = .ok v' W' ∧ (Hid (Shares W' v' (X ++ R)) ∧ Hid (Rw w1 W' g gp gq s l p K N p2 k2 n2 [(.slice ag Z cg, good), (v1, S)] [(.slice (some ⟨bl, ol, none⟩) N cL, rowL N VD)] [.slice sra srn src]))) := by
      obtain ⟨v', W', h1, h2, h3⟩ := run_append_shares (W0 := w1) hso HR1.out (by have := HX11.out.sz; have := HX11.out.lw.sz; omega) hbe (by have := HQ.out.kn; have := HRL.out.1; omega) hsz 23
      exact ⟨v', W', h1, h2, hX W' h3⟩
    have HLB : Hid (∀ x ∈ X ++ R, x.2.length ≤ 1000) := fun x hx => by
      rcases List.mem_append.1 hx with h | h
      · have := hxm x h; omega
      · have := HRL.out.2 x h; omega
    clear hso hxl hxm hsz hbe hX hx1 hx2 hx3 HOD HX11
    go_wp2_with (at_builtin; refine wp_listV _ rfl _ _ _ _ rfl _ _ rfl rfl _ HAP.out ?_)
    rintro v13 w13 HSJ HX13
    obtain ⟨LJ, hLJ⟩ : ∃ LJ, X ++ R = LJ := ⟨_, rfl⟩
    rw [hLJ] at HSJ HLB
    obtain ⟨aJ, cJ, rfl, _, _, _, _⟩ := id HSJ.out
    obtain ⟨M, hM⟩ : ∃ M, LJ.length = M := ⟨_, rfl⟩
    rw [hM] at HSJ ⊢
    have HMB : Hid (M ≤ 1000) := by obtain ⟨_, _, e, h, _⟩ := id HSJ.out; injection e with _ e _; show _ ≤ _; omega
    clear HAP hLJ hM
    go_wp2_with fail
    have HW13 : Hid (Below w13.heap.size w13 w13) := Below.refl _ _
    go_loopw [17, 19, 20, 21, 22, 23, 110, 118] (fun _ _ _ _ _ _ i _ wr => ∃ j : Nat, j ≤ M ∧ i = .int .i64 j ∧ Hid (Below w13.heap.size w13 wr)) (fun _ _ _ _ _ _ i _ _ => M - (intOf i).toNat)
    case atStart => exact ⟨0, Nat.zero_le _, rfl, HW13⟩
    case round =>
      obtain ⟨j, hj, rfl, HB⟩ := hrel
      obtain ⟨wo, hwo⟩ : ∃ wo, wo = wr := ⟨_, rfl⟩
      subst hwo
      have hMB := HMB.out
      by_cases hlt : j < M
      · have hltI : (j : Int) < (M : Int) := by omega
        obtain ⟨bx, ox, vx, hax, x0, x1, xi⟩ := (HSJ.out.below (Nat.le_refl _) HB.out).at (i := j) hlt
        subst hax
        have hxm : (LJ.getD j (0, [])).2.length ≤ 1000 := HLB.out _ (by
          have h1 : LJ.length = M := by obtain ⟨_, _, e, _⟩ := id HSJ.out; injection e with _ e _; exact e.symm
          rw [List.getD_eq_getElem?_getD, List.getElem?_eq_getElem (by rw [h1]; exact hlt)]; exact List.getElem_mem _)
        obtain ⟨hdx, hhx⟩ : ∃ h, (LJ.getD j (0, [])).1 = h := ⟨_, rfl⟩
        obtain ⟨lx, hlx⟩ : ∃ l, (LJ.getD j (0, [])).2 = l := ⟨_, rfl⟩
        rw [hhx] at x0
        rw [hlx] at xi hxm
        obtain ⟨ax, cx, rfl⟩ := xi.shape
        obtain ⟨nx, hnx⟩ : ∃ n, lx.length = n := ⟨_, rfl⟩
        rw [hnx] at xi x1
        obtain ⟨gs, hgs⟩ : ∃ gs, wo.heap.size = gs := ⟨_, rfl⟩
        have hal : Below wo.heap.size wo (wo.alloc (.cells #[.int .i64 hdx, .slice ax nx cx] 38)) := (Below.refl _ _).alloc (Nat.le_refl _) _
        have HBx := Lib.hid (HB.out.trans (hal.mono HB.out.size))
        have HSA := Lib.hid (shAt_new wo hdx (.slice ax nx cx) 38)
        have HXI := Lib.hid (xi.below (Nat.le_refl _) hal)
        have HXM : Hid (lx.length ≤ 1000) := hxm
        rw [hgs] at HSA
        clear hal xi hxm hhx hlx hnx
        go_upto_region 17 with fail
        generalize wo.alloc (.cells #[.int .i64 hdx, .slice ax nx cx] 38) = w14 at *
        obtain ⟨VZ, hVZ⟩ : ∃ VZ : Nat → Value, VZ 0 = .slice ag Z cg ∧ VZ 1 = .slice vra rn vrc := ⟨fun t => if t = 0 then .slice ag Z cg else .slice vra rn vrc, by simp, by simp⟩
        have HVS : Hid (∀ t, t < 2 → ∀ W, Below w13.heap.size w13 W → ∃ a n c r, VZ t = .slice a n c ∧ Slc W (VZ t) r ∧ r.length ≤ 1000000) := fun t ht W b => by
          have hX := HX13.out.below b
          rcases (show t = 0 ∨ t = 1 by omega) with rfl | rfl
          · exact ⟨_, _, _, good, hVZ.1, by rw [hVZ.1]; exact (hX.lw.getG (z := good) (by simp)).slc (by have := HGD.out.1; have := HZB.out; omega), by have := HGD.out.1; have := HZB.out; omega⟩
          · exact ⟨_, _, _, rr, hVZ.2, by rw [hVZ.2]; exact HV1.out.below (Nat.le_of_eq HGE.out) hX.lw.st.be, by have := HRN.out; have := HRB.out; omega⟩
        obtain ⟨q2, hq2⟩ : ∃ q, w14.heap.size = q := ⟨_, rfl⟩
        have HZC : Hid (∀ t, t < 2 → (w14.alloc (.cells #[.slice ag Z cg, .slice vra rn vrc] 22)).cell? ⟨q2, t, none⟩ = some (VZ t)) := fun t ht => by
          rw [← hq2]
          rcases (show t = 0 ∨ t = 1 by omega) with rfl | rfl
          · rw [hVZ.1, cell_new]; rfl
          · rw [hVZ.2, cell_new]; rfl
        have HAL : Hid (Below w14.heap.size w14 (w14.alloc (.cells #[.slice ag Z cg, .slice vra rn vrc] 22))) := (Below.refl _ _).alloc (Nat.le_refl _) _
        have HQQ := Lib.hid hq2
        clear hVZ hq2 x0 x1 hgs
        go_wp2_with fail
        rw [HQQ.out]
        generalize w14.alloc (.cells #[.slice ag Z cg, .slice vra rn vrc] 22) = wz at *
        have HW0 : Hid (Below wz.heap.size wz wz) := Below.refl _ _
        go_loopw [19, 20, 21, 22, 23, 118] (fun _ _ _ _ _ i wr => ∃ t : Nat, t ≤ 2 ∧ i = .int .i64 t ∧ Hid (Below wz.heap.size wz wr)) (fun _ _ _ _ _ i _ => 2 - (intOf i).toNat)
        case atStart => exact ⟨0, Nat.zero_le _, rfl, HW0⟩
        case round =>
          obtain ⟨t, ht, rfl, HWz⟩ := hrel
          have HB14 := Lib.hid (HAL.out.trans (HWz.out.mono HAL.out.size))
          have HBr := Lib.hid (HBx.out.trans (HB14.out.mono HBx.out.size))
          clear HW0
          by_cases hlt2 : t < 2
          · have htl : (t : Int) < 2 := by omega
            obtain ⟨av, nv, cv, rv, hvz, hvs, hvl⟩ := HVS.out t hlt2 wr HBr.out
            have hcz := HZC.out t hlt2
            rw [hvz] at hcz hvs
            have t0 : wr.cell? ⟨q2, t, none⟩ = some (.slice av nv cv) := by rw [HWz.out.cell (p := ⟨q2, t, none⟩) (cell_lt hcz)]; exact hcz
            have hXr := HX13.out.below HBr.out
            obtain ⟨c0, c1, c2, d0, d1, d2⟩ := hXr.cells
            have hsr := HSA.out.below HB14.out HSA.out.lt
            have s0 := hsr.c0
            have s1 := hsr.c1
            have HS2 := Lib.hid (hXr.split2 HQ.out HT.out.2.1 hdx (v := .slice ax nx cx) (vr := .slice av nv cv) (x := lx) (r := rv) (HXI.out.below (Nat.le_refl _) HB14.out) hvs HXM.out hvl)
            obtain ⟨EA, hEA⟩ : ∃ E, splitE p ((K : Int) + 1) (N : Int) p2 k2 n2 (hdx, lx) rv = E := ⟨_, rfl⟩
            obtain ⟨DA, hDA⟩ : ∃ D, splitR p ((K : Int) + 1) (N : Int) p2 k2 n2 (hdx, lx) rv = D := ⟨_, rfl⟩
            rw [hEA, hDA] at HS2
            have e1 : (EA != EA) = false := by simp
            have HWS : Hid (wz.heap.size ≤ wr.heap.size) := HWz.out.size
            clear hvz hvs hvl hcz hXr hsr hEA hDA
            go_wp2_with fail
            clear t0
            refine HS2.out.mono ?_
            rintro e w20 ⟨va, rfl, hna, hb, hcb⟩
            have HW20 := Lib.hid (HWz.out.trans (hb.mono HWS.out))
            have HB20 := Lib.hid (HBr.out.trans (hb.mono HBr.out.size))
            have HNA := Lib.hid hna.shares
            have HDL : Hid (DA.length ≤ 1000) := by obtain ⟨_, _, _, h, _⟩ := hna; exact h
            have HCB := Lib.hid hcb
            have hsr := HSA.out.below (HB14.out.trans (hb.mono HB14.out.size)) HSA.out.lt
            obtain ⟨c0, c1, c2, d0, d1, d2⟩ := (HX13.out.below HB20.out).cells
            have s0 := hsr.c0
            have s1 := hsr.c1
            clear hna hb hcb hsr HS2
            go_wp2_with fail
            refine HCB.out.mono ?_
            rintro e w21 ⟨vb, rfl, hnb, hb⟩
            have HW21 := Lib.hid (HW20.out.trans (hb.mono HW20.out.size))
            have HNA := Lib.hid (HNA.out.below (Nat.le_refl _) hb)
            have HNB := Lib.hid (hnb.shares HDL.out)
            clear hnb hb HCB c0 c1 c2 d0 d1 d2 s0 s1
            go_wp2_with fail
            refine (sameS_yes va vb DA w21 HNA.out HNB.out).mono ?_
            rintro e w22 ⟨rfl, hb⟩
            have HW22 := Lib.hid (HW21.out.trans (hb.mono HW21.out.size))
            clear hb
            go_wp2_with fail
            go_roundw
            case rel => exact ⟨t + 1, by omega, by go_num, HW22⟩
            case measure => simp [intOf]; omega
          · obtain rfl : t = 2 := by omega
            go_wp2_with fail
            go_roundw
            case rel => exact ⟨j + 1, by omega, by go_num, HBr⟩
            case measure => simp [intOf]; omega
      · obtain rfl : j = M := by omega
        have HXo := Lib.hid (HX13.out.below HB.out)
        clear HX13 HB HSJ HLB HMB hj hMB hlt HW13
        have HTN := Lib.hid (HXo.out.turn (v := .slice (some ⟨bl, ol, none⟩) N cL) (V := VD) (by simp) (by have := HQ.out.kn; omega) (fun x => by rw [HVB.out]; have := HSS2.out; have := HCC.out; omega))
        go_wp2_with fail
        refine HTN.out.mono ?_
        rintro e w31 ⟨v31, L2, m, rfl, hperm, hm, hX⟩
        have HL2 : Hid (L2.length = N ∧ ∀ x ∈ L2, x.2.length = c) := ⟨by rw [hperm.length_eq, rowL_len], fun x hx => by
          obtain ⟨j, hj, rfl⟩ := rowL_mem (hperm.mem_iff.1 hx)
          exact HVB.out _⟩
        have hLm : (L2.take m).length = m := by rw [List.length_take, HL2.out.1]; omega
        obtain ⟨LT, hLT⟩ : ∃ LT, L2.take m = LT := ⟨_, rfl⟩
        have HLT : Hid (LT.length = m ∧ m ≤ N ∧ ∀ x ∈ LT, x.2.length = c) := ⟨by rw [← hLT]; exact hLm, hm, fun x hx => HL2.out.2 x (by rw [← hLT] at hx; exact List.mem_of_mem_take hx)⟩
        rw [hLT] at hX
        have HX31 := Lib.hid hX
        obtain ⟨aT, cT, rfl, _, _⟩ := (hX.lw.getM (v := v31) (L := LT) (by simp)).shape
        rw [HLT.out.1] at HX31 ⊢
        have HXH : Hid (∀ W vh zs vp L P, Hw w31 W g s l vh zs vp L P → Rw w1 W g gp gq s l p K N p2 k2 n2 [(.slice ag Z cg, good), (v1, S)] [(.slice aT m cT, LT), (.slice (some ⟨bl, ol, none⟩) N cL, rowL N VD)] [.slice sra srn src]) := fun W vh zs vp L P h => HX31.out.but h.but h.di
        have HW31 := Lib.hid (hw_start w31 g s l HX31.out.lw.st.di)
        clear hperm hm hX HL2 hLm hLT HTN HXo
        go_wp2_with fail
        go_loopw [24, 25, 27, 28, 29, 153] (fun vh vp _ _ _ i wr => ∃ (t : Nat) (zs : List Int) (L : List Shr) (P : Nat → Prop), t ≤ m ∧ i = .int .i64 t ∧ Hid (zs.length = L.length ∧ L.length ≤ t ∧ ∀ x ∈ L, x.2.length = c) ∧ Hid (Hw w31 wr g s l vh zs vp L P)) (fun _ _ _ _ _ i _ => m - (intOf i).toNat)
        case atStart => exact ⟨0, [], [], _, Nat.zero_le _, rfl, ⟨rfl, Nat.le_refl _, fun x hx => by simp at hx⟩, HW31⟩
        case round =>
          obtain ⟨t, zs, L, P, ht, rfl, HZL, HH⟩ := hrel
          clear HW31
          have HM := Lib.hid (HXH.out _ _ _ _ _ _ HH.out)
          have hm7 : m ≤ 7 := by have := HLT.out.2.1; have := HQ.out.kn; omega
          by_cases hlt : t < m
          · have hltI : (t : Int) < (m : Int) := by omega
            obtain ⟨bx, ox, vx, hax, x0, x1, xi⟩ := (HM.out.lw.getM (v := .slice aT m cT) (L := LT) (by simp)).shares.at (i := t) hlt
            subst hax
            have hxl : (LT.getD t (0, [])).2.length = c := HLT.out.2.2 _ (by
              rw [List.getD_eq_getElem?_getD, List.getElem?_eq_getElem (by rw [HLT.out.1]; exact hlt)]; exact List.getElem_mem _)
            obtain ⟨hdx, hhx⟩ : ∃ h, (LT.getD t (0, [])).1 = h := ⟨_, rfl⟩
            obtain ⟨lx, hlx⟩ : ∃ l, (LT.getD t (0, [])).2 = l := ⟨_, rfl⟩
            rw [hhx] at x0
            rw [hlx] at xi hxl
            obtain ⟨ax, cx, rfl⟩ := xi.shape
            rw [hxl] at x1 xi
            obtain ⟨gs, hgs⟩ : ∃ gs, wr.heap.size = gs := ⟨_, rfl⟩
            have hal : Below wr.heap.size wr (wr.alloc (.cells #[.int .i64 hdx, .slice ax c cx] 38)) := (Below.refl _ _).alloc (Nat.le_refl _) _
            have HSA := Lib.hid (shAt_new wr hdx (.slice ax c cx) 38)
            have HXI := Lib.hid (xi.below (Nat.le_refl _) hal)
            have HXL : Hid (lx.length = c) := hxl
            have HHa := Lib.hid (HH.out.below hal)
            have HTT : Hid (t < m ∧ m ≤ 7) := ⟨hlt, hm7⟩
            rw [hgs] at HSA
            clear hal xi hxl hhx hlx HH HM
            go_upto_region 31 with fail
            generalize wr.alloc (.cells #[.int .i64 hdx, .slice ax c cx] 38) = w32 at *
            have hXr := HXH.out _ _ _ _ _ _ HHa.out
            obtain ⟨c0, c1, c2, d0, d1, d2⟩ := hXr.cells
            have s0 := HSA.out.c0
            have s1 := HSA.out.c1
            have HSP := Lib.hid (ref9_split p ((K : Int) + 1) (N : Int) p2 k2 n2 hdx (.slice ax c cx) (.slice ag Z cg) lx good w32 hXr.lw.st.wh HQ.out.wf HT.out.2.1 HXI.out ((hXr.lw.getG (z := good) (by simp)).slc (by have := HGD.out.1; have := HZB.out; omega)) (by have := HXL.out; have := HSS2.out; have := HCC.out; omega))
            obtain ⟨RS, hRS⟩ : ∃ RS, splitR p ((K : Int) + 1) (N : Int) p2 k2 n2 (hdx, lx) good = RS := ⟨_, rfl⟩
            obtain ⟨ES, hES⟩ : ∃ ES, splitE p ((K : Int) + 1) (N : Int) p2 k2 n2 (hdx, lx) good = ES := ⟨_, rfl⟩
            have HRS : Hid (RS.length ≤ 100 ∧ ∀ x ∈ RS, x.2.length = c) := by
              rw [← hRS, ← HXL.out]
              exact splitR_few _ _ _ _ _ _ _ _
            rw [hRS, hES] at HSP
            unfold planV shareV at HSP
            clear x0 x1 hgs hXr hRS hES
            go_wp2_with fail
            refine HSP.out.mono ?_
            rintro e w33 ⟨v33, rfl, hgx, hb⟩
            have HHb := Lib.hid (HHa.out.wide hb)
            have HSX := Lib.hid (hgx.toP (by have := HRS.out.1; omega) (P := fun y => P y ∨ (w32.heap.size ≤ y ∧ y < w33.heap.size)) fun y h1 h2 => .inr ⟨h1, h2⟩)
            obtain ⟨P6, hP6⟩ : ∃ P6 : Nat → Prop, (fun y => P y ∨ (w32.heap.size ≤ y ∧ y < w33.heap.size)) = P6 := ⟨_, rfl⟩
            rw [hP6] at HHb HSX
            obtain ⟨a6, c6, rfl, _, _⟩ := hgx.shape
            obtain ⟨nr, hnr⟩ : ∃ nr, RS.length = nr := ⟨_, rfl⟩
            rw [hnr] at HSX ⊢
            have HNR := Lib.hid hnr
            have hsg := HSA.out.below hb HSA.out.lt
            have s0 := hsg.c0
            have s1 := hsg.c1
            clear c0 c1 c2 d0 d1 d2 hgx hb hP6 hnr HSP HHa hsg
            by_cases hz : nr = 0
            · subst hz
              have HHc : Hid (∃ P, Hw w31 w33 g s l u24 zs u25 L P) := ⟨_, HHb.out⟩
              go_wp2_with fail
              go_roundw
              case rel =>
                obtain ⟨Px, hx⟩ := HHc.out
                exact ⟨t + 1, zs, L, Px, by omega, by go_num, ⟨HZL.out.1, by have := HZL.out.2.1; omega, HZL.out.2.2⟩, hx⟩
              case measure => simp [intOf]; omega
            · have hzI : (0 : Int) < (nr : Int) := by omega
              have hal : Below w33.heap.size w33 (w33.alloc (.cells #[.int .i64 hdx] 3)) := (Below.refl _ _).alloc (Nat.le_refl _) _
              have HHc := Lib.hid (HHb.out.below hal)
              have HSb := Lib.hid (HSX.out.kept (P' := P6) (row := none) (grownBy_of_below hal (Nat.le_refl _)) fun y hy _ => ⟨fun e => (nomatch e), hy⟩)
              have HCb := Lib.hid (cell_alloc_new w33 (.int .i64 hdx) 3 _ rfl)
              have HZS : Hid (zs.length < 17592186044416) := by show _ < _; have := HZL.out; have := HTT.out; omega
              clear hal HHb HSX
              go_wp2_with (at_builtin; refine append_oneB _ rfl _ _ rfl w31.heap.size u24 _ hdx rfl HHc.out.fr ⟨w33.heap.size, 0, none⟩ rfl HCb.out HZS.out HHc.out.but.size ?_)
              intro vG w34 hg34 hgr hvb
              have HH34 := Lib.hid (HHc.out.from hg34 hgr (by simpa using hvb))
              have HS34 := Lib.hid (HSb.out.kept (P' := P6) hgr fun y hy _ => ⟨fun e => (HHc.out.hf y e).1 hy, hy⟩)
              clear hg34 hgr hvb HHc HSb HCb HZS s0 s1
              go_wp2_with fail
              refine (next_any g s l 20 w34 HH34.out.di (by omega) (by omega)).mono ?_
              rintro e w35 ⟨r, r0, r1, rfl, hd35, hb35⟩
              obtain ⟨ri, rfl⟩ := Int.eq_ofNat_of_zero_le r0
              have HH35 := Lib.hid (HH34.out.buts hb35 hd35)
              have HS35 := Lib.hid (HS34.out.kept (P' := P6) hb35.grown fun y hy _ => ⟨fun e => by have h1 := (HH34.out.pb y hy).1; have h2 := HH34.out.gl; have := Option.some.inj e; omega, hy⟩)
              have hri : (ri : Int) < 20 := r1
              have hnz : ((nr : Int) == 0) = false := by simp only [beq_eq_false_iff_ne]; omega
              obtain ⟨im, him⟩ : ∃ im, ri % nr = im := ⟨_, rfl⟩
              obtain ⟨ix, hix⟩ : ∃ ix, im / 8 = ix := ⟨_, rfl⟩
              have hixn : ix < nr := by have := Nat.mod_lt ri (show nr > 0 by omega); omega
              have hrem : (ri : Int).tmod (nr : Int) = (im : Int) := by rw [← him, ← Int.ofNat_tmod]
              have hquo : (im : Int).tdiv 8 = (ix : Int) := by rw [← hix]; rfl
              have hixI : (ix : Int) < (nr : Int) := by omega
              have hixb : ix ≤ 20 := by have := Nat.mod_le ri nr; omega
              obtain ⟨bp, op, vt, hae, y0, y1, hit, hPt⟩ := HS35.out.at hixn
              subst hae
              have hyl : (RS.getD ix (0, [])).2.length = c := HRS.out.2 _ (by
                rw [List.getD_eq_getElem?_getD, List.getElem?_eq_getElem (by rw [HNR.out]; exact hixn)]; exact List.getElem_mem _)
              obtain ⟨hy, hhy⟩ : ∃ h, (RS.getD ix (0, [])).1 = h := ⟨_, rfl⟩
              obtain ⟨ly, hly⟩ : ∃ l, (RS.getD ix (0, [])).2 = l := ⟨_, rfl⟩
              rw [hhy] at y0
              rw [hly] at hit hPt hyl
              obtain ⟨at', ct, rfl⟩ := hit.shape
              rw [hyl] at y1 hit hPt
              have hal : Below w35.heap.size w35 (w35.alloc (.cells #[.int .i64 hy, .slice at' c ct] 38)) := (Below.refl _ _).alloc (Nat.le_refl _) _
              have HAP : Hid (∃ v' W', (Builtin.append_ #[23, 23] 23 #[u25, .slice (some ⟨w35.heap.size, 0, none⟩) 1 1]).run Tryd.prog (w35.alloc (.cells #[.int .i64 hy, .slice at' c ct] 38)) = .ok v' W' ∧ Hid (Hw w31 W' g s l vG (zs ++ [hdx]) v' (L ++ [(hy, ly)]) P6)) := by
                obtain ⟨v', W', h1, h2, _⟩ := (HH35.out.below hal).app w35.heap.size hy (.slice at' c ct) ly (shAt_new w35 hy (.slice at' c ct) 38).c0 (shAt_new w35 hy (.slice at' c ct) 38).c1 (hit.below (Nat.le_refl _) hal) hPt (by have := HZL.out; have := HTT.out; omega) 23
                exact ⟨v', W', h1, h2⟩
              have HYL : Hid (ly.length = c) := hyl
              clear hb35 hd35 r0 HH34 HS34 him hix hal hit hPt hyl hhy hly HH35 HS35
              go_wp2_with (at_builtin; refine wp_listV _ rfl _ _ _ _ rfl _ _ rfl rfl _ HAP.out ?_)
              intro v36 w36 HH36
              have HZ2 : Hid ((zs ++ [hdx]).length = (L ++ [(hy, ly)]).length ∧ (L ++ [(hy, ly)]).length ≤ t + 1 ∧ ∀ x ∈ L ++ [(hy, ly)], x.2.length = c) := ⟨by rw [List.length_append, List.length_append, HZL.out.1]; rfl, by rw [List.length_append, List.length_singleton]; have := HZL.out.2.1; omega, fun x hx => by
                rcases List.mem_append.1 hx with h | h
                · exact HZL.out.2.2 x h
                · rw [List.mem_singleton.1 h]; exact HYL.out⟩
              clear HAP y0 y1
              go_wp2_with fail
              go_roundw
              case rel => exact ⟨t + 1, zs ++ [hdx], L ++ [(hy, ly)], P6, by omega, by go_num, HZ2, HH36⟩
              case measure => simp [intOf]; omega
          · obtain rfl : t = m := by omega
            have hpn := HH.out.parts (by have := HZL.out.2.1; omega) (fun x hx e => by have h1 := HZL.out.2.2 x hx; rw [e] at h1; have := HSS2.out; have := HCC.out; simp at h1; omega)
            have hgl := HH.out.gl
            have hX0 := (HM.out.addG HH.out.fr hgl).addM hpn hgl
            obtain ⟨ah, ch, rfl⟩ := HH.out.fr.shape
            obtain ⟨ap, cp, rfl, _, _⟩ := hpn.shape
            obtain ⟨np, hnp⟩ : ∃ np, L.length = np := ⟨_, rfl⟩
            have hnp2 : zs.length = np := by rw [HZL.out.1]; exact hnp
            rw [hnp] at hX0
            rw [hnp2] at hX0
            have HZP : Hid (zs.length = np ∧ L.length = np ∧ np ≤ 7 ∧ ∀ x ∈ L, x.2.length = c) := ⟨hnp2, hnp, by have := HZL.out.2.1; omega, HZL.out.2.2⟩
            rw [hnp2, hnp]
            have HX40 := Lib.hid hX0
            clear hX0 hpn hgl HM HH HXH HX31 HZL hnp hnp2 ht hlt
            obtain ⟨VH, hVH⟩ : ∃ VH : Nat → Value, VH 0 = .slice ah np ch ∧ VH 1 = .slice vfa fn vfc := ⟨fun t => if t = 0 then .slice ah np ch else .slice vfa fn vfc, by simp, by simp⟩
            obtain ⟨q4, hq4⟩ : ∃ q, wr.heap.size = q := ⟨_, rfl⟩
            have hal : Below wr.heap.size wr (wr.alloc (.cells #[.slice ah np ch, .slice vfa fn vfc] 22)) := (Below.refl _ _).alloc (Nat.le_refl _) _
            have HX41 := Lib.hid (HX40.out.below hal)
            have HQ4 : Hid (g < q4) := by rw [← hq4]; have := HX40.out.lw.st.di.size; exact this
            have HZC4 : Hid (∀ t, t < 2 → (wr.alloc (.cells #[.slice ah np ch, .slice vfa fn vfc] 22)).cell? ⟨q4, t, none⟩ = some (VH t)) := fun t ht => by
              rw [← hq4]
              rcases (show t = 0 ∨ t = 1 by omega) with rfl | rfl
              · rw [hVH.1, cell_new]; rfl
              · rw [hVH.2, cell_new]; rfl
            have HQQ := Lib.hid hq4
            clear hal hq4 HX40
            go_wp2_with fail
            rw [HQQ.out]
            generalize wr.alloc (.cells #[.slice ah np ch, .slice vfa fn vfc] 22) = w41 at *
            have HVS4 : Hid (∀ t, t < 2 → ∃ a n c r, VH t = .slice a n c ∧ ∀ W, But g w41 W → DiceAt W g s l → Slc W (VH t) r) := fun t ht => by
              rcases (show t = 0 ∨ t = 1 by omega) with rfl | rfl
              · exact ⟨_, _, _, zs, hVH.1, fun W b d => by rw [hVH.1]; exact ((HX41.out.but b d).lw.getG (z := zs) (by simp)).slc (by have := HZP.out; omega)⟩
              · exact ⟨_, _, _, fl, hVH.2, fun W b d => by rw [hVH.2]; exact HF1.out.below (Nat.le_of_eq HGE.out) (HX41.out.but b d).lw.st.be⟩
            have HK0 : Hid (But g w41 w41 ∧ DiceAt w41 g s l) := ⟨But.refl _ _, HX41.out.lw.st.di⟩
            clear hVH
            go_loopw [31, 33, 34, 35, 36, 37, 190, 201] (fun _ _ _ _ _ _ i _ wr => ∃ j : Nat, j ≤ 2 ∧ i = .int .i64 j ∧ Hid (But g w41 wr ∧ DiceAt wr g s l)) (fun _ _ _ _ _ _ i _ _ => 2 - (intOf i).toNat)
            case atStart => exact ⟨0, Nat.zero_le _, rfl, HK0⟩
            case round =>
              obtain ⟨j, hj, rfl, HK⟩ := hrel
              obtain ⟨wo, hwo⟩ : ∃ wo, wo = wr := ⟨_, rfl⟩
              subst hwo
              clear HK0
              have HXo := Lib.hid (HX41.out.but HK.out.1 HK.out.2)
              by_cases hlt : j < 2
              · have hltI : (j : Int) < 2 := by omega
                obtain ⟨af, nf, cf, xf, hvf, hfs⟩ := HVS4.out j hlt
                have hcz := HZC4.out j hlt
                rw [hvf] at hcz hfs
                have t0 : wo.cell? ⟨q4, j, none⟩ = some (.slice af nf cf) := by rw [HK.out.1.cell (p := ⟨q4, j, none⟩) (cell_lt hcz) (by have := HQ4.out; intro e; simp only at e; omega)]; exact hcz
                have HFS := Lib.hid hfs
                have HOD := Lib.hid (odd_anyM 900 (by omega) g s l (.slice ap np cp) L wo HXo.out.lw.st.di (HXo.out.lw.getM (L := L) (by simp)).shares (fun x hx => by rw [HZP.out.2.2.2 x hx]; have := HSS2.out; have := HCC.out; omega) (by have := HZP.out; omega))
                clear hvf hcz hfs
                go_wp2_with fail
                clear t0
                refine HOD.out.mono ?_
                rintro e w42 ⟨v42, rfl, LO, ho1, ho2, ho3, hd42, hb42⟩
                obtain ⟨ao, co, rfl, _, _⟩ := ho1.shape
                obtain ⟨no, hno⟩ : ∃ no, LO.length = no := ⟨_, rfl⟩
                rw [hno] at ho1 ⊢
                have HXp := Lib.hid (HXo.out.but hb42 hd42)
                have HK2 : Hid (But g w41 w42 ∧ DiceAt w42 g s l) := ⟨HK.out.1.trans hb42, hd42⟩
                obtain ⟨VP, hVP⟩ : ∃ VP : Nat → Value, VP 0 = .slice ap np cp ∧ VP 1 = .slice sra srn src ∧ VP 2 = .slice ao no co := ⟨fun t => if t = 0 then .slice ap np cp else if t = 1 then .slice sra srn src else .slice ao no co, by simp, by simp, by simp⟩
                have HVS5 : Hid (∀ t, t < 3 → ∀ W, Below w42.heap.size w42 W → ∃ a n c Y, VP t = .slice a n c ∧ Shares W (VP t) Y ∧ ∀ x ∈ Y, x.2.length ≤ 1000) := fun t ht W b => by
                  have hX := HXp.out.below b
                  rcases (show t = 0 ∨ t = 1 ∨ t = 2 by omega) with rfl | rfl | rfl
                  · exact ⟨_, _, _, L, hVP.1, by rw [hVP.1]; exact (hX.lw.getM (L := L) (by simp)).shares, fun x hx => by rw [HZP.out.2.2.2 x hx]; have := HSS2.out; have := HCC.out; omega⟩
                  · exact ⟨_, _, _, R, hVP.2.1, by rw [hVP.2.1]; exact HR1.out.below (Nat.le_of_eq HGE.out) hX.lw.st.be, fun x hx => by have := HRL.out.2 x hx; omega⟩
                  · exact ⟨_, _, _, LO, hVP.2.2, by rw [hVP.2.2]; exact ho1.shares.below (Nat.le_refl _) b, fun x hx => by have := ho3 x hx; omega⟩
                obtain ⟨q5, hq5⟩ : ∃ q, w42.heap.size = q := ⟨_, rfl⟩
                have HAL5 : Hid (Below w42.heap.size w42 (w42.alloc (.cells #[.slice ap np cp, .slice sra srn src, .slice ao no co] 23))) := (Below.refl _ _).alloc (Nat.le_refl _) _
                have HZC5 : Hid (∀ t, t < 3 → (w42.alloc (.cells #[.slice ap np cp, .slice sra srn src, .slice ao no co] 23)).cell? ⟨q5, t, none⟩ = some (VP t)) := fun t ht => by
                  rw [← hq5]
                  rcases (show t = 0 ∨ t = 1 ∨ t = 2 by omega) with rfl | rfl | rfl
                  · rw [hVP.1, cell_new]; rfl
                  · rw [hVP.2.1, cell_new]; rfl
                  · rw [hVP.2.2, cell_new]; rfl
                have HQ5 := Lib.hid hq5
                clear hVP hq5 hno ho1 ho2 ho3 hd42 hb42 HOD HXo HK
                go_wp2_with fail
                rw [HQ5.out]
                generalize w42.alloc (.cells #[.slice ap np cp, .slice sra srn src, .slice ao no co] 23) = w43 at *
                have HW0 : Hid (Below w43.heap.size w43 w43) := Below.refl _ _
                go_loopw [33, 34, 35, 36, 37, 201] (fun _ _ _ _ _ i wr => ∃ t : Nat, t ≤ 3 ∧ i = .int .i64 t ∧ Hid (Below w43.heap.size w43 wr)) (fun _ _ _ _ _ i _ => 3 - (intOf i).toNat)
                case atStart => exact ⟨0, Nat.zero_le _, rfl, HW0⟩
                case round =>
                  obtain ⟨t, ht, rfl, HWz⟩ := hrel
                  have HB42 := Lib.hid (HAL5.out.trans (HWz.out.mono HAL5.out.size))
                  clear HW0
                  by_cases hlt2 : t < 3
                  · have htl : (t : Int) < 3 := by omega
                    obtain ⟨ay, ny, cy, Y, hvy, hys, hyl⟩ := HVS5.out t hlt2 wr HB42.out
                    have hcz := HZC5.out t hlt2
                    rw [hvy] at hcz hys
                    have t0 : wr.cell? ⟨q5, t, none⟩ = some (.slice ay ny cy) := by rw [HWz.out.cell (p := ⟨q5, t, none⟩) (cell_lt hcz)]; exact hcz
                    have hXr := HXp.out.below HB42.out
                    obtain ⟨c0, c1, c2, d0, d1, d2⟩ := hXr.cells
                    have HSF : Hid (∀ W, Below w42.heap.size w42 W → Slc W (.slice af nf cf) xf) := fun W b => HFS.out W (HK2.out.1.above b HK2.out.1.size) (HK2.out.2.below b HK2.out.2.size)
                    have HYS : Hid (∀ W, Below wr.heap.size wr W → Shares W (.slice ay ny cy) Y) := fun W b => hys.below (Nat.le_refl _) b
                    have HYL : Hid (∀ x ∈ Y, x.2.length ≤ 1000) := hyl
                    obtain ⟨EJ, hEJ⟩ : ∃ E, joinE p ((K : Int) + 1) (N : Int) p2 k2 n2 xf Y = E := ⟨_, rfl⟩
                    obtain ⟨h5, hh5⟩ : ∃ h, (joinR p ((K : Int) + 1) (N : Int) p2 k2 n2 xf Y).1 = h := ⟨_, rfl⟩
                    obtain ⟨l5, hl5⟩ : ∃ l, (joinR p ((K : Int) + 1) (N : Int) p2 k2 n2 xf Y).2 = l := ⟨_, rfl⟩
                    have HL5 : Hid (l5.length ≤ 1000) := by rw [← hl5]; exact joinR_le HQ.out.p1 (by have := HQ.out.kn; omega) xf Y hyl
                    have HJ1 := reshare_join p ((K : Int) + 1) (N : Int) p2 k2 n2 (.slice af nf cf) (.slice ay ny cy) xf Y wr hXr.lw.st.wh HQ.out.wf HT.out.2.1 (HSF.out wr HB42.out).ints hys (fun x hx => by have := hyl x hx; omega)
                    have HJ2 : ∀ W, Below wr.heap.size wr W → _ := fun W b => ref9_join p ((K : Int) + 1) (N : Int) p2 k2 n2 (.slice af nf cf) (.slice ay ny cy) xf Y W ((HXp.out.below (HB42.out.trans (b.mono HB42.out.size))).lw.st.wh) HQ.out.wf HT.out.2.1 (HSF.out W (HB42.out.trans (b.mono HB42.out.size))) (HYS.out W b) (fun x hx => by have := HYL.out x hx; omega)
                    rw [hEJ, hh5, hl5] at HJ1
                    simp only [hEJ, hh5, hl5] at HJ2
                    unfold planV shareV at HJ1 HJ2
                    have HJ1 := Lib.hid HJ1
                    have HJ2 := Lib.hid HJ2
                    have e1 : (EJ != EJ) = false := by simp
                    have HWS : Hid (w43.heap.size ≤ wr.heap.size) := HWz.out.size
                    clear hvy hys hyl hcz hXr hEJ hh5 hl5
                    go_wp2_with fail
                    clear t0
                    refine HJ1.out.mono ?_
                    rintro e w44 ⟨v44, rfl, hg44, hb44⟩
                    obtain ⟨a4, c4, rfl⟩ := hg44.shape
                    obtain ⟨n5, hn5⟩ : ∃ n, l5.length = n := ⟨_, rfl⟩
                    have hi44 := hg44.reads (by have := HL5.out; omega)
                    rw [hn5] at hi44 ⊢
                    have HN5 := Lib.hid hn5
                    obtain ⟨g1, hg1⟩ : ∃ q, w44.heap.size = q := ⟨_, rfl⟩
                    have hal : Below w44.heap.size w44 (w44.alloc (.cells #[.int .i64 h5, .slice a4 n5 c4] 38)) := (Below.refl _ _).alloc (Nat.le_refl _) _
                    have HSA := Lib.hid (shAt_new w44 h5 (.slice a4 n5 c4) 38)
                    have HI1 := Lib.hid (hi44.below (Nat.le_refl _) hal)
                    have HBw := Lib.hid (hb44.trans (hal.mono hb44.size))
                    rw [hg1] at HSA
                    clear hg44 hb44 hi44 hn5 hal c0 c1 c2 d0 d1 d2 HJ1
                    go_upto_region 42 with fail
                    generalize w44.alloc (.cells #[.int .i64 h5, .slice a4 n5 c4] 38) = w45 at *
                    have HB45 := Lib.hid (HB42.out.trans (HBw.out.mono HB42.out.size))
                    obtain ⟨c0, c1, c2, d0, d1, d2⟩ := (HXp.out.below HB45.out).cells
                    have HJ3 := Lib.hid (HJ2.out w45 HBw.out)
                    clear hg1 HJ2
                    go_wp2_with fail
                    refine HJ3.out.mono ?_
                    rintro e w46 ⟨v46, rfl, hg46, hb46⟩
                    obtain ⟨a6, c6, rfl⟩ := hg46.shape
                    have hi46 := hg46.reads (by have := HL5.out; omega)
                    rw [HN5.out] at hi46 ⊢
                    obtain ⟨g2, hg2⟩ : ∃ q, w46.heap.size = q := ⟨_, rfl⟩
                    have hal : Below w46.heap.size w46 (w46.alloc (.cells #[.int .i64 h5, .slice a6 n5 c6] 38)) := (Below.refl _ _).alloc (Nat.le_refl _) _
                    have HSB := Lib.hid (shAt_new w46 h5 (.slice a6 n5 c6) 38)
                    have hb6 := hb46.trans (hal.mono hb46.size)
                    have HSA := Lib.hid (HSA.out.below hb6 HSA.out.lt)
                    have HI1 := Lib.hid (HI1.out.below (Nat.le_refl _) hb6)
                    have HI2 := Lib.hid (hi46.below (Nat.le_refl _) hal)
                    have HBw := Lib.hid (HBw.out.trans (hb6.mono HBw.out.size))
                    rw [hg2] at HSB
                    clear hg46 hb46 hi46 hal hb6 c0 c1 c2 d0 d1 d2 HJ3
                    go_upto_region 43 with fail
                    generalize w46.alloc (.cells #[.int .i64 h5, .slice a6 n5 c6] 38) = w47 at *
                    have s0 := HSA.out.c0
                    have s1 := HSA.out.c1
                    have r0 := (HSB.out.allocC (.cells #[.int .i64 h5, .slice a4 n5 c4] 38)).c0
                    have r1 := (HSB.out.allocC (.cells #[.int .i64 h5, .slice a4 n5 c4] 38)).c1
                    have HSM : Hid (Calls Tryd.prog 21 #[.slice (some ⟨w47.heap.size, 0, none⟩) 1 1, .slice (some ⟨w47.heap.size + 1, 0, none⟩) 1 1] ((w47.alloc (.cells #[.int .i64 h5, .slice a4 n5 c4] 38)).alloc (.cells #[.int .i64 h5, .slice a6 n5 c6] 38)) fun e w' => e = .returned (.bool true) ∧ Below w47.heap.size w47 w') :=
                      (sameS_yes _ _ [(h5, l5)] _ (shares1 ((shAt_new w47 h5 (.slice a4 n5 c4) 38).allocC _) ((HI1.out.allocC _).allocC _)) (shares1 (shAt_alloc1 w47 _ h5 (.slice a6 n5 c6) 38) ((HI2.out.allocC _).allocC _))).mono fun e w' ⟨k1, k2⟩ => ⟨k1, ((((Below.refl w47.heap.size w47).alloc (Nat.le_refl _) _).alloc (by simp) _).trans (k2.mono (by simp; omega)))⟩
                    clear hg2
                    go_wp2_with fail
                    refine HSM.out.mono ?_
                    rintro e w50 ⟨rfl, hb⟩
                    have HW50 := Lib.hid (HWz.out.trans ((HBw.out.trans (hb.mono HBw.out.size)).mono HWS.out))
                    clear hb s0 s1 r0 r1 HSM
                    go_wp2_with fail
                    go_roundw
                    case rel => exact ⟨t + 1, by omega, by go_num, HW50⟩
                    case measure => simp [intOf]; omega
                  · obtain rfl : t = 3 := by omega
                    have HKE : Hid (But g w41 wr ∧ DiceAt wr g s l) := ⟨HK2.out.1.above HB42.out HK2.out.1.size, HK2.out.2.below HB42.out HK2.out.2.size⟩
                    go_wp2_with fail
                    go_roundw
                    case rel => exact ⟨j + 1, by omega, by go_num, HKE⟩
                    case measure => simp [intOf]; omega
              · obtain rfl : j = 2 := by omega
                have HXD := Lib.hid HXo.out.drew
                clear HXo HK HZC4 HVS4 HX41 hj hlt
                go_wp2_with fail
                have HSK := HXD.out.cells.2.1
                go_region_held3 (fun W' => W'.cell? ⟨gp, 1, none⟩ = some (.int .i64 ((K : Int) + 1))) (first | go_keep | exact HSK)
                  (first
                    | (go_at_call 14; refine (next_any g s l 2 wo.drew HXD.out.lw.st.di (by omega) (by omega)).mono ?_; rintro e w51 ⟨r3, r30, r31, rfl, hd51, hb51⟩; have HX51 := Lib.hid (HXD.out.but hb51 hd51); have HSK := HX51.out.cells.2.1; clear hd51 hb51))
                obtain ⟨ct, hct0⟩ := Int.eq_ofNat_of_zero_le (show 0 ≤ (K : Int) + 1 - r3 by omega)
                have HCT : Hid (ct ≤ 8) := by show _ ≤ _; have := HQ.out.kn; omega
                have hct : IntKind.i64.wrap ((K : Int) + 1 - r3) = (ct : Int) := by rw [hct0, IntKind.wrap_i64]; have := HCT.out; omega
                try rw [hct]
                have HGO : Hid (∀ r, (Value.slice ag Z cg).ownBlock = some r → g + 1 ≤ r ∧ r < w51.heap.size) := fun r hr => gath_lt (HX51.out.lw.getG (z := good) (by simp)) r hr
                have HGZ : Hid (g + 1 ≤ w51.heap.size) := HX51.out.lw.sz
                have HSG : Hid (∀ W, Below w51.heap.size w51 W → Slc W (.slice ag Z cg) good) := fun W b => ((HX51.out.below b).lw.getG (z := good) (by simp)).slc (by have := HGD.out.1; have := HZB.out; omega)
                have HG0 : Hid (Gj w51 w51 g (.slice none 0 0) (List.replicate 0 good)) := gj_start w51 g
                clear hct0 r30 r31 HXD HSK
                go_wp2_with fail
                go_loopw [38, 239] (fun v i wr => ∃ t : Nat, t ≤ ct ∧ i = .int .i64 t ∧ Hid (Gj w51 wr g v (List.replicate t good))) (fun _ i _ => ct - (intOf i).toNat)
                case atStart => exact ⟨0, Nat.zero_le _, rfl, HG0⟩
                case round =>
                  obtain ⟨t, ht, rfl, HG⟩ := hrel
                  have hct8 := HCT.out
                  clear HG0
                  by_cases hlt : t < ct
                  · have hltI : (t : Int) < (ct : Int) := by omega
                    have hal : Below wr.heap.size wr (wr.alloc (.cells #[.slice ag Z cg] 22)) := (Below.refl _ _).alloc (Nat.le_refl _) _
                    have HGa := Lib.hid (HG.out.below hal)
                    have HSa := Lib.hid (HSG.out _ HGa.out.be)
                    have HCb := Lib.hid (cell_alloc_new wr (.slice ag Z cg) 22 _ rfl)
                    have HLN : Hid ((List.replicate t good).length ≤ 1000) := by show _ ≤ _; rw [List.length_replicate]; omega
                    clear hal HG
                    go_wp2_with (at_builtin; refine append_intssB _ w51 g rfl _ _ rfl u38 _ (.slice ag Z cg) good rfl HGa.out wr.heap.size rfl HCb.out HSa.out HGO.out HLN.out HGZ.out ?_)
                    intro v52 w52 hg52
                    rw [← List.replicate_succ'] at hg52
                    have HG52 := Lib.hid hg52
                    obtain ⟨a52, c52, rfl⟩ := hg52.gi.shape
                    clear hg52 HGa HSa HCb HLN
                    go_wp2_with fail
                    go_roundw
                    case rel => exact ⟨t + 1, by omega, by go_num, HG52⟩
                    case measure => simp [intOf]; omega
                  · obtain rfl : t = ct := by omega
                    have HX52 := Lib.hid (HX51.out.below HG.out.be)
                    obtain ⟨a52, c52, rfl⟩ := HG.out.gi.shape
                    rw [List.length_replicate] at HG ⊢
                    have HTN := Lib.hid (HX52.out.turnB (v := .slice (some ⟨bl, ol, none⟩) N cL) (V := VD) (by simp) (by have := HQ.out.kn; omega) (fun x => by rw [HVB.out]; have := HSS2.out; have := HCC.out; omega))
                    clear HX51 HGO HGZ HSG hlt ht
                    go_wp2_with fail
                    refine HTN.out.mono ?_
                    rintro e w61 ⟨v61, L3, m3, rfl, hperm, hm3, hsn, hd61, hb61⟩
                    have hL3 : L3.length = N ∧ ∀ x ∈ L3, x.2.length = c := ⟨by rw [hperm.length_eq, rowL_len], fun x hx => by
                      obtain ⟨j, hj, rfl⟩ := rowL_mem (hperm.mem_iff.1 hx)
                      exact HVB.out _⟩
                    have hL4 : (L3.take m3).length = m3 := by rw [List.length_take, hL3.1]; omega
                    obtain ⟨a61, c61, rfl, _, _⟩ := hsn.shape
                    rw [hL4] at hsn ⊢
                    have HX61 := Lib.hid (HX52.out.but hb61 hd61)
                    have HLI : Hid (ListsI w61 (.slice a52 t c52) (List.replicate t good)) := (HG.out.gi.but hb61 (Nat.lt_succ_self g)).lists (by rw [List.length_replicate]; omega)
                    obtain ⟨VM, hVM⟩ : ∃ VM : Nat → Value, VM 0 = .slice (some ⟨bl, ol, none⟩) N cL ∧ VM 1 = .slice a61 m3 c61 ∧ VM 2 = .slice sra srn src := ⟨fun t => if t = 0 then .slice (some ⟨bl, ol, none⟩) N cL else if t = 1 then .slice a61 m3 c61 else .slice sra srn src, by simp, by simp, by simp⟩
                    have HVS7 : Hid (∀ t, t < 3 → ∀ W, Below w61.heap.size w61 W → ∃ a n c Y, VM t = .slice a n c ∧ Shares W (VM t) Y) := fun t ht W b => by
                      have hX := HX61.out.below b
                      rcases (show t = 0 ∨ t = 1 ∨ t = 2 by omega) with rfl | rfl | rfl
                      · exact ⟨_, _, _, rowL N VD, hVM.1, by rw [hVM.1]; exact (hX.lw.getM (L := rowL N VD) (by simp)).shares⟩
                      · exact ⟨_, _, _, L3.take m3, hVM.2.1, by rw [hVM.2.1]; exact hsn.shares.below (Nat.le_refl _) b⟩
                      · exact ⟨_, _, _, R, hVM.2.2, by rw [hVM.2.2]; exact HR1.out.below (Nat.le_of_eq HGE.out) hX.lw.st.be⟩
                    have HRR : Hid (∀ r ∈ List.replicate t good, r.length ≤ 1000000) := fun r hr => by
                      rw [List.eq_of_mem_replicate hr, HGD.out.1]; have := HZB.out; omega
                    obtain ⟨RR, hRR⟩ : ∃ RR, List.replicate t good = RR := ⟨_, rfl⟩
                    rw [hRR] at HLI HRR
                    obtain ⟨q7, hq7⟩ : ∃ q, w61.heap.size = q := ⟨_, rfl⟩
                    have HAL7 : Hid (Below w61.heap.size w61 (w61.alloc (.cells #[.slice (some ⟨bl, ol, none⟩) N cL, .slice a61 m3 c61, .slice sra srn src] 23))) := (Below.refl _ _).alloc (Nat.le_refl _) _
                    have HZC7 : Hid (∀ t, t < 3 → (w61.alloc (.cells #[.slice (some ⟨bl, ol, none⟩) N cL, .slice a61 m3 c61, .slice sra srn src] 23)).cell? ⟨q7, t, none⟩ = some (VM t)) := fun t ht => by
                      rw [← hq7]
                      rcases (show t = 0 ∨ t = 1 ∨ t = 2 by omega) with rfl | rfl | rfl
                      · rw [hVM.1, cell_new]; rfl
                      · rw [hVM.2.1, cell_new]; rfl
                      · rw [hVM.2.2, cell_new]; rfl
                    have HQ7 := Lib.hid hq7
                    clear hVM hq7 hperm hm3 hsn hd61 hb61 hL3 hL4 HTN HX52 HG hRR
                    go_wp2_with fail
                    rw [HQ7.out]
                    generalize w61.alloc (.cells #[.slice (some ⟨bl, ol, none⟩) N cL, .slice a61 m3 c61, .slice sra srn src] 23) = w62 at *
                    have HW0 : Hid (Below w62.heap.size w62 w62) := Below.refl _ _
                    go_loopw [40, 41, 42, 43, 44, 253] (fun _ _ _ _ _ i wr => ∃ u : Nat, u ≤ 3 ∧ i = .int .i64 u ∧ Hid (Below w62.heap.size w62 wr)) (fun _ _ _ _ _ i _ => 3 - (intOf i).toNat)
                    case atStart => exact ⟨0, Nat.zero_le _, rfl, HW0⟩
                    case round =>
                      obtain ⟨u, hu, rfl, HWz⟩ := hrel
                      have HB61 := Lib.hid (HAL7.out.trans (HWz.out.mono HAL7.out.size))
                      clear HW0
                      by_cases hlt2 : u < 3
                      · have htl : (u : Int) < 3 := by omega
                        obtain ⟨ay, ny, cy, Y, hvy, hys⟩ := HVS7.out u hlt2 wr HB61.out
                        have hcz := HZC7.out u hlt2
                        rw [hvy] at hcz hys
                        have t0 : wr.cell? ⟨q7, u, none⟩ = some (.slice ay ny cy) := by rw [HWz.out.cell (p := ⟨q7, u, none⟩) (cell_lt hcz)]; exact hcz
                        have hXr := HX61.out.below HB61.out
                        obtain ⟨c0, c1, c2, d0, d1, d2⟩ := hXr.cells
                        have HYS : Hid (∀ W, Below wr.heap.size wr W → Shares W (.slice ay ny cy) Y) := fun W b => hys.below (Nat.le_refl _) b
                        obtain ⟨EM, hEM⟩ : ∃ E, moveE p ((K : Int) + 1) (N : Int) p2 k2 n2 Y RR = E := ⟨_, rfl⟩
                        obtain ⟨DM, hDM⟩ : ∃ D, moveR p ((K : Int) + 1) (N : Int) p2 k2 n2 Y RR = D := ⟨_, rfl⟩
                        have HJ1 := reshare_move p ((K : Int) + 1) (N : Int) p2 k2 n2 (.slice ay ny cy) (.slice a52 t c52) Y RR wr hXr.lw.st.wh HQ.out.wf HT.out.2.1 hys (HLI.out.below (Nat.le_refl _) HB61.out) HRR.out
                        have HJ2 : ∀ W, Below wr.heap.size wr W → _ := fun W b => ref9_move p ((K : Int) + 1) (N : Int) p2 k2 n2 (.slice ay ny cy) (.slice a52 t c52) Y RR W ((HX61.out.below (HB61.out.trans (b.mono HB61.out.size))).lw.st.wh) HQ.out.wf HT.out.2.1 (HYS.out W b) (HLI.out.below (Nat.le_refl _) (HB61.out.trans (b.mono HB61.out.size)))
                        rw [hEM, hDM] at HJ1
                        simp only [hEM, hDM] at HJ2
                        unfold planV at HJ1 HJ2
                        have HJ1 := Lib.hid HJ1
                        have HJ2 := Lib.hid HJ2
                        have e1 : (EM != EM) = false := by simp
                        have HWS : Hid (w62.heap.size ≤ wr.heap.size) := HWz.out.size
                        clear hvy hys hcz hXr hEM hDM
                        go_wp2_with fail
                        clear t0
                        refine HJ1.out.mono ?_
                        rintro e w64 ⟨va, rfl, hna, hb⟩
                        have HNA := Lib.hid hna.shares
                        have HDL : Hid (DM.length ≤ 1000) := by obtain ⟨_, _, _, h, _⟩ := hna; exact h
                        have HBw := Lib.hid hb
                        obtain ⟨c0, c1, c2, d0, d1, d2⟩ := (HX61.out.below (HB61.out.trans (hb.mono HB61.out.size))).cells
                        have HJ3 := Lib.hid (HJ2.out w64 hb)
                        clear hna hb HJ1 HJ2
                        go_wp2_with fail
                        refine HJ3.out.mono ?_
                        rintro e w65 ⟨vb, rfl, hnb, hb⟩
                        have HNA := Lib.hid (HNA.out.below (Nat.le_refl _) hb)
                        have HNB := Lib.hid (hnb.shares HDL.out)
                        have HBw := Lib.hid (HBw.out.trans (hb.mono HBw.out.size))
                        clear hnb hb HJ3 c0 c1 c2 d0 d1 d2
                        go_wp2_with fail
                        refine (sameS_yes va vb DM w65 HNA.out HNB.out).mono ?_
                        rintro e w66 ⟨rfl, hb⟩
                        have HW66 := Lib.hid (HWz.out.trans ((HBw.out.trans (hb.mono HBw.out.size)).mono HWS.out))
                        clear hb
                        go_wp2_with fail
                        go_roundw
                        case rel => exact ⟨u + 1, by omega, by go_num, HW66⟩
                        case measure => simp [intOf]; omega
                      · obtain rfl : u = 3 := by omega
                        have HXF := Lib.hid (HX61.out.below HB61.out)
                        go_wp2_with fail
                        refine HXF.out.awake.mono ?_
                        rintro e w70 ⟨rfl, hb⟩
                        have HBF := Lib.hid (HB1.out.trans (hb.mono HGG.out))
                        clear hb
                        go_wp2
                        go_ret
                        exact ⟨rfl, HBF.out⟩
end Go.Proofs.YtomnncainedjdaaDoor
