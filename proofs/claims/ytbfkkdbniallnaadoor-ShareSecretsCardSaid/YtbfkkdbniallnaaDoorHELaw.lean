
/- The walk through ShareSecrets. -/
import Derived.Test.YtbfkkdbniallnaaDoorHSh
namespace Go.Proofs.YtbfkkdbniallnaaDoor
open Go.RowKit Go.Sort
open Num
set_option linter.unusedVariables false

set_option maxRecDepth 100000 in
set_option maxHeartbeats 8000000 in
theorem shareSecrets_walkF (F : Sh) (s : Value) (l : List Int) (w : World) (hw : Wheel w) (hs : Ints w s l) :
    Calls Tryd.prog 6 #[s] w fun e w' => e = .returned (.bool true) ∧ Below w.heap.size w w' := by
  have HL := Lib.hid (light_any s l w hs)
  have HAW := Lib.hid (awake6_any F w hw)
  obtain ⟨g, hg⟩ : ∃ g, w.heap.size = g := ⟨_, rfl⟩
  have hd0 := dice_new hs
  have hta : 0 < g := by rw [← hg]; exact hw.size
  obtain ⟨bl, hbl⟩ : ∃ b, decide ((l.length : Int) ≤ 500) = b := ⟨_, rfl⟩
  rw [hbl] at HL
  have HR := Lib.hid (roll_any s w (by obtain ⟨a, c, h, _⟩ := hs; exact ⟨a, _, c, h⟩))
  rw [hg] at HR hd0
  rw [hg]
  have HW0 := Lib.hid (hw.below hw.size ((Below.refl w.heap.size w).alloc (Nat.le_refl _) (.cells #[s, .int .i64 0] 69)))
  have HB0 : Hid (Below g w (w.alloc (.cells #[s, .int .i64 0] 69))) := by rw [← hg]; exact (Below.refl _ _).alloc (Nat.le_refl _) _
  have HD0 := Lib.hid hd0
  clear hd0 hw hs hbl
  cases bl with
  | false =>
    go_enter Tryd.func6, Tryd.ntmps6
    go_wp2_with fail
    refine HL.out.mono ?_
    rintro e w' ⟨rfl, rfl⟩
    go_wp2_with fail
    refine HAW.out.mono ?_
    rintro e w' ⟨rfl, hb⟩
    rw [hg] at hb
    have HB := Lib.hid hb
    clear hb
    go_wp2
    go_ret
    exact ⟨rfl, HB.out⟩
  | true =>
    go_enter Tryd.func6, Tryd.ntmps6
    go_wp2_with fail
    refine HL.out.mono ?_
    rintro e w' ⟨rfl, rfl⟩
    go_wp2_with fail
    refine HR.out.mono ?_
    rintro e w1 ⟨rfl, rfl⟩
    generalize w.alloc (.cells #[s, .int .i64 0] 69) = w1 at *
    go_wp2_with fail
    refine (prime_any g s l w1 HD0.out).mono ?_
    rintro e w2 ⟨p, hprm, hp2, rfl, hd2, hb2⟩
    have HPRM := Lib.hid hprm
    have hpp : 2 ≤ p := by have := hprm.1; omega
    have HP2 := Lib.hid hp2
    have HD2 := Lib.hid hd2
    have HB2 := Lib.hid (HB0.out.trans (hb2.below (Nat.le_refl _) (Nat.le_of_lt HD0.out.size)))
    have HW2 := Lib.hid (HW0.out.below hta (hb2.below (Nat.le_refl _) (Nat.le_of_lt HD0.out.size)))
    clear hb2 hd2 hprm HD0 HB0 HW0 HL HR
    go_wp2_with fail
    refine (plan_any g s l p w2 HD2.out hpp (by omega)).mono ?_
    rintro e w3 ⟨k, n, rfl, hk1, hkn, hn7, hnp, hd3, hb3⟩
    have HPB : Hid (planB p k n = true) := planB_of HPRM.out (by have := HP2.out; omega) hk1 hkn (by omega) hnp
    obtain ⟨K, hK⟩ := Int.eq_ofNat_of_zero_le (show 0 ≤ k - 1 by omega)
    obtain ⟨N, rfl⟩ := Int.eq_ofNat_of_zero_le (show 0 ≤ n by omega)
    obtain rfl : k = (K : Int) + 1 := by omega
    have HKN : Hid (K + 1 ≤ N ∧ N ≤ 7) := ⟨by omega, by omega⟩
    have HNP := Lib.hid hnp
    have hb3' := hb3.below (Nat.le_refl _) (Nat.le_of_lt HD2.out.size)
    have hg3 : g < w3.heap.size := hd3.size
    have hST : StL w (w3.alloc (.cells #[.int .i64 p, .int .i64 ((K : Int) + 1), .int .i64 (N : Int)] 24)) g w3.heap.size s l p ((K : Int) + 1) (N : Int) := by
      have hal : Below w3.heap.size w3 (w3.alloc (.cells #[.int .i64 p, .int .i64 ((K : Int) + 1), .int .i64 (N : Int)] 24)) := (Below.refl _ _).alloc (Nat.le_refl _) _
      exact ⟨hd3.below hal hg3, planAt_new _ _ _ _ _, (HW2.out.below hta hb3').below (by omega) hal, (HB2.out.trans hb3').trans (hal.mono (by omega)), hg3, by simp, hta⟩
    have HST := Lib.hid hST
    unfold planV
    clear hST hb3 hb3' hg3 hd3 HB2 HW2 HD2 hK hk1 hkn hn7 hnp hp2
    go_wp2_with fail
    have HG3 : Hid (g < w3.heap.size) := HST.out.lt
    obtain ⟨gp, hgp⟩ : ∃ gp, w3.heap.size = gp := ⟨_, rfl⟩
    rw [hgp] at HST HG3 ⊢
    generalize w3.alloc (.cells #[.int .i64 p, .int .i64 ((K : Int) + 1), .int .i64 (N : Int)] 24) = w4 at *
    clear hgp
    have HSD : Hid (StL w w4.drew g gp s l p ((K : Int) + 1) (N : Int)) := HST.out.below ((Below.refl _ _).drew)
    have c0 := HST.out.pl.c0
    have hpm : p ≤ 1073741824 := by have := HP2.out; omega
    have hp1 : 1 ≤ p := by omega
    clear HST
    go_region_held3 (fun W' => W'.cell? ⟨gp, 0, none⟩ = some (.int .i64 p)) (first | go_keep | exact HSK)
      (first
        | (go_at_call 17; refine (next_any g s l 4 w4.drew HSD.out.di (by omega) (by omega)).mono ?_; rintro e w5 ⟨r, r0, r1, rfl, hd, hb⟩; have HS5 := Lib.hid (HSD.out.but hb hd); have HSK := HS5.out.pl.c0; obtain ⟨c, hc⟩ := Int.eq_ofNat_of_zero_le (show 0 ≤ 1 + r by omega); have hwr : IntKind.i64.wrap (1 + r) = (c : Int) := (by rw [IntKind.wrap_i64]; omega); have HCC := Lib.hid (show 1 ≤ c ∧ c ≤ 4 by omega); clear hd hb hc r0 r1)
        | (go_at_call 16; refine (dice_elements g s l p c w5 HS5.out.di hp1 hpm (by have := HCC.out; omega)).mono ?_; rintro e w6 ⟨v5, S, rfl, hsl, hse, hsg, hd, hb⟩; have HS6 := Lib.hid (HS5.out.but hb hd); have HSK := HS6.out.pl.c0; have HSL := Lib.hid hsl; have HSE := Lib.hid hse; have HSG := Lib.hid (hsg.mono (Nat.le_of_lt HS5.out.sz)); clear hd hb hsl hse hsg))
    obtain ⟨a5, cc5, rfl⟩ := HSG.out.shape
    rw [HSL.out] at HSG ⊢
    obtain ⟨Z, hZ⟩ : ∃ Z, c * K = Z := ⟨_, rfl⟩
    have hZb : Z ≤ 1000000 := by
      have h1 : c * K ≤ 4 * 7 := Nat.mul_le_mul HCC.out.2 (by have := HKN.out; omega)
      omega
    have HRN : Hid (∀ W, Wheel W → Calls Tryd.prog 23 #[.agg #[.int .i64 p, .int .i64 ((K : Int) + 1), .int .i64 (N : Int)], .int .i64 (c : Int)] W fun e w' => e = .returned (.int .i64 (Z : Int)) ∧ Below W.heap.size W w') := fun W hW => by
      have h := F.random p ((K : Int) + 1) (N : Int) c W hW (by omega) (by have := HKN.out; omega) (by have := HCC.out; omega)
      rw [show (c : Int) * ((K : Int) + 1 - 1) = (Z : Int) by rw [← hZ, Int.add_sub_cancel]; push_cast; rfl] at h
      exact h
    have HDQ : Hid (∀ (v8 : Value) (R : List Int) (W : World), Wheel W → Slc W (.slice a5 c cc5) S → Slc W v8 R → R.length = Z → Els p R → Calls Tryd.prog 20 #[.agg #[.int .i64 p, .int .i64 ((K : Int) + 1), .int .i64 (N : Int)], .slice a5 c cc5, v8] W fun e w' => ∃ v, e = .returned (.tuple #[v, .int .i64 0]) ∧ SharesN w' W.heap.size v (dealF p K N S R) ∧ Below W.heap.size W w') := fun v8 R W hW h1 h2 h3 h4 => by
      have h := F.deal p ((K : Int) + 1) (N : Int) (.slice a5 c cc5) v8 S R W hW (wf_small hp1 hpm) h1 h2 (by rw [HSL.out]; have := HCC.out; omega) (by omega)
      have hk := deal_ok_of (K := K) (N := N) (s := S) (r := R) HPB.out (by omega) rfl HSE.out h4 (by rw [HSL.out, h3, hZ])
      rw [hk.1, hk.2] at h
      exact h
    have HSD6 : Hid (StL w w6.drew g gp s l p ((K : Int) + 1) (N : Int)) := HS6.out.below ((Below.refl _ _).drew)
    have HSG6 : Hid (Gath w6.drew gp (.slice a5 c cc5) S) := HSG.out
    have c0 := HS6.out.pl.c0
    have c1 := HS6.out.pl.c1
    have c2 := HS6.out.pl.c2
    clear HSK HS5 HS6 HSG HSD hwr hZ
    go_wp2_with fail
    go_region_held3 (fun W' => W'.cell? ⟨gp, 0, none⟩ = some (.int .i64 p) ∧ W'.cell? ⟨gp, 1, none⟩ = some (.int .i64 ((K : Int) + 1)) ∧ W'.cell? ⟨gp, 2, none⟩ = some (.int .i64 (N : Int))) (first | go_keep | exact HSK)
      (first
        | (go_at_call 23; refine (HRN.out w6.drew HSD6.out.wh).mono ?_; rintro e w7 ⟨rfl, hb⟩; have HS7 := Lib.hid (HSD6.out.below hb); have HSK := And.intro HS7.out.pl.c0 (And.intro HS7.out.pl.c1 HS7.out.pl.c2); have HSG7 := Lib.hid (HSG6.out.kept hb (Nat.le_refl _)); clear hb)
        | (go_at_call 16; refine (dice_elements g s l p Z w7 HS7.out.di hp1 hpm hZb).mono ?_; rintro e w8 ⟨v8, R, rfl, hrl, hre, hrg, hd, hb⟩; have HS8 := Lib.hid (HS7.out.but hb hd); have HSK := And.intro HS8.out.pl.c0 (And.intro HS8.out.pl.c1 HS8.out.pl.c2); have HSG8 := Lib.hid (HSG7.out.but hb HG3.out); have HRL := Lib.hid hrl; have HRE := Lib.hid hre; have HRG := Lib.hid (hrg.slc (by omega)); clear hd hb hrl hre hrg)
        | (go_at_call 20; refine (HDQ.out v8 R w8 HS8.out.wh (HSG8.out.slc (by rw [HSL.out]; have := HCC.out; omega)) HRG.out HRL.out HRE.out).mono ?_; rintro e w9 ⟨v9, rfl, hn9, hb⟩; have HS9 := Lib.hid (HS8.out.below hb); have HSK := And.intro HS9.out.pl.c0 (And.intro HS9.out.pl.c1 HS9.out.pl.c2); have HSG9 := Lib.hid (HSG8.out.kept hb (Nat.le_refl _)); have HN9 := Lib.hid (hn9.mono (Nat.succ_le_of_lt (Nat.lt_trans HS8.out.lt HS8.out.sz))); clear hb hn9))
    obtain ⟨a9, c9, rfl, hc9, hc9b⟩ := HN9.out.shape
    have HDL : Hid ((dealF p K N S R).length = N) := dealF_len _ _ _ _ _
    have hSb : S.length ≤ 2048 := by rw [HSL.out]; have := HCC.out; omega
    have hGD := dealF_gd hp1 K N S R
    have hON := dealF_on p K N S R
    have HTU := Lib.hid (turn_any g s l _ _ (K + 1) w9 HS9.out.di HN9.out.shares (fun x hx => by rw [hGD.len x hx]; omega) (by rw [HDL.out]; have := HKN.out; omega) (by have := HKN.out; omega))
    rw [show ((K + 1 : Nat) : Int) = (K : Int) + 1 by push_cast; rfl] at HTU
    rw [HDL.out] at HTU hc9 ⊢
    have HGD := Lib.hid hGD
    have HON := Lib.hid hON
    have c1 := HS9.out.pl.c1
    have c2 := HS9.out.pl.c2
    have n1 : ((N : Int) != (N : Int)) = false := by simp
    have HG9 : Hid (g < w9.heap.size) := Nat.lt_trans HS9.out.lt HS9.out.sz
    have HFA : Hid (fitB p ((K : Int) + 1) (N : Int) (dealF p K N S R) = true) := fitB_on (K := K + 1) HPB.out (by push_cast; rfl) rfl hGD hSb hON
    have HSBB := Lib.hid hSb
    clear HSK HSG6 HSD6 HS7 HSG7 HS8 HSG8 HRG HDQ HRN c0 hGD hON hSb
    go_wp2_with fail
    refine HTU.out.mono ?_
    rintro e w10 ⟨v10, L2, m, rfl, hperm, hm1, hm2, hn10, hd10, hb10⟩
    have HS10 := Lib.hid (HS9.out.but hb10 hd10)
    have HN9t := Lib.hid (HN9.out.but hb10 (Nat.lt_succ_self g))
    have HSG10 := Lib.hid (HSG9.out.but hb10 HG3.out)
    have hlq : (L2.take m).length = m := by rw [List.length_take, hperm.length_eq, HDL.out]; omega
    obtain ⟨Q, hQ⟩ : ∃ Q, L2.take m = Q := ⟨_, rfl⟩
    have hgq : Gd p N S.length Q := by rw [← hQ]; exact turn_gd HGD.out hperm m
    have hoq : On p (K + 1) S.length (polyL K S R) Q := by rw [← hQ]; exact turn_on HON.out hperm m
    rw [hQ] at hn10 hlq
    have hkm : K + 1 ≤ m := by have := HKN.out; omega
    have hgb := goodB_of_gd HPRM.out hpm hgq HSBB.out
    have hcq := combE_ok (K := K + 1) HPB.out hgb (by push_cast; rfl) (by omega)
    rw [secret_back HPRM.out HNP.out HSE.out hgq hoq (by omega)] at hcq
    have HFQ : Hid (fitB p ((K : Int) + 1) (N : Int) Q = true) := fitB_on (K := K + 1) HPB.out (by push_cast; rfl) rfl hgq HSBB.out hoq
    have hcf := combE_few (K := K + 1) (L := Q.take K) HPB.out (goodB_of_gd HPRM.out hpm (hgq.take K) HSBB.out) (by push_cast; rfl) (by rw [List.length_take]; omega)
    have HLQ := Lib.hid hlq
    obtain ⟨a10, c10, rfl, hc10, hc10b⟩ := hn10.shape
    have HNQ := Lib.hid hn10.shares
    rw [hlq] at hc10 HNQ ⊢
    obtain ⟨bq, oq, vq, rfl, _⟩ := HNQ.out.at (i := 0) (by omega)
    have HC1 : Hid (Calls Tryd.prog 29 #[.agg #[.int .i64 p, .int .i64 ((K : Int) + 1), .int .i64 (N : Int)], .slice (some ⟨bq, oq, none⟩) m c10] w10 fun e w' => ∃ v', e = .returned (.tuple #[v', .int .i64 0]) ∧ Ints w' v' S ∧ Below w10.heap.size w10 w') := by
      have h := F.combine p ((K : Int) + 1) (N : Int) (.slice (some ⟨bq, oq, none⟩) m c10) Q w10 HS10.out.wh (wf_small hp1 hpm) HNQ.out
      rw [hcq.1, hcq.2] at h
      exact h
    have hm7 : m ≤ 7 := by have := HKN.out; omega
    have HKC : Hid (Shares w10 (.slice (some ⟨bq, oq, none⟩) K c10) (Q.take K)) := HNQ.out.take K c10 (by omega) (by omega) hc10b
    have HC2 : Hid (∀ W, Below w10.heap.size w10 W → Wheel W → Calls Tryd.prog 29 #[.agg #[.int .i64 p, .int .i64 ((K : Int) + 1), .int .i64 (N : Int)], .slice (some ⟨bq, oq, none⟩) K c10] W fun e w' => ∃ v', e = .returned (.tuple #[v', .int .i64 5]) ∧ Below W.heap.size W w') := fun W hb hW => by
      have h := F.combine p ((K : Int) + 1) (N : Int) (.slice (some ⟨bq, oq, none⟩) K c10) (Q.take K) W hW (wf_small hp1 hpm) (HKC.out.below (Nat.le_refl _) hb)
      rw [hcf] at h
      exact h.mono fun e w' ⟨v, h1, _, h2⟩ => ⟨v, h1, h2⟩
    have HF1 : Hid (∀ W, Below w10.heap.size w10 W → Wheel W → Calls Tryd.prog 32 #[.agg #[.int .i64 p, .int .i64 ((K : Int) + 1), .int .i64 (N : Int)], .slice a9 N c9] W fun e w' => e = .returned (.bool true) ∧ Below W.heap.size W w') := fun W hb hW => by
      have h := F.fits p ((K : Int) + 1) (N : Int) (.slice a9 N c9) (dealF p K N S R) W hW (wf_small hp1 hpm) (by have h := (HN9t.out.below hb (Nat.le_refl _)).shares; rw [HDL.out] at h; exact h)
      rw [HFA.out] at h
      exact h
    have HF2 : Hid (∀ W, Below w10.heap.size w10 W → Wheel W → Calls Tryd.prog 32 #[.agg #[.int .i64 p, .int .i64 ((K : Int) + 1), .int .i64 (N : Int)], .slice (some ⟨bq, oq, none⟩) m c10] W fun e w' => e = .returned (.bool true) ∧ Below W.heap.size W w') := fun W hb hW => by
      have h := F.fits p ((K : Int) + 1) (N : Int) (.slice (some ⟨bq, oq, none⟩) m c10) Q W hW (wf_small hp1 hpm) (HNQ.out.below (Nat.le_refl _) hb)
      rw [HFQ.out] at h
      exact h
    have c0 := HS10.out.pl.c0
    have c1 := HS10.out.pl.c1
    have c2 := HS10.out.pl.c2
    clear hperm hm1 hm2 hn10 hd10 hb10 hlq hQ hgq hoq hgb hcq hcf HTU HN9 HN9t HS9 HSG9 HFA HFQ HGD HON HKC n1
    go_wp2_with fail
    refine HC1.out.mono ?_
    rintro e w11 ⟨v11, rfl, hi11, hb11⟩
    have HS11 := Lib.hid (HS10.out.below hb11)
    have HI11 := Lib.hid hi11
    have HB11 := Lib.hid hb11
    have HSG11 := Lib.hid (HSG10.out.kept hb11 (Nat.le_refl _))
    have HSD11 : Hid (StL w w11.drew g gp s l p ((K : Int) + 1) (N : Int)) := HS11.out.below ((Below.refl _ _).drew)
    have HBD11 : Hid (Below w10.heap.size w10 w11.drew) := hb11.drew
    have c0 := HS11.out.pl.c0
    have c1 := HS11.out.pl.c1
    have c2 := HS11.out.pl.c2
    have hw7 : IntKind.i64.wrap ((K : Int) + 1 - 1) = (K : Int) := by rw [Int.add_sub_cancel, IntKind.wrap_i64]; omega
    have hw8 : IntKind.i64.wrap (K : Int) = (K : Int) := by rw [IntKind.wrap_i64]; omega
    have hK7 : K ≤ 7 := by omega
    have hkc : K ≤ c10 := by omega
    have hkc2 : (K : Int) ≤ (c10 : Int) := by omega
    have hkc3 : (0 : Int) ≤ (K : Int) := by omega
    clear hi11 hb11 HC1 HSG10
    go_wp2_with fail
    go_region_held3? (fun W' => W'.cell? ⟨gp, 0, none⟩ = some (.int .i64 p) ∧ W'.cell? ⟨gp, 1, none⟩ = some (.int .i64 ((K : Int) + 1)) ∧ W'.cell? ⟨gp, 2, none⟩ = some (.int .i64 (N : Int))) (first | go_keep | exact HSK)
      (first
        | (go_at_call 29; refine (HC2.out w11.drew HBD11.out HSD11.out.wh).mono ?_; rintro e w12 ⟨v12, rfl, hb⟩; have HS12 := Lib.hid (HSD11.out.below hb); have HSK := And.intro HS12.out.pl.c0 (And.intro HS12.out.pl.c1 HS12.out.pl.c2); have HB12 := Lib.hid hb; clear hb))
    have HBX : Hid (Below w10.heap.size w10 w12) := HBD11.out.trans (HB12.out.mono HBD11.out.size)
    have HI12 := Lib.hid ((HI11.out.below (Nat.le_refl _) (Below.refl _ _).drew).below (Nat.le_refl _) HB12.out)
    have hg12 : Gath w12 gp (.slice a5 c cc5) S := Gath.kept (w := w11.drew) HSG11.out HB12.out (Nat.le_refl _)
    have HJ12 : Hid (Ints w12 (.slice a5 c cc5) S) := hg12.reads (by rw [HSL.out]; have := HCC.out; omega)
    have HSA := Lib.hid (same_yes v11 (.slice a5 c cc5) S w12 HI12.out HJ12.out)
    have HWW := Lib.hid HS12.out.wh
    have c0 := HS12.out.pl.c0
    have c1 := HS12.out.pl.c1
    have c2 := HS12.out.pl.c2
    clear HSK hg12 HS11 HSD11 HSG11 HI11 HB11 HBD11 HB12 HC2
    go_wp2_with fail
    refine HSA.out.mono ?_
    rintro e w' ⟨rfl, rfl⟩
    go_wp2_with fail
    refine (HF1.out _ HBX.out HS12.out.wh).mono ?_
    rintro e w13 ⟨rfl, hb13⟩
    have HS13 := Lib.hid (HS12.out.below hb13)
    have HBY : Hid (Below w10.heap.size w10 w13) := HBX.out.trans (hb13.mono HBX.out.size)
    have c0 := HS13.out.pl.c0
    have c1 := HS13.out.pl.c1
    have c2 := HS13.out.pl.c2
    clear hb13
    go_wp2_with fail
    refine (HF2.out _ HBY.out HS13.out.wh).mono ?_
    rintro e w14 ⟨rfl, hb14⟩
    have HS14 := Lib.hid (HS13.out.below hb14)
    clear hb14 c0 c1 c2
    go_wp2_with fail
    refine (awake6_any F w14 HS14.out.wh).mono ?_
    rintro e w15 ⟨rfl, hb15⟩
    have HBF : Hid (Below g w w15) := HS14.out.be.trans (hb15.mono (Nat.le_of_lt (Nat.lt_trans HS14.out.lt HS14.out.sz)))
    clear hb15
    go_wp2
    go_ret
    exact ⟨rfl, HBF.out⟩
end Go.Proofs.YtbfkkdbniallnaaDoor
