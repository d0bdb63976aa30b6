
/- The walk through ShareSums. -/
import Derived.Test.YtbfkkdbniallnaaDoorHSum
namespace Go.Proofs.YtbfkkdbniallnaaDoor
open Go.RowKit Go.Sort
open Num
set_option linter.unusedVariables false

set_option maxRecDepth 100000 in
set_option maxHeartbeats 8000000 in
theorem shareSums_walkF (F : Sh) (s : Value) (l : List Int) (cc : Int) (w : World) (hw : Wheel w) (hs : Ints w s l) :
    Calls Tryd.prog 9 #[s, .int .i64 cc] w fun e w' => e = .returned (.bool true) ∧ Below w.heap.size w w' := by
  have HL := Lib.hid (light_any s l w hs)
  have HAW := Lib.hid (awake6_any F w hw)
  obtain ⟨g, hg⟩ : ∃ g, w.heap.size = g := ⟨_, rfl⟩
  have hd0 := dice_new hs
  have hta : 0 < g := by rw [← hg]; exact hw.size
  obtain ⟨bl, hbl⟩ : ∃ b, decide ((l.length : Int) ≤ 500) = b := ⟨_, rfl⟩
  rw [hbl] at HL
  have HR := Lib.hid (roll_any s w (by obtain ⟨a, c, h, _⟩ := hs; exact ⟨a, _, c, h⟩))
  rw [hg] at HR hd0
  rw [hg]
  have HW0 := Lib.hid (hw.below hw.size ((Below.refl w.heap.size w).alloc (Nat.le_refl _) (.cells #[s, .int .i64 0] 69)))
  have HB0 : Hid (Below g w (w.alloc (.cells #[s, .int .i64 0] 69))) := by rw [← hg]; exact (Below.refl _ _).alloc (Nat.le_refl _) _
  have HD0 := Lib.hid hd0
  clear hd0 hw hs hbl
  cases bl with
  | false =>
    go_enter Tryd.func9, Tryd.ntmps9
    go_wp2_with fail
    refine HL.out.mono ?_
    rintro e w' ⟨rfl, rfl⟩
    go_wp2_with fail
    refine HAW.out.mono ?_
    rintro e w' ⟨rfl, hb⟩
    rw [hg] at hb
    have HB := Lib.hid hb
    clear hb
    go_wp2
    go_ret
    exact ⟨rfl, HB.out⟩
  | true =>
    go_enter Tryd.func9, Tryd.ntmps9
    go_wp2_with fail
    refine HL.out.mono ?_
    rintro e w' ⟨rfl, rfl⟩
    go_wp2_with fail
    refine HR.out.mono ?_
    rintro e w1 ⟨rfl, rfl⟩
    generalize w.alloc (.cells #[s, .int .i64 0] 69) = w1 at *
    go_wp2_with fail
    refine (prime_any g s l w1 HD0.out).mono ?_
    rintro e w2 ⟨p, hprm, hp2, rfl, hd2, hb2⟩
    have HPRM := Lib.hid hprm
    have hpp : 2 ≤ p := by have := hprm.1; omega
    have HP2 := Lib.hid hp2
    have HD2 := Lib.hid hd2
    have HB2 := Lib.hid (HB0.out.trans (hb2.below (Nat.le_refl _) (Nat.le_of_lt HD0.out.size)))
    have HW2 := Lib.hid (HW0.out.below hta (hb2.below (Nat.le_refl _) (Nat.le_of_lt HD0.out.size)))
    clear hb2 hd2 hprm HD0 HB0 HW0 HL HR
    go_wp2_with fail
    refine (plan_any g s l p w2 HD2.out hpp (by omega)).mono ?_
    rintro e w3 ⟨k, n, rfl, hk1, hkn, hn7, hnp, hd3, hb3⟩
    have HPB : Hid (planB p k n = true) := planB_of HPRM.out (by have := HP2.out; omega) hk1 hkn (by omega) hnp
    obtain ⟨K, hK⟩ := Int.eq_ofNat_of_zero_le (show 0 ≤ k - 1 by omega)
    obtain ⟨N, rfl⟩ := Int.eq_ofNat_of_zero_le (show 0 ≤ n by omega)
    obtain rfl : k = (K : Int) + 1 := by omega
    have HKN : Hid (K + 1 ≤ N ∧ N ≤ 7) := ⟨by omega, by omega⟩
    have HNP := Lib.hid hnp
    have hb3' := hb3.below (Nat.le_refl _) (Nat.le_of_lt HD2.out.size)
    have hg3 : g < w3.heap.size := hd3.size
    have hST : StL w (w3.alloc (.cells #[.int .i64 p, .int .i64 ((K : Int) + 1), .int .i64 (N : Int)] 24)) g w3.heap.size s l p ((K : Int) + 1) (N : Int) := by
      have hal : Below w3.heap.size w3 (w3.alloc (.cells #[.int .i64 p, .int .i64 ((K : Int) + 1), .int .i64 (N : Int)] 24)) := (Below.refl _ _).alloc (Nat.le_refl _) _
      exact ⟨hd3.below hal hg3, planAt_new _ _ _ _ _, (HW2.out.below hta hb3').below (by omega) hal, (HB2.out.trans hb3').trans (hal.mono (by omega)), hg3, by simp, hta⟩
    have HST := Lib.hid hST
    unfold planV
    clear hST hb3 hb3' hg3 hd3 HB2 HW2 HD2 hK hk1 hkn hn7 hnp hp2
    go_wp2_with fail
    have HG3 : Hid (g < w3.heap.size) := HST.out.lt
    obtain ⟨gp, hgp⟩ : ∃ gp, w3.heap.size = gp := ⟨_, rfl⟩
    rw [hgp] at HST HG3 ⊢
    generalize w3.alloc (.cells #[.int .i64 p, .int .i64 ((K : Int) + 1), .int .i64 (N : Int)] 24) = w4 at *
    clear hgp
    have c0 := HST.out.pl.c0
    have hpm : p ≤ 1073741824 := by have := HP2.out; omega
    have hp1 : 1 ≤ p := by omega
    go_wp2_with fail
    refine (next_any g s l 3 w4 HST.out.di (by omega) (by omega)).mono ?_
    rintro e w5 ⟨r, r0, r1, rfl, hd, hb⟩
    obtain ⟨c, hc⟩ := Int.eq_ofNat_of_zero_le (show 0 ≤ 1 + r by omega)
    have hwr : IntKind.i64.wrap (1 + r) = (c : Int) := by rw [IntKind.wrap_i64]; omega
    have HCC := Lib.hid (show 1 ≤ c ∧ c ≤ 3 by omega)
    have HS5 := Lib.hid (HST.out.but hb hd)
    have HSD : Hid (StL w w5.drew g gp s l p ((K : Int) + 1) (N : Int)) := HS5.out.below ((Below.refl _ _).drew)
    have c0 := HS5.out.pl.c0
    clear hd hb hc r0 r1 HST
    go_wp2_with fail
    clear hwr
    go_region_held3 (fun W' => W'.cell? ⟨gp, 0, none⟩ = some (.int .i64 p)) (first | go_keep | exact HSK)
      (first
        | (go_at_call 16; refine (dice_elements g s l p c w5.drew HSD.out.di hp1 hpm (by have := HCC.out; omega)).mono ?_; rintro e w6 ⟨v8, A, rfl, hsl, hse, hsg, hd, hb⟩; have HS6 := Lib.hid (HSD.out.but hb hd); have HSK := HS6.out.pl.c0; have HAL := Lib.hid hsl; have HAE := Lib.hid hse; have HAG := Lib.hid (hsg.mono (Nat.le_of_lt HSD.out.sz)); clear hd hb hsl hse hsg)
        | (go_at_call 16; refine (dice_elements g s l p c w6 HS6.out.di hp1 hpm (by have := HCC.out; omega)).mono ?_; rintro e w7 ⟨v9, B, rfl, hsl, hse, hsg, hd, hb⟩; have HS7 := Lib.hid (HS6.out.but hb hd); have HSK := HS7.out.pl.c0; have HBL := Lib.hid hsl; have HBE := Lib.hid hse; have HBG := Lib.hid (hsg.mono (Nat.le_of_lt HS6.out.sz)); have HAG7 := Lib.hid (HAG.out.but hb HG3.out); clear hd hb hsl hse hsg))
    obtain ⟨aA, ccA, rfl⟩ := HAG7.out.shape
    obtain ⟨aB, ccB, rfl⟩ := HBG.out.shape
    rw [HAL.out] at HAG7 ⊢
    rw [HBL.out] at HBG ⊢
    clear HSK HS6 HAG HSD HS5
    obtain ⟨Z, hZ⟩ : ∃ Z, c * K = Z := ⟨_, rfl⟩
    have hZb : Z ≤ 1000000 := by
      have h1 : c * K ≤ 3 * 7 := Nat.mul_le_mul HCC.out.2 (by have := HKN.out; omega)
      omega
    have HRN : Hid (∀ W, Wheel W → Calls Tryd.prog 23 #[.agg #[.int .i64 p, .int .i64 ((K : Int) + 1), .int .i64 (N : Int)], .int .i64 (c : Int)] W fun e w' => e = .returned (.int .i64 (Z : Int)) ∧ Below W.heap.size W w') := fun W hW => by
      have h := F.random p ((K : Int) + 1) (N : Int) c W hW (by omega) (by have := HKN.out; omega) (by have := HCC.out; omega)
      rw [show (c : Int) * ((K : Int) + 1 - 1) = (Z : Int) by rw [← hZ, Int.add_sub_cancel]; push_cast; rfl] at h
      exact h
    have HZZ := Lib.hid hZ
    clear hZ
    have HDQA : Hid (∀ (v8 : Value) (R : List Int) (W : World), Wheel W → Slc W (.slice aA c ccA) A → Slc W v8 R → R.length = Z → Els p R → Calls Tryd.prog 20 #[.agg #[.int .i64 p, .int .i64 ((K : Int) + 1), .int .i64 (N : Int)], .slice aA c ccA, v8] W fun e w' => ∃ v, e = .returned (.tuple #[v, .int .i64 0]) ∧ SharesN w' W.heap.size v (dealF p K N A R) ∧ Below W.heap.size W w') := fun v8 R W hW h1 h2 h3 h4 => by
      have h := F.deal p ((K : Int) + 1) (N : Int) (.slice aA c ccA) v8 A R W hW (wf_small hp1 hpm) h1 h2 (by rw [HAL.out]; have := HCC.out; omega) (by omega)
      have hk := deal_ok_of (K := K) (N := N) (s := A) (r := R) HPB.out (by omega) rfl HAE.out h4 (by rw [HAL.out, h3, HZZ.out])
      rw [hk.1, hk.2] at h
      exact h
    have HSD7 : Hid (StL w w7.drew g gp s l p ((K : Int) + 1) (N : Int)) := HS7.out.below ((Below.refl _ _).drew)
    have c0 := HS7.out.pl.c0
    have c1 := HS7.out.pl.c1
    have c2 := HS7.out.pl.c2
    have GA7 : Hid (Gath w7.drew gp (.slice aA c ccA) A) := HAG7.out
    have GB7 : Hid (Gath w7.drew gp (.slice aB c ccB) B) := HBG.out
    go_wp2_with fail
    go_region_held3 (fun W' => W'.cell? ⟨gp, 0, none⟩ = some (.int .i64 p) ∧ W'.cell? ⟨gp, 1, none⟩ = some (.int .i64 ((K : Int) + 1)) ∧ W'.cell? ⟨gp, 2, none⟩ = some (.int .i64 (N : Int))) (first | go_keep | exact HSK)
      (first
        | (go_at_call 23; refine (HRN.out w7.drew HSD7.out.wh).mono ?_; rintro e w8 ⟨rfl, hb⟩; have HS8 := Lib.hid (HSD7.out.below hb); have HSK := And.intro HS8.out.pl.c0 (And.intro HS8.out.pl.c1 HS8.out.pl.c2); have KA1 := Lib.hid (GA7.out.kept hb (Nat.le_refl _)); have KB1 := Lib.hid (GB7.out.kept hb (Nat.le_refl _)); clear hb)
        | (go_at_call 16; refine (dice_elements g s l p Z w8 HS8.out.di hp1 hpm hZb).mono ?_; rintro e w9 ⟨vrA, RA, rfl, hrl, hre, hrg, hd, hb⟩; have HS9 := Lib.hid (HS8.out.but hb hd); have HSK := And.intro HS9.out.pl.c0 (And.intro HS9.out.pl.c1 HS9.out.pl.c2); have KA2 := Lib.hid (KA1.out.but hb HG3.out); have KB2 := Lib.hid (KB1.out.but hb HG3.out); have HRLA := Lib.hid hrl; have HREA := Lib.hid hre; have HRGA := Lib.hid (hrg.slc (by omega)); clear hd hb hrl hre hrg)
        | (go_at_call 20; refine (HDQA.out vrA RA w9 HS9.out.wh (KA2.out.slc (by rw [HAL.out]; have := HCC.out; omega)) HRGA.out HRLA.out HREA.out).mono ?_; rintro e w10 ⟨vlA, rfl, hnn, hb⟩; have HS10 := Lib.hid (HS9.out.below hb); have HSK := And.intro HS10.out.pl.c0 (And.intro HS10.out.pl.c1 HS10.out.pl.c2); have KA3 := Lib.hid (KA2.out.kept hb (Nat.le_refl _)); have KB3 := Lib.hid (KB2.out.kept hb (Nat.le_refl _)); have HNA := Lib.hid (hnn.mono (Nat.succ_le_of_lt (Nat.lt_trans HS9.out.lt HS9.out.sz))); clear hb hnn))
    obtain ⟨aL, cL, rfl, hcL, hcLb⟩ := HNA.out.shape
    have HLA : Hid ((dealF p K N A RA).length = N) := dealF_len _ _ _ _ _
    rw [HLA.out] at hcL HNA ⊢
    clear HSK HS7 HS8 HS9 GA7 GB7 KA1 KA2 KB1 KB2 HSD7 HRGA HAG7 HBG HDQA c0 c1 c2
    have HDQB : Hid (∀ (v8 : Value) (R : List Int) (W : World), Wheel W → Slc W (.slice aB c ccB) B → Slc W v8 R → R.length = Z → Els p R → Calls Tryd.prog 20 #[.agg #[.int .i64 p, .int .i64 ((K : Int) + 1), .int .i64 (N : Int)], .slice aB c ccB, v8] W fun e w' => ∃ v, e = .returned (.tuple #[v, .int .i64 0]) ∧ SharesN w' W.heap.size v (dealF p K N B R) ∧ Below W.heap.size W w') := fun v8 R W hW h1 h2 h3 h4 => by
      have h := F.deal p ((K : Int) + 1) (N : Int) (.slice aB c ccB) v8 B R W hW (wf_small hp1 hpm) h1 h2 (by rw [HBL.out]; have := HCC.out; omega) (by omega)
      have hk := deal_ok_of (K := K) (N := N) (s := B) (r := R) HPB.out (by omega) rfl HBE.out h4 (by rw [HBL.out, h3, HZZ.out])
      rw [hk.1, hk.2] at h
      exact h
    have HSD10 : Hid (StL w w10.drew g gp s l p ((K : Int) + 1) (N : Int)) := HS10.out.below ((Below.refl _ _).drew)
    have c0 := HS10.out.pl.c0
    have c1 := HS10.out.pl.c1
    have c2 := HS10.out.pl.c2
    have GA10 : Hid (Gath w10.drew gp (.slice aA c ccA) A) := KA3.out
    have GB10 : Hid (Gath w10.drew gp (.slice aB c ccB) B) := KB3.out
    have NA10 : Hid (SharesN w10.drew (g + 1) (.slice aL N cL) (dealF p K N A RA)) := HNA.out.below (Below.refl _ _).drew (Nat.le_refl _)
    go_wp2_with fail
    go_region_held3 (fun W' => W'.cell? ⟨gp, 0, none⟩ = some (.int .i64 p) ∧ W'.cell? ⟨gp, 1, none⟩ = some (.int .i64 ((K : Int) + 1)) ∧ W'.cell? ⟨gp, 2, none⟩ = some (.int .i64 (N : Int))) (first | go_keep | exact HSK)
      (first
        | (go_at_call 23; refine (HRN.out w10.drew HSD10.out.wh).mono ?_; rintro e w11 ⟨rfl, hb⟩; have HS11 := Lib.hid (HSD10.out.below hb); have HSK := And.intro HS11.out.pl.c0 (And.intro HS11.out.pl.c1 HS11.out.pl.c2); have JA1 := Lib.hid (GA10.out.kept hb (Nat.le_refl _)); have JB1 := Lib.hid (GB10.out.kept hb (Nat.le_refl _)); have MA1 := Lib.hid (NA10.out.below hb (Nat.le_refl _)); clear hb)
        | (go_at_call 16; refine (dice_elements g s l p Z w11 HS11.out.di hp1 hpm hZb).mono ?_; rintro e w12 ⟨vrB, RB, rfl, hrl, hre, hrg, hd, hb⟩; have HS12 := Lib.hid (HS11.out.but hb hd); have HSK := And.intro HS12.out.pl.c0 (And.intro HS12.out.pl.c1 HS12.out.pl.c2); have JA2 := Lib.hid (JA1.out.but hb HG3.out); have JB2 := Lib.hid (JB1.out.but hb HG3.out); have MA2 := Lib.hid (MA1.out.but hb (Nat.lt_succ_self g)); have HRLB := Lib.hid hrl; have HREB := Lib.hid hre; have HRGB := Lib.hid (hrg.slc (by omega)); clear hd hb hrl hre hrg)
        | (go_at_call 20; refine (HDQB.out vrB RB w12 HS12.out.wh (JB2.out.slc (by rw [HBL.out]; have := HCC.out; omega)) HRGB.out HRLB.out HREB.out).mono ?_; rintro e w13 ⟨vlB, rfl, hnn, hb⟩; have HS13 := Lib.hid (HS12.out.below hb); have HSK := And.intro HS13.out.pl.c0 (And.intro HS13.out.pl.c1 HS13.out.pl.c2); have JA3 := Lib.hid (JA2.out.kept hb (Nat.le_refl _)); have JB3 := Lib.hid (JB2.out.kept hb (Nat.le_refl _)); have MA3 := Lib.hid (MA2.out.below hb (Nat.le_refl _)); have HNB := Lib.hid (hnn.mono (Nat.succ_le_of_lt (Nat.lt_trans HS12.out.lt HS12.out.sz))); clear hb hnn))
    obtain ⟨aM, cM, rfl, hcM, hcMb⟩ := HNB.out.shape
    have HLB : Hid ((dealF p K N B RB).length = N) := dealF_len _ _ _ _ _
    rw [HLB.out] at hcM HNB ⊢
    have HMA := Lib.hid MA3.out
    have n1 : ((N : Int) != (N : Int)) = false := by simp
    have c0 := HS13.out.pl.c0
    clear HSK HS10 HS11 HS12 GA10 GB10 NA10 MA1 MA2 MA3 JA1 JA2 JB1 JB2 HSD10 HRGB HDQB HNA KA3 KB3 HRN
    go_wp2_with fail
    refine (mod_el w13 hp1 hpm).mono ?_
    rintro e w' ⟨kv, hkv, rfl, rfl⟩
    have HKV := Lib.hid hkv
    clear hkv n1
    obtain ⟨G, hG⟩ : ∃ G, w13.heap.size = G := ⟨_, rfl⟩
    have HGS : Hid (w13.heap.size = G) := hG
    have HW0 : Hid (Below G w13 w13) := Below.refl _ _
    have HU0 : Hid (GathS w13 G (.slice none 0 0) (sumF p K 0 A RA B RB kv)) := gathS_nil _ _
    have HAB : Hid (B.length = A.length) := by show _ = _; rw [HAL.out, HBL.out]
    clear hG
    go_wp2_with fail
    go_loopw [15, 16, 17, 18, 89] (fun v _ _ _ i wr => ∃ j : Nat, j ≤ N ∧ i = .int .i64 j ∧ Hid (GathS wr G v (sumF p K j A RA B RB kv)) ∧ Hid (Below G w13 wr)) (fun _ _ _ _ i _ => N - (intOf i).toNat)
    case atStart => exact ⟨0, Nat.zero_le _, rfl, HU0, HW0⟩
    case round =>
      obtain ⟨j, hj, rfl, HU, HW⟩ := hrel
      have HSR : Hid (StL w wr g gp s l p ((K : Int) + 1) (N : Int)) := HS13.out.below (by rw [HGS.out]; exact HW.out)
      by_cases hlt : j < N
      · have HNR1 := Lib.hid (HMA.out.below HW.out (Nat.le_of_eq HGS.out))
        have HNR2 := Lib.hid (HNB.out.below HW.out (Nat.le_of_eq HGS.out))
        obtain ⟨b1, o1, v1, rfl, s0, s1, hi1⟩ := HNR1.out.shares.at hlt
        obtain ⟨b2, o2, v2, rfl, t0, t1, hi2⟩ := HNR2.out.shares.at hlt
        have e1 : (dealF p K N A RA).getD j (0, []) = (((j + 1 : Nat) : Int), dealV p K A RA ((j + 1 : Nat) : Int)) := by simp [dealF, List.getD, hlt]
        have e2 : (dealF p K N B RB).getD j (0, []) = (((j + 1 : Nat) : Int), dealV p K B RB ((j + 1 : Nat) : Int)) := by simp [dealF, List.getD, hlt]
        rw [e1] at s0 hi1
        rw [e2] at t0 hi2
        simp only at s0 hi1 t0 hi2
        obtain ⟨h, hh⟩ : ∃ h, ((j + 1 : Nat) : Int) = h := ⟨_, rfl⟩
        obtain ⟨u, hu⟩ : ∃ u, dealV p K A RA h = u := ⟨_, rfl⟩
        obtain ⟨z, hz⟩ : ∃ z, dealV p K B RB h = z := ⟨_, rfl⟩
        rw [hh] at s0 hi1 t0 hi2
        rw [hu] at hi1
        rw [hz] at hi2
        have hul : u.length = c := by rw [← hu, dealV_len, HAL.out]
        have hzl : z.length = c := by rw [← hz, dealV_len, HBL.out]
        have hue : Els p u := by rw [← hu]; exact dealV_els hp1 _ _ _ _
        have hze : Els p z := by rw [← hz]; exact dealV_els hp1 _ _ _ _
        have HNX : Hid (sumF p K j A RA B RB kv ++ [(h, linF p u (linF p [] z kv) 1)] = sumF p K (j + 1) A RA B RB kv) := by
          show _ = _
          rw [sumF_succ, hh]
          unfold sumV
          rw [hu, hz]
        obtain ⟨au, cu, rfl⟩ := hi1.shape
        obtain ⟨az, cz, rfl⟩ := hi2.shape
        rw [hul] at s1 hi1
        rw [hzl] at t1 hi2
        obtain ⟨B0, hB0⟩ : ∃ B0, wr.heap.size = B0 := ⟨_, rfl⟩
        have hc3 : c ≤ 3 := HCC.out.2
        have HWH : Hid (∀ W, Below B0 wr W → Wheel W) := fun W hb => (HSR.out.below (by rw [hB0]; exact hb)).wh
        have HI1 : Hid (∀ W, Below B0 wr W → Ints W (.slice au c cu) u) := fun W hb => hi1.below (Nat.le_of_eq hB0) hb
        have HI2 : Hid (∀ W, Below B0 wr W → Ints W (.slice az c cz) z) := fun W hb => hi2.below (Nat.le_of_eq hB0) hb
        have HSC : Hid (∀ W, Below B0 wr W → Calls Tryd.prog 37 #[.agg #[.int .i64 p, .int .i64 ((K : Int) + 1), .int .i64 (N : Int)], .agg #[.int .i64 h, .slice az c cz], .int .i64 kv] W fun e w' => ∃ v', e = .returned (.agg #[.int .i64 h, v']) ∧ Gath w' W.heap.size v' (linF p [] z kv) ∧ Below W.heap.size W w') := fun W hb =>
          F.scale p ((K : Int) + 1) (N : Int) h kv (.slice az c cz) z W (HWH.out W hb) HPRM.out hpm HKV.out hze (HI2.out W hb) (by omega)
        have hok : addOk p ((K : Int) + 1) (N : Int) (h, u) (h, linF p [] z kv) := by
          have hb1 : (1 : Int) ≤ h := by omega
          have hb2 : h ≤ (N : Int) := by omega
          refine ⟨HPB.out, ?_, ?_, rfl, ?_⟩
          · unfold stB
            rw [decide_eq_true hb1, decide_eq_true hb2, elB_of HPRM.out hpm hue]; rfl
          · unfold stB
            rw [decide_eq_true hb1, decide_eq_true hb2, elB_of HPRM.out hpm (linF_els' hp1 _ _ _)]; rfl
          · show u.length = (linF p [] z kv).length
            rw [linF_len', hul, hzl]; simp
        have HAD : Hid (∀ W v', Below B0 wr W → Ints W v' (linF p [] z kv) → Calls Tryd.prog 34 #[.agg #[.int .i64 p, .int .i64 ((K : Int) + 1), .int .i64 (N : Int)], .agg #[.int .i64 h, .slice au c cu], .agg #[.int .i64 h, v']] W fun e w' => ∃ v, e = .returned (.tuple #[.agg #[.int .i64 h, v], .int .i64 0]) ∧ Gath w' W.heap.size v (linF p u (linF p [] z kv) 1) ∧ Below W.heap.size W w') := fun W v' hb hi => by
          have hx := F.add p ((K : Int) + 1) (N : Int) h h (.slice au c cu) v' u (linF p [] z kv) W (HWH.out W hb) (wf_small hp1 hpm) (HI1.out W hb) hi (by omega) (by rw [linF_len', hzl]; simp; omega)
          obtain ⟨k1, k2⟩ := addE_ok hok
          rw [k1, k2] at hx
          exact hx
        have c0 := HSR.out.pl.c0
        have c1 := HSR.out.pl.c1
        have c2 := HSR.out.pl.c2
        have HBZ := Lib.hid hB0
        have hgpb : gp < B0 := by rw [← hB0]; exact HSR.out.sz
        have hl1 := cell_lt s0
        have hl2 := cell_lt t0
        simp only at hl1 hl2
        rw [hB0] at hl1 hl2
        have HKP : Hid (∀ W, Below B0 wr W → (W.cell? ⟨gp, 0, none⟩ = some (.int .i64 p) ∧ W.cell? ⟨gp, 1, none⟩ = some (.int .i64 ((K : Int) + 1)) ∧ W.cell? ⟨gp, 2, none⟩ = some (.int .i64 (N : Int)) ∧ W.cell? ⟨b1, o1 + j * 2, none⟩ = some (.int .i64 h) ∧ W.cell? ⟨b1, o1 + j * 2 + 1, none⟩ = some (.slice au c cu) ∧ W.cell? ⟨b2, o2 + j * 2, none⟩ = some (.int .i64 h) ∧ W.cell? ⟨b2, o2 + j * 2 + 1, none⟩ = some (.slice az c cz))) := fun W hb =>
          ⟨by rw [hb.cell (p := ⟨gp, 0, none⟩) hgpb]; exact c0, by rw [hb.cell (p := ⟨gp, 1, none⟩) hgpb]; exact c1, by rw [hb.cell (p := ⟨gp, 2, none⟩) hgpb]; exact c2, by rw [hb.cell (p := ⟨b1, o1 + j * 2, none⟩) hl1]; exact s0, by rw [hb.cell (p := ⟨b1, o1 + j * 2 + 1, none⟩) hl1]; exact s1, by rw [hb.cell (p := ⟨b2, o2 + j * 2, none⟩) hl2]; exact t0, by rw [hb.cell (p := ⟨b2, o2 + j * 2 + 1, none⟩) hl2]; exact t1⟩
        have HBD : Hid (Below B0 wr wr.drew) := (Below.refl _ _).drew
        have HBA : Hid (Below B0 wr (wr.alloc (.cells #[.int .i64 0, .slice none 0 0] 55)).drew) := ((Below.refl _ _).alloc (Nat.le_of_eq hB0.symm) _).drew
        have HHH := Lib.hid hh
        have HLT : Hid ((linF p u (linF p [] z kv) 1).length ≤ 140737488355328) := by show _ ≤ _; rw [linF_len', linF_len', hul, hzl]; simp; omega
        have HLZ : Hid ((linF p [] z kv).length ≤ 140737488355328) := by show _ ≤ _; rw [linF_len', hzl]; simp; omega
        clear e1 e2 hh hu hz hul hzl hue hze hi1 hi2 hok hB0 hl1 hl2 hgpb
        go_wp2_with fail
        clear s0 s1 t0 t1 c0 c1 c2
        have HSK := HKP.out wr (Below.refl _ _)
        obtain ⟨c0, c1, c2, s0, s1, t0, t1⟩ := id HSK
        have hZT : ShAt (wr.alloc (.cells #[.int .i64 0, .slice none 0 0] 55)).drew wr.heap.size 0 (.slice none 0 0) := shAt_new wr 0 (.slice none 0 0) 55
        have HZT := Lib.hid hZT
        have HNW : Hid (∀ (W : World) (h : Int) (v : Value), ShAt (W.alloc (.cells #[.int .i64 h, v] 55)) W.heap.size h v) := fun W h v => shAt_new W h v _
        have HAL2 : Hid (∀ (W : World) o, Below B0 wr W → Below B0 wr (W.alloc o)) := fun W o hb => hb.trans ((Below.refl B0 W).alloc (by have h1 := hb.size; have h2 := HBZ.out; omega) o)
        have HN0 : Hid (∀ W : World, ShAt (W.alloc (.cells #[.int .i64 0, .slice none 0 0] 55)) W.heap.size 0 (.slice none 0 0)) := fun W => shAt_new W 0 _ _
        have HSZ : Hid (∀ W, Below B0 wr W → B0 ≤ W.heap.size) := fun W hb => by have h1 := hb.size; have h2 := HBZ.out; omega
        clear hZT
        have HFN : Hid (∀ (W : World) (q : Nat) (v : Value) (B1 : Nat), ShAt W q 0 (.slice none 0 0) → Gath W B1 v (linF p u (linF p [] z kv) 1) → q < B1 → B0 ≤ q → Below B0 wr W → (ShAt ((W.setCell ⟨q, 0, none⟩ (.int .i64 h)).setCell ⟨q, 1, none⟩ v) q h v ∧ Gath ((W.setCell ⟨q, 0, none⟩ (.int .i64 h)).setCell ⟨q, 1, none⟩ v) B0 v (linF p u (linF p [] z kv) 1) ∧ Below B0 wr ((W.setCell ⟨q, 0, none⟩ (.int .i64 h)).setCell ⟨q, 1, none⟩ v) ∧ ((W.setCell ⟨q, 0, none⟩ (.int .i64 h)).setCell ⟨q, 1, none⟩ v).heap.size = W.heap.size)) := fun W q v B1 h1 h2 h3 h4 h5 =>
          ⟨(h1.set0 h).set v, (gath_set_other (gath_set_other h2 h3 _ _) h3 _ _).mono (by omega), h5.trans ((set1_below _ 0 _ h4).trans (set1_below _ 1 _ h4)), by simp [World.setCell]⟩
        have HFN2 : Hid (∀ (W : World) (q : Nat) (v : Value) (B1 : Nat), ShAt W q 0 (.slice none 0 0) → Gath W B1 v (linF p u (linF p [] z kv) 1) → q < B1 → B0 ≤ q → Below B0 wr W → (((W.setCell ⟨q, 0, none⟩ (.int .i64 h)).setCell ⟨q, 1, none⟩ v).cell? ⟨gp, 0, none⟩ = some (.int .i64 p) ∧ ((W.setCell ⟨q, 0, none⟩ (.int .i64 h)).setCell ⟨q, 1, none⟩ v).cell? ⟨gp, 1, none⟩ = some (.int .i64 ((K : Int) + 1)) ∧ ((W.setCell ⟨q, 0, none⟩ (.int .i64 h)).setCell ⟨q, 1, none⟩ v).cell? ⟨gp, 2, none⟩ = some (.int .i64 (N : Int)) ∧ ((W.setCell ⟨q, 0, none⟩ (.int .i64 h)).setCell ⟨q, 1, none⟩ v).cell? ⟨b1, o1 + j * 2, none⟩ = some (.int .i64 h) ∧ ((W.setCell ⟨q, 0, none⟩ (.int .i64 h)).setCell ⟨q, 1, none⟩ v).cell? ⟨b1, o1 + j * 2 + 1, none⟩ = some (.slice au c cu) ∧ ((W.setCell ⟨q, 0, none⟩ (.int .i64 h)).setCell ⟨q, 1, none⟩ v).cell? ⟨b2, o2 + j * 2, none⟩ = some (.int .i64 h) ∧ ((W.setCell ⟨q, 0, none⟩ (.int .i64 h)).setCell ⟨q, 1, none⟩ v).cell? ⟨b2, o2 + j * 2 + 1, none⟩ = some (.slice az c cz))) := fun W q v B1 h1 h2 h3 h4 h5 => HKP.out _ (HFN.out W q v B1 h1 h2 h3 h4 h5).2.2.1
        apply region_oneS (fun v q W => Hid (ShAt W q h v) ∧ Hid (Gath W B0 v (linF p u (linF p [] z kv) 1)) ∧ Hid (Below B0 wr W))
        case hr =>
          refine wp_region_noPanic ?_
          go_region_held3 (fun W' => W'.cell? ⟨gp, 0, none⟩ = some (.int .i64 p) ∧ W'.cell? ⟨gp, 1, none⟩ = some (.int .i64 ((K : Int) + 1)) ∧ W'.cell? ⟨gp, 2, none⟩ = some (.int .i64 (N : Int)) ∧ W'.cell? ⟨b1, o1 + j * 2, none⟩ = some (.int .i64 h) ∧ W'.cell? ⟨b1, o1 + j * 2 + 1, none⟩ = some (.slice au c cu) ∧ W'.cell? ⟨b2, o2 + j * 2, none⟩ = some (.int .i64 h) ∧ W'.cell? ⟨b2, o2 + j * 2 + 1, none⟩ = some (.slice az c cz)) (first | go_keep | exact HSK | exact HSK1 | exact HSK2)
            (first
              | (go_at_call 37; with_reducible refine (HSC.out wr.drew HBD.out).mono ?_; rintro e w14 ⟨v', rfl, hgv, hb⟩; have HB14 := Lib.hid (HBD.out.trans (hb.mono (HSZ.out _ HBD.out))); have HSK := HKP.out w14 HB14.out; obtain ⟨av, cv, rfl⟩ := hgv.shape; have HGV := Lib.hid (hgv.reads HLZ.out); clear hgv hb)
              | (go_at_call 37; with_reducible refine (HSC.out (wr.alloc (.cells #[.int .i64 0, .slice none 0 0] 55)).drew HBA.out).mono ?_; rintro e w14 ⟨v', rfl, hgv, hb⟩; have HB14 := Lib.hid (HBA.out.trans (hb.mono (HSZ.out _ HBA.out))); have HSK := HKP.out w14 HB14.out; have HZ14 := Lib.hid (HZT.out.below hb HZT.out.lt); obtain ⟨av, cv, rfl⟩ := hgv.shape; have HGV := Lib.hid (hgv.reads HLZ.out); clear hgv hb)
              | (go_at_call 34; with_reducible refine (HAD.out w14 _ (HB14.out) (HGV.out)).mono ?_; rintro e w15 ⟨vs, rfl, hgs, hb⟩; have HB15 := Lib.hid ((HB14.out).trans (hb.mono (HSZ.out _ (HB14.out)))); have HSK1 := HKP.out w15 HB15.out; have HG15 := Lib.hid hgs; have HZ15 := Lib.hid (HZ14.out.below hb HZ14.out.lt); have HSK2 := HFN2.out w15 _ _ _ HZ15.out hgs HZ14.out.lt (Nat.le_of_eq HBZ.out.symm) HB15.out; have HQX := Lib.hid (HFN.out w15 _ _ _ HZ15.out hgs HZ14.out.lt (Nat.le_of_eq HBZ.out.symm) HB15.out); have r0 := HZ15.out.c0; have r1 := HZ15.out.c1; have f0 := HZ15.out.fr 0; have f1 := HZ15.out.fr 1; obtain ⟨aw, cw, rfl⟩ := hgs.shape; clear hgs hb)
              | (go_at_call 34; with_reducible refine (HAD.out w14 _ (HB14.out) (HGV.out)).mono ?_; rintro e w15 ⟨vs, rfl, hgs, hb⟩; have HB15 := Lib.hid ((HB14.out).trans (hb.mono (HSZ.out _ (HB14.out)))); have HSK1 := HKP.out w15 HB15.out; have HG15 := Lib.hid hgs; obtain ⟨aw, cw, rfl⟩ := hgs.shape; clear hgs hb)
              | (go_at_call 34; with_reducible refine (HAD.out (w14.alloc (.cells #[.int .i64 0, .slice none 0 0] 55)) _ (HAL2.out w14 _ HB14.out) (HGV.out.below (Nat.le_refl _) ((Below.refl _ _).alloc (Nat.le_refl _) _))).mono ?_; rintro e w15 ⟨vs, rfl, hgs, hb⟩; have HB15 := Lib.hid ((HAL2.out w14 _ HB14.out).trans (hb.mono (HSZ.out _ (HAL2.out w14 _ HB14.out)))); have HSK1 := HKP.out w15 HB15.out; have HG15 := Lib.hid hgs; have HZ15 := Lib.hid ((HN0.out w14).below hb (HN0.out w14).lt); have HSK2 := HFN2.out w15 _ _ _ HZ15.out hgs (HN0.out w14).lt (HSZ.out _ HB14.out) HB15.out; have HQX := Lib.hid (HFN.out w15 _ _ _ HZ15.out hgs (HN0.out w14).lt (HSZ.out _ HB14.out) HB15.out); have r0 := HZ15.out.c0; have r1 := HZ15.out.c1; have f0 := HZ15.out.fr 0; have f1 := HZ15.out.fr 1; obtain ⟨aw, cw, rfl⟩ := hgs.shape; clear hgs hb))
          · refine NoPanic.normal ?_
            have h1 : ShAt (w15.alloc (.cells #[.int .i64 h, .slice aw (linF p u (linF p [] z kv) 1).length cw] 55)) w15.heap.size h (.slice aw (linF p u (linF p [] z kv) 1).length cw) := HNW.out _ _ _
            have h2 : Gath (w15.alloc (.cells #[.int .i64 h, .slice aw (linF p u (linF p [] z kv) 1).length cw] 55)) B0 (.slice aw (linF p u (linF p [] z kv) 1).length cw) (linF p u (linF p [] z kv) 1) := (HG15.out.mono (HSZ.out _ HB14.out)).alloc _
            have h3 := HAL2.out _ (.cells #[.int .i64 h, .slice aw (linF p u (linF p [] z kv) 1).length cw] 55) HB15.out
            obtain ⟨vs, hvs⟩ : ∃ v, Value.slice aw (linF p u (linF p [] z kv) 1).length cw = v := ⟨_, rfl⟩
            obtain ⟨x, hx⟩ : ∃ v, Value.slice av (linF p [] z kv).length cv = v := ⟨_, rfl⟩
            rw [hvs] at h1 h2 h3 ⊢
            rw [hx]
            generalize w15.alloc (.cells #[.int .i64 h, vs] 55) = W at *
            obtain ⟨q, hq⟩ : ∃ q, w15.heap.size = q := ⟨_, rfl⟩
            rw [hq] at h1 ⊢
            exact ⟨rfl, vs, x, q, rfl, h1, h2, h3⟩
          · refine NoPanic.normal ?_
            obtain ⟨h1, h2, h3, _⟩ := HQX.out
            obtain ⟨vs, hvs⟩ : ∃ v, Value.slice aw (linF p u (linF p [] z kv) 1).length cw = v := ⟨_, rfl⟩
            obtain ⟨x, hx⟩ : ∃ v, Value.slice av (linF p [] z kv).length cv = v := ⟨_, rfl⟩
            rw [hvs] at h1 h2 h3 ⊢
            rw [hx]
            generalize ((w15.setCell ⟨w14.heap.size, 0, none⟩ (.int .i64 h)).setCell ⟨w14.heap.size, 1, none⟩ vs) = W at *
            obtain ⟨q, hq⟩ : ∃ q, w14.heap.size = q := ⟨_, rfl⟩
            rw [hq] at h1 ⊢
            exact ⟨rfl, vs, x, q, rfl, h1, h2, h3⟩
          · refine NoPanic.normal ?_
            obtain ⟨h1, h2, h3, _⟩ := HQX.out
            obtain ⟨vs, hvs⟩ : ∃ v, Value.slice aw (linF p u (linF p [] z kv) 1).length cw = v := ⟨_, rfl⟩
            obtain ⟨x, hx⟩ : ∃ v, Value.slice av (linF p [] z kv).length cv = v := ⟨_, rfl⟩
            rw [hvs] at h1 h2 h3 ⊢
            rw [hx]
            generalize ((w15.setCell ⟨wr.heap.size, 0, none⟩ (.int .i64 h)).setCell ⟨wr.heap.size, 1, none⟩ vs) = W at *
            obtain ⟨q, hq⟩ : ∃ q, wr.heap.size = q := ⟨_, rfl⟩
            rw [hq] at h1 ⊢
            exact ⟨rfl, vs, x, q, rfl, h1, h2, h3⟩
        rintro vs vx q W ⟨H1, H2, H3⟩
        clear HFN HFN2 HSC HAD HKP HSK c0 c1 c2 s0 s1 t0 t1 HZT HNW HAL2 HN0 HBD HBA HI1 HI2 HWH HNR1 HNR2
        have r0 := H1.out.c0
        have r1 := H1.out.c1
        obtain ⟨aw, cw, rfl⟩ := H2.out.shape
        obtain ⟨nl, hnl⟩ : ∃ nl, (linF p u (linF p [] z kv) 1).length = nl := ⟨_, rfl⟩
        rw [hnl] at H1 H2 r1
        clear hnl
        have HUW := Lib.hid (HU.out.below H3.out (Nat.le_of_eq HBZ.out))
        have hGB : G ≤ B0 := by have h1 := HW.out.size; have h2 := HBZ.out; have h3 := HGS.out; omega
        have hBW : B0 ≤ W.heap.size := by have h1 := H3.out.size; have h2 := HBZ.out; omega
        have HWW : Hid (Below G w13 W) := HW.out.trans (H3.out.mono hGB)
        have HUB := Lib.hid (fun k (hk : u15.ownBlock = some k) => HU.out.block k hk)
        have HVB := Lib.hid (fun k (hk : (Value.slice aw nl cw).ownBlock = some k) => World.ownsRow.lt H2.out k hk)
        have HSL2 := Lib.hid ((H2.out.slc HLT.out).grown (World.grownBy_alloc W (.cells #[.int .i64 h, (.slice aw nl cw)] 55) none) (fun q _ e => by cases e))
        have HC0 := Lib.hid (shAt_new W h (.slice aw nl cw) 55).c0
        have HC1 := Lib.hid (shAt_new W h (.slice aw nl cw) 55).c1
        have HLJ : Hid ((sumF p K j A RA B RB kv).length < 1000) := by show _ < _; rw [sumF_len]; have := HKN.out; omega
        have HBK : Hid (∀ k, (Value.slice aw nl cw).ownBlock = some k → G ≤ k ∧ k < (W.alloc (.cells #[.int .i64 h, (.slice aw nl cw)] 55)).heap.size ∧ u15.ownBlock ≠ some k) := fun k hk => by
          have h1 := HVB.out k hk
          refine ⟨by omega, by simp; omega, fun e => ?_⟩
          have h2 := HUB.out k e
          have h3 := HBZ.out
          omega
        have HGB := Lib.hid hGB
        have HBW := Lib.hid hBW
        have HJN : Hid (j + 1 ≤ N) := hlt
        clear H1 H2 HU hGB hBW HVB HW HSR
        go_wp2_with (at_builtin; refine appendS_one _ rfl _ _ rfl G u15 (sumF p K j A RA B RB kv) h _ (linF p u (linF p [] z kv) 1) rfl (HUW.out.alloc _) W.heap.size rfl HC0.out HC1.out HSL2.out HBK.out HLJ.out (by have h1 := HGB.out; have h2 := HBW.out; simp; omega) ?_)
        intro v8 w8 hown8 hgr8 _
        rw [HNX.out] at hown8
        have HO8 := Lib.hid hown8
        have HB8 : Hid (Below G w13 w8) := (HWW.out.alloc (Nat.le_trans HGB.out HBW.out) _).grown hgr8 (by have h1 := HGB.out; have h2 := HBW.out; simp; omega) (fun k hk => (HUB.out k hk).1)
        clear hown8 hgr8 HUW HC0 HC1 HSL2 HBK HLJ HUB HWW r0 r1 HNX H3
        go_wp2
        go_roundw
        case rel => exact ⟨j + 1, HJN.out, by go_num, HO8, HB8⟩
        case measure => simp [intOf]; have := HJN.out; omega
      · obtain rfl : j = N := by omega
        obtain ⟨W0, hW0⟩ : ∃ W0, W0 = wr := ⟨_, rfl⟩
        subst hW0
        have hGg : g + 1 ≤ G := by have h1 := HS13.out.lt; have h2 := HS13.out.sz; have h3 := HGS.out; omega
        have hGp : gp < G := by have h2 := HS13.out.sz; have h3 := HGS.out; omega
        have hUN : SharesN W0 (g + 1) u15 (sumF p K j A RA B RB kv) := (HU.out.sharesN (by rw [sumF_len]; have := HKN.out; omega)).mono hGg
        have HUN := Lib.hid hUN
        have HGA0 : Hid (Gath W0 gp (.slice aA c ccA) A) := JA3.out.kept HW.out (Nat.le_of_eq HGS.out)
        have HGB0 : Hid (Gath W0 gp (.slice aB c ccB) B) := JB3.out.kept HW.out (Nat.le_of_eq HGS.out)
        have hGD : Gd p j A.length (sumF p K j A RA B RB kv) := sumF_gd hp1 HAB.out
        have hON : On p (K + 1) A.length (sumP K A RA B RB kv) (sumF p K j A RA B RB kv) := sumF_on hp1 HAB.out
        have hSb : A.length ≤ 2048 := by rw [HAL.out]; have := HCC.out; omega
        have HSD0 : Hid (StL w W0.drew g gp s l p ((K : Int) + 1) (j : Int)) := HSR.out.below ((Below.refl _ _).drew)
        have HUD : Hid (SharesN W0.drew (g + 1) u15 (sumF p K j A RA B RB kv)) := hUN.below ((Below.refl _ _).drew) (Nat.le_refl _)
        have HTU := Lib.hid (turn_any g s l u15 (sumF p K j A RA B RB kv) (K + 1) W0.drew HSD0.out.di HUD.out.shares (fun x hx => by rw [hGD.len x hx]; omega) (by rw [sumF_len]; have := HKN.out; omega) (by have := HKN.out; omega))
        rw [show ((K + 1 : Nat) : Int) = (K : Int) + 1 by push_cast; rfl, sumF_len] at HTU
        have HFA : Hid (fitB p ((K : Int) + 1) (j : Int) (sumF p K j A RA B RB kv) = true) := fitB_on (K := K + 1) HPB.out (by push_cast; rfl) rfl hGD hSb hON
        have HGD := Lib.hid hGD
        have HON := Lib.hid hON
        have HSB2 := Lib.hid hSb
        have HCM : Hid (∀ (W : World) (v : Value) (L2 : List Shr) (m : Nat), L2.Perm (sumF p K j A RA B RB kv) → K + 1 ≤ m → m ≤ j → Wheel W → Shares W v (L2.take m) → Calls Tryd.prog 29 #[.agg #[.int .i64 p, .int .i64 ((K : Int) + 1), .int .i64 (j : Int)], v] W fun e w' => ∃ v', e = .returned (.tuple #[v', .int .i64 0]) ∧ Ints w' v' (linF p A B kv) ∧ Below W.heap.size W w') := fun W v L2 m hperm h1 h2 hW hs => by
          have hlq : (L2.take m).length = m := by rw [List.length_take, hperm.length_eq, sumF_len]; omega
          have hgq := turn_gd HGD.out hperm m
          have hoq := turn_on HON.out hperm m
          have hcq := combE_ok (K := K + 1) HPB.out (goodB_of_gd HPRM.out hpm hgq HSB2.out) (by push_cast; rfl) (by omega)
          rw [sum_back HPRM.out HNP.out HAE.out HBE.out HAB.out hgq hoq (by omega)] at hcq
          have h := F.combine p ((K : Int) + 1) (j : Int) v (L2.take m) W hW (wf_small hp1 hpm) hs
          rw [hcq.1, hcq.2] at h
          exact h
        have c0 := HSR.out.pl.c0
        have c1 := HSR.out.pl.c1
        have c2 := HSR.out.pl.c2
        have HGG1 := Lib.hid hGg
        have HGP1 := Lib.hid hGp
        clear HU HUN hUN hGD hON hSb hGg hGp HW HSR JA3 JB3 HMA HNB HW0 HU0
        go_wp2_with fail
        go_region_held3 (fun W' => W'.cell? ⟨gp, 0, none⟩ = some (.int .i64 p) ∧ W'.cell? ⟨gp, 1, none⟩ = some (.int .i64 ((K : Int) + 1)) ∧ W'.cell? ⟨gp, 2, none⟩ = some (.int .i64 (j : Int))) (first | go_keep | exact HSK)
          (first
            | (go_at_call 27; refine HTU.out.mono ?_; rintro e w14 ⟨v14, L2, m, rfl, hperm, hm1, hm2, hn14, hd14, hb14⟩; have HS14 := Lib.hid (HSD0.out.but hb14 hd14); have HSK := And.intro HS14.out.pl.c0 (And.intro HS14.out.pl.c1 HS14.out.pl.c2); have HU14 := Lib.hid (HUD.out.but hb14 (Nat.lt_succ_self g)); have HGA14 := Lib.hid (Gath.but (w := W0.drew) HGA0.out hb14 HG3.out); have HGB14 := Lib.hid (Gath.but (w := W0.drew) HGB0.out hb14 HG3.out); have HPM := Lib.hid hperm; have HM1 := Lib.hid (show K + 1 ≤ m by have := HKN.out; omega); have HM2 := Lib.hid hm2; have HN14 := Lib.hid hn14.shares; clear hperm hm1 hm2 hn14 hd14 hb14)
            | (go_at_call 29; refine (HCM.out w14 v14 L2 m HPM.out HM1.out HM2.out HS14.out.wh HN14.out).mono ?_; rintro e w15 ⟨v15, rfl, hi15, hb⟩; have HS15 := Lib.hid (HS14.out.below hb); have HSK := And.intro HS15.out.pl.c0 (And.intro HS15.out.pl.c1 HS15.out.pl.c2); have HI15 := Lib.hid hi15; have HU15 := Lib.hid (HU14.out.below hb (Nat.le_refl _)); have HGA15 := Lib.hid (HGA14.out.kept hb (Nat.le_refl _)); have HGB15 := Lib.hid (HGB14.out.kept hb (Nat.le_refl _)); clear hi15 hb))
        have HLI : Hid (Calls Tryd.prog 41 #[.int .i64 p, .slice aA c ccA, .slice aB c ccB, .int .i64 kv] w15 fun e w' => ∃ v, e = .returned v ∧ Gath w' w15.heap.size v (linF p A B kv) ∧ Below w15.heap.size w15 w') :=
          ref_linear_any p kv (.slice aA c ccA) (.slice aB c ccB) A B w15 hp1 hpm HKV.out HAE.out HBE.out (HGA15.out.reads (by rw [HAL.out]; have := HCC.out; omega)) (HGB15.out.reads (by rw [HBL.out]; have := HCC.out; omega)) (by rw [HAL.out]; have := HCC.out; omega) (by rw [HBL.out]; have := HCC.out; omega)
        have HLL : Hid ((linF p A B kv).length ≤ 140737488355328) := by show _ ≤ _; rw [linF_len', HAL.out, HBL.out]; have := HCC.out; omega
        have c0 := HS15.out.pl.c0
        have c1 := HS15.out.pl.c1
        have c2 := HS15.out.pl.c2
        clear HSK HTU HCM HSD0 HUD HS14 HU14 HGA14 HGB14 HN14 HGA0 HGB0 HGD HON
        go_wp2_with fail
        refine HLI.out.mono ?_
        rintro e w16 ⟨vL, rfl, hgl, hb⟩
        have HS16 := Lib.hid (HS15.out.below hb)
        have HU16 := Lib.hid (HU15.out.below hb (Nat.le_refl _))
        have HSA := Lib.hid (same_yes v15 vL (linF p A B kv) w16 (HI15.out.below (Nat.le_refl _) hb) (hgl.reads HLL.out))
        have c0 := HS16.out.pl.c0
        have c1 := HS16.out.pl.c1
        have c2 := HS16.out.pl.c2
        clear hgl hb HLI
        go_wp2_with fail
        refine HSA.out.mono ?_
        rintro e w' ⟨rfl, rfl⟩
        have HFI : Hid (Calls Tryd.prog 32 #[.agg #[.int .i64 p, .int .i64 ((K : Int) + 1), .int .i64 (j : Int)], u15] w16 fun e w' => e = .returned (.bool true) ∧ Below w16.heap.size w16 w') := by
          have h := F.fits p ((K : Int) + 1) (j : Int) u15 (sumF p K j A RA B RB kv) w16 HS16.out.wh (wf_small hp1 hpm) HU16.out.shares
          rw [HFA.out] at h
          exact h
        go_wp2_with fail
        refine HFI.out.mono ?_
        rintro e w17 ⟨rfl, hb⟩
        have HS17 := Lib.hid (HS16.out.below hb)
        clear hb c0 c1 c2 HFI HSA
        go_wp2_with fail
        refine (awake6_any F w17 HS17.out.wh).mono ?_
        rintro e w18 ⟨rfl, hb⟩
        have HBF : Hid (Below g w w18) := HS17.out.be.trans (hb.mono (Nat.le_of_lt (Nat.lt_trans HS17.out.lt HS17.out.sz)))
        clear hb
        go_wp2
        go_ret
        exact ⟨rfl, HBF.out⟩
end Go.Proofs.YtbfkkdbniallnaaDoor
