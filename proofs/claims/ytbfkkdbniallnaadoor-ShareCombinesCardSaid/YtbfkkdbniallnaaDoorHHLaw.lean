
/- The walk through ShareHides. -/
import Derived.Test.YtbfkkdbniallnaaDoorHXp
namespace Go.Proofs.YtbfkkdbniallnaaDoor
open Go.RowKit Go.Sort
open Num
set_option linter.unusedVariables false

/-- A part of a list of shares that lies in new memory. -/
theorem SharesN.take {w : World} {base : Nat} {a : Option Addr} {n c : Nat} {L : List Shr} (h : SharesN w base (.slice a n c) L) (k c' : Nat) (hk : k ≤ n) (hc : k ≤ c') (hc2 : c' ≤ 9223372036854775807) : SharesN w base (.slice a k c') (L.take k) := by
  obtain ⟨a', c2, hv, h1, h2, h3, hx⟩ := h
  simp only [Value.slice.injEq] at hv
  obtain ⟨rfl, rfl, rfl⟩ := hv
  have hl : (L.take k).length = k := by rw [List.length_take]; omega
  refine ⟨a, c', by rw [hl], by omega, by omega, hc2, fun hne => ?_⟩
  have h0 : 0 < k := by rw [← hl]; exact List.length_pos_iff.2 hne
  obtain ⟨b, off, e, hb, hcell⟩ := hx (fun e => by subst e; simp at hk; omega)
  refine ⟨b, off, e, hb, fun i hi => ?_⟩
  rw [hl] at hi
  have e3 : (L.take k).getD i (0, []) = L.getD i (0, []) := by simp [List.getD, hi]
  rw [e3]
  exact hcell i (by omega)
/-- One share of a list of shares, as a list. -/
theorem Shares.one {w : World} {b off n c c' : Nat} {L : List Shr} (h : Shares w (.slice (some ⟨b, off, none⟩) n c) L) {i : Nat} (hi : i < n) (hc : 1 ≤ c') (hc2 : c' ≤ 9223372036854775807) : Shares w (.slice (some ⟨b, off + i * 2, none⟩) 1 c') [L.getD i (0, [])] := by
  obtain ⟨b', off', v, e, c0, c1, hI⟩ := h.at hi
  simp only [Option.some.injEq, Addr.mk.injEq, and_true] at e
  obtain ⟨rfl, rfl⟩ := e
  refine ⟨_, c', rfl, by simp, hc, hc2, fun _ => ⟨b, off + i * 2, rfl, fun j hj => ?_⟩⟩
  obtain rfl : j = 0 := by simp at hj; omega
  exact ⟨v, by simpa using c0, by simpa using c1, hI⟩

set_option maxRecDepth 100000 in
set_option maxHeartbeats 8000000 in
theorem shareHides_walk (s : Value) (l : List Int) (w : World) (hw : Wheel w) (hs : Ints w s l) :
    Calls Tryd.prog 7 #[s] w fun e w' => e = .returned (.bool true) ∧ Below w.heap.size w w' := by
  have HL := Lib.hid (light_any s l w hs)
  have HAW := Lib.hid (awake6_any sh w hw)
  obtain ⟨g, hg⟩ : ∃ g, w.heap.size = g := ⟨_, rfl⟩
  have hd0 := dice_new hs
  have hta : 0 < g := by rw [← hg]; exact hw.size
  obtain ⟨bl, hbl⟩ : ∃ b, decide ((l.length : Int) ≤ 500) = b := ⟨_, rfl⟩
  rw [hbl] at HL
  have HR := Lib.hid (roll_any s w (by obtain ⟨a, c, h, _⟩ := hs; exact ⟨a, _, c, h⟩))
  rw [hg] at HR hd0
  rw [hg]
  have HW0 := Lib.hid (hw.below hw.size ((Below.refl w.heap.size w).alloc (Nat.le_refl _) (.cells #[s, .int .i64 0] 69)))
  have HB0 : Hid (Below g w (w.alloc (.cells #[s, .int .i64 0] 69))) := by rw [← hg]; exact (Below.refl _ _).alloc (Nat.le_refl _) _
  have HD0 := Lib.hid hd0
  clear hd0 hw hs hbl
  cases bl with
  | false =>
    go_enter Tryd.func7, Tryd.ntmps7
    go_wp2_with fail
    refine HL.out.mono ?_
    rintro e w' ⟨rfl, rfl⟩
    go_wp2_with fail
    refine HAW.out.mono ?_
    rintro e w' ⟨rfl, hb⟩
    rw [hg] at hb
    have HB := Lib.hid hb
    clear hb
    go_wp2
    go_ret
    exact ⟨rfl, HB.out⟩
  | true =>
    go_enter Tryd.func7, Tryd.ntmps7
    go_wp2_with fail
    refine HL.out.mono ?_
    rintro e w' ⟨rfl, rfl⟩
    go_wp2_with fail
    refine HR.out.mono ?_
    rintro e w1 ⟨rfl, rfl⟩
    generalize w.alloc (.cells #[s, .int .i64 0] 69) = w1 at *
    go_wp2_with fail
    refine (prime_any g s l w1 HD0.out).mono ?_
    rintro e w2 ⟨p, hprm, hp2, rfl, hd2, hb2⟩
    have HPRM := Lib.hid hprm
    have hpp : 2 ≤ p := by have := hprm.1; omega
    have HP2 := Lib.hid hp2
    have HD2 := Lib.hid hd2
    have HB2 := Lib.hid (HB0.out.trans (hb2.below (Nat.le_refl _) (Nat.le_of_lt HD0.out.size)))
    have HW2 := Lib.hid (HW0.out.below hta (hb2.below (Nat.le_refl _) (Nat.le_of_lt HD0.out.size)))
    clear hb2 hd2 hprm HD0 HB0 HW0 HL HR
    go_wp2_with fail
    refine (plan_any g s l p w2 HD2.out hpp (by omega)).mono ?_
    rintro e w3 ⟨k, n, rfl, hk1, hkn, hn7, hnp, hd3, hb3⟩
    have HPB : Hid (planB p k n = true) := planB_of HPRM.out (by have := HP2.out; omega) hk1 hkn (by omega) hnp
    obtain ⟨K, hK⟩ := Int.eq_ofNat_of_zero_le (show 0 ≤ k - 1 by omega)
    obtain ⟨N, rfl⟩ := Int.eq_ofNat_of_zero_le (show 0 ≤ n by omega)
    obtain rfl : k = (K : Int) + 1 := by omega
    have HKN : Hid (K + 1 ≤ N ∧ N ≤ 7) := ⟨by omega, by omega⟩
    have HNP := Lib.hid hnp
    have hb3' := hb3.below (Nat.le_refl _) (Nat.le_of_lt HD2.out.size)
    have hg3 : g < w3.heap.size := hd3.size
    have hST : StL w (w3.alloc (.cells #[.int .i64 p, .int .i64 ((K : Int) + 1), .int .i64 (N : Int)] 24)) g w3.heap.size s l p ((K : Int) + 1) (N : Int) := by
      have hal : Below w3.heap.size w3 (w3.alloc (.cells #[.int .i64 p, .int .i64 ((K : Int) + 1), .int .i64 (N : Int)] 24)) := (Below.refl _ _).alloc (Nat.le_refl _) _
      exact ⟨hd3.below hal hg3, planAt_new _ _ _ _ _, (HW2.out.below hta hb3').below (by omega) hal, (HB2.out.trans hb3').trans (hal.mono (by omega)), hg3, by simp, hta⟩
    have HST := Lib.hid hST
    unfold planV
    clear hST hb3 hb3' hg3 hd3 HB2 HW2 HD2 hK hk1 hkn hn7 hnp hp2
    go_wp2_with fail
    have HG3 : Hid (g < w3.heap.size) := HST.out.lt
    obtain ⟨gp, hgp⟩ : ∃ gp, w3.heap.size = gp := ⟨_, rfl⟩
    rw [hgp] at HST HG3 ⊢
    generalize w3.alloc (.cells #[.int .i64 p, .int .i64 ((K : Int) + 1), .int .i64 (N : Int)] 24) = w4 at *
    clear hgp
    have HSD : Hid (StL w w4.drew g gp s l p ((K : Int) + 1) (N : Int)) := HST.out.below ((Below.refl _ _).drew)
    have c0 := HST.out.pl.c0
    have hpm : p ≤ 1073741824 := by have := HP2.out; omega
    have hp1 : 1 ≤ p := by omega
    clear HST
    go_region_held3 (fun W' => W'.cell? ⟨gp, 0, none⟩ = some (.int .i64 p)) (first | go_keep | exact HSK)
      (first
        | (go_at_call 17; refine (next_any g s l 3 w4.drew HSD.out.di (by omega) (by omega)).mono ?_; rintro e w5 ⟨r, r0, r1, rfl, hd, hb⟩; have HS5 := Lib.hid (HSD.out.but hb hd); have HSK := HS5.out.pl.c0; obtain ⟨c, hc⟩ := Int.eq_ofNat_of_zero_le (show 0 ≤ 1 + r by omega); have hwr : IntKind.i64.wrap (1 + r) = (c : Int) := (by rw [IntKind.wrap_i64]; omega); have HCC := Lib.hid (show 1 ≤ c ∧ c ≤ 3 by omega); clear hd hb hc r0 r1)
        | (go_at_call 16; refine (dice_elements g s l p c w5 HS5.out.di hp1 hpm (by have := HCC.out; omega)).mono ?_; rintro e w6 ⟨v5, S, rfl, hsl, hse, hsg, hd, hb⟩; have HS6 := Lib.hid (HS5.out.but hb hd); have HSK := HS6.out.pl.c0; have HSL := Lib.hid hsl; have HSE := Lib.hid hse; have HSG := Lib.hid (hsg.mono (Nat.le_of_lt HS5.out.sz)); clear hd hb hsl hse hsg))
    obtain ⟨a5, cc5, rfl⟩ := HSG.out.shape
    rw [HSL.out] at HSG ⊢
    obtain ⟨Z, hZ⟩ : ∃ Z, c * K = Z := ⟨_, rfl⟩
    have hZb : Z ≤ 1000000 := by
      have h1 : c * K ≤ 3 * 7 := Nat.mul_le_mul HCC.out.2 (by have := HKN.out; omega)
      omega
    have HRN : Hid (∀ W, Wheel W → Calls Tryd.prog 23 #[.agg #[.int .i64 p, .int .i64 ((K : Int) + 1), .int .i64 (N : Int)], .int .i64 (c : Int)] W fun e w' => e = .returned (.int .i64 (Z : Int)) ∧ Below W.heap.size W w') := fun W hW => by
      have h := sh.random p ((K : Int) + 1) (N : Int) c W hW (by omega) (by have := HKN.out; omega) (by have := HCC.out; omega)
      rw [show (c : Int) * ((K : Int) + 1 - 1) = (Z : Int) by rw [← hZ, Int.add_sub_cancel]; push_cast; rfl] at h
      exact h
    have HDQ : Hid (∀ (v8 : Value) (R : List Int) (W : World), Wheel W → Slc W (.slice a5 c cc5) S → Slc W v8 R → R.length = Z → Els p R → Calls Tryd.prog 20 #[.agg #[.int .i64 p, .int .i64 ((K : Int) + 1), .int .i64 (N : Int)], .slice a5 c cc5, v8] W fun e w' => ∃ v, e = .returned (.tuple #[v, .int .i64 0]) ∧ SharesN w' W.heap.size v (dealF p K N S R) ∧ Below W.heap.size W w') := fun v8 R W hW h1 h2 h3 h4 => by
      have h := sh.deal p ((K : Int) + 1) (N : Int) (.slice a5 c cc5) v8 S R W hW (wf_small hp1 hpm) h1 h2 (by rw [HSL.out]; have := HCC.out; omega) (by omega)
      have hk := deal_ok_of (K := K) (N := N) (s := S) (r := R) HPB.out (by omega) rfl HSE.out h4 (by rw [HSL.out, h3, hZ])
      rw [hk.1, hk.2] at h
      exact h
    have HSD6 : Hid (StL w w6.drew g gp s l p ((K : Int) + 1) (N : Int)) := HS6.out.below ((Below.refl _ _).drew)
    have HSG6 : Hid (Gath w6.drew gp (.slice a5 c cc5) S) := HSG.out
    have c0 := HS6.out.pl.c0
    have c1 := HS6.out.pl.c1
    have c2 := HS6.out.pl.c2
    clear HSK HS5 HS6 HSG HSD hwr hZ
    go_wp2_with fail
    go_region_held3 (fun W' => W'.cell? ⟨gp, 0, none⟩ = some (.int .i64 p) ∧ W'.cell? ⟨gp, 1, none⟩ = some (.int .i64 ((K : Int) + 1)) ∧ W'.cell? ⟨gp, 2, none⟩ = some (.int .i64 (N : Int))) (first | go_keep | exact HSK)
      (first
        | (go_at_call 23; refine (HRN.out w6.drew HSD6.out.wh).mono ?_; rintro e w7 ⟨rfl, hb⟩; have HS7 := Lib.hid (HSD6.out.below hb); have HSK := And.intro HS7.out.pl.c0 (And.intro HS7.out.pl.c1 HS7.out.pl.c2); have HSG7 := Lib.hid (HSG6.out.kept hb (Nat.le_refl _)); clear hb)
        | (go_at_call 16; refine (dice_elements g s l p Z w7 HS7.out.di hp1 hpm hZb).mono ?_; rintro e w8 ⟨v8, R, rfl, hrl, hre, hrg, hd, hb⟩; have HS8 := Lib.hid (HS7.out.but hb hd); have HSK := And.intro HS8.out.pl.c0 (And.intro HS8.out.pl.c1 HS8.out.pl.c2); have HSG8 := Lib.hid (HSG7.out.but hb HG3.out); have HRL := Lib.hid hrl; have HRE := Lib.hid hre; have HRG := Lib.hid (hrg.slc (by omega)); clear hd hb hrl hre hrg)
        | (go_at_call 20; refine (HDQ.out v8 R w8 HS8.out.wh (HSG8.out.slc (by rw [HSL.out]; have := HCC.out; omega)) HRG.out HRL.out HRE.out).mono ?_; rintro e w9 ⟨v9, rfl, hn9, hb⟩; have HS9 := Lib.hid (HS8.out.below hb); have HSK := And.intro HS9.out.pl.c0 (And.intro HS9.out.pl.c1 HS9.out.pl.c2); have HSG9 := Lib.hid (HSG8.out.kept hb (Nat.le_refl _)); have HN9 := Lib.hid (hn9.mono (Nat.succ_le_of_lt (Nat.lt_trans HS8.out.lt HS8.out.sz))); clear hb hn9))
    obtain ⟨a9, c9, rfl, hc9, hc9b⟩ := HN9.out.shape
    have HDL : Hid ((dealF p K N S R).length = N) := dealF_len _ _ _ _ _
    have hSb : S.length ≤ 2048 := by rw [HSL.out]; have := HCC.out; omega
    have hGD := dealF_gd hp1 K N S R
    have hON := dealF_on p K N S R
    have HTU := Lib.hid (turn_any g s l _ _ 0 w9 HS9.out.di HN9.out.shares (fun x hx => by rw [hGD.len x hx]; omega) (by rw [HDL.out]; have := HKN.out; omega) (by have := HKN.out; omega))
    rw [show ((0 : Nat) : Int) = 0 from rfl] at HTU
    rw [HDL.out] at HTU hc9 ⊢
    have HGD := Lib.hid hGD
    have HON := Lib.hid hON
    have c1 := HS9.out.pl.c1
    have c2 := HS9.out.pl.c2
    have n1 : ((N : Int) != (N : Int)) = false := by simp
    have HG9 : Hid (g < w9.heap.size) := Nat.lt_trans HS9.out.lt HS9.out.sz
    have HSBB := Lib.hid hSb
    clear HSK HSG6 HSD6 HS7 HSG7 HS8 HSG8 HRG HDQ HRN c0 hGD hON hSb
    go_wp2_with fail
    refine HTU.out.mono ?_
    rintro e w10 ⟨v10, L2, m, rfl, hperm, hm1, hm2, hn10, hd10, hb10⟩
    have HS10 := Lib.hid (HS9.out.but hb10 hd10)
    have HN9t := Lib.hid (HN9.out.but hb10 (Nat.lt_succ_self g))
    have HSG10 := Lib.hid (HSG9.out.but hb10 HG3.out)
    obtain ⟨T, hT⟩ : ∃ T, min m K = T := ⟨_, rfl⟩
    have hlq : (L2.take m).length = m := by rw [List.length_take, hperm.length_eq, HDL.out]; omega
    have hQ : (L2.take m).take T = L2.take T := by rw [List.take_take]; congr 1; omega
    have hgq : Gd p N S.length (L2.take T) := turn_gd HGD.out hperm T
    have hlt : (L2.take T).length = T := by rw [List.length_take, hperm.length_eq, HDL.out]; omega
    obtain ⟨a10, c10, rfl, hc10, hc10b⟩ := hn10.shape
    rw [hlq] at hc10 hn10 ⊢
    have hkn := (hn10.mono (Nat.succ_le_of_lt (Nat.lt_trans HS9.out.lt HS9.out.sz))).take T c10 (by omega) (by omega) hc10b
    rw [hQ] at hkn
    obtain ⟨Q, hQQ⟩ : ∃ Q, L2.take T = Q := ⟨_, rfl⟩
    rw [hQQ] at hkn hgq hlt
    have HKN2 := Lib.hid hkn
    have HGQ := Lib.hid hgq
    have HLT := Lib.hid hlt
    have HTT : Hid (T ≤ K ∧ T ≤ m ∧ m ≤ 7) := ⟨by omega, by omega, by have := HKN.out; omega⟩
    have c0 := HS10.out.pl.c0
    have c1 := HS10.out.pl.c1
    have c2 := HS10.out.pl.c2
    have hw7 : IntKind.i64.wrap ((K : Int) + 1 - 1) = (K : Int) := by rw [Int.add_sub_cancel, IntKind.wrap_i64]; have := HKN.out; omega
    clear hperm hm1 hn10 hd10 hb10 hlq hQ hgq HTU HN9 HS9 HSG9 HGD HON hkn hQQ hlt
    have hw8 : IntKind.i64.wrap (K : Int) = (K : Int) := by rw [IntKind.wrap_i64]; have := HKN.out; omega
    have hK16 : K ≤ 16 := by have := HKN.out; omega
    have hm16 : m ≤ 16 := by have := HTT.out; omega
    go_upto_region 10 with fail
    go_cut [8] (fun v W => v = .slice a10 T c10 ∧ W = w10)
    case first =>
      rcases Nat.lt_or_ge m K with hmk | hmk
      · have HTM : Hid (T = m) := by show _ = _; omega
        have x1 : (m : Int) ≤ (c10 : Int) := by omega
        have x2 : (m : Int) < (K : Int) := by omega
        clear hT
        go_wp2_with fail
        all_goals
          go_meet
          exact ⟨by have h := HTM.out; simp only [Value.slice.injEq, true_and, and_true]; omega, rfl⟩
      · have HTM : Hid (T = K) := by show _ = _; omega
        have x1 : (K : Int) ≤ (c10 : Int) := by omega
        have x2 : (K : Int) ≤ (m : Int) := by omega
        clear hT
        go_wp2_with fail
        all_goals
          go_meet
          exact ⟨by have h := HTM.out; simp only [Value.slice.injEq, true_and, and_true]; omega, rfl⟩
    case rest =>
      obtain ⟨hv, hw⟩ := hcut
      have hw' := hw.symm
      subst hv
      subst hw'
      have HDE := Lib.hid (dice_elements g s l p c w10 HS10.out.di hp1 hpm (by have := HCC.out; omega))
      clear hw7 hw8 hw
      go_wp2_with fail
      refine HDE.out.mono ?_
      rintro e w11 ⟨v11, S2, rfl, hs2l, hs2e, hs2g, hd11, hb11⟩
      have HS11 := Lib.hid (HS10.out.but hb11 hd11)
      have HQ11 := Lib.hid (HKN2.out.but hb11 (Nat.lt_succ_self g))
      have HS2E := Lib.hid hs2e
      have HS2G := Lib.hid hs2g
      have HS2L := Lib.hid hs2l
      have hin : ExpIn p N (K + 1) c Q S2 := ⟨HPRM.out, by have h := HGQ.out; rw [HSL.out] at h; exact h, hs2l, hs2e, by rw [HLT.out]; have := HTT.out; omega, HKN.out.1, by have := HKN.out; omega, HNP.out⟩
      have HIN := Lib.hid hin
      have hEE : expE p ((K : Int) + 1) (N : Int) Q S2 = 0 := expE_ok ⟨HPB.out, goodB_of_gd HPRM.out hpm HGQ.out (by rw [HSL.out]; have := HCC.out; omega), fun h0 => by
        have h1 := HGQ.out.len (Q.getD 0 (0, [])) (by rw [List.getD_eq_getElem?_getD, List.getElem?_eq_getElem h0]; exact List.getElem_mem _)
        rw [h1, HSL.out, hs2l]⟩ (elB_of HPRM.out hpm hs2e) (by rw [HLT.out, hs2l]; have := HTT.out; have := HCC.out; omega)
      have hRR : expR p ((K : Int) + 1) (N : Int) Q S2 = expL p (K + 1) N c Q S2 := by
        unfold expR
        rw [if_pos hEE, show ((K : Int) + 1).toNat = K + 1 by omega, Int.toNat_natCast, hs2l]
      have HEX := Lib.hid (share_explain p ((K : Int) + 1) (N : Int) (.slice a10 T c10) v11 Q S2 w11 HS11.out.wh (wf_small hp1 hpm) (by have h := HQ11.out.shares; exact h) (hs2g.reads (by rw [hs2l]; have := HCC.out; omega)))
      rw [hEE, hRR] at HEX
      unfold planV at HEX
      obtain ⟨a11, c11, rfl⟩ := hs2g.shape
      rw [hs2l] at HEX HS2G ⊢
      have c0 := HS11.out.pl.c0
      have c1 := HS11.out.pl.c1
      have c2 := HS11.out.pl.c2
      clear hs2l hs2e hs2g hd11 hb11 hEE hRR hin HDE
      go_wp2_with fail
      refine HEX.out.mono ?_
      rintro e w12 ⟨v12, rfl, hx12, hb12⟩
      have HS12 := Lib.hid (HS11.out.below hb12)
      have HQ12 := Lib.hid (HQ11.out.below hb12 (Nat.le_refl _))
      have HG12 := Lib.hid (HS2G.out.kept hb12 (Nat.le_refl _))
      have HX12 := Lib.hid hx12.shares
      obtain ⟨a12, c12, rfl, hc12, hc12b⟩ := hx12.shape
      rw [expL_len] at hc12 HX12 ⊢
      have HXG := Lib.hid (expL_gd hp1 (K + 1) N c Q S2)
      have HXO := Lib.hid HIN.out.on
      have HFI : Hid (fitB p ((K : Int) + 1) (N : Int) (expL p (K + 1) N c Q S2) = true) := fitB_on (K := K + 1) HPB.out (by push_cast; rfl) rfl HXG.out (by have := HCC.out; omega) HXO.out
      have HFC := Lib.hid (share_fits p ((K : Int) + 1) (N : Int) (.slice a12 N c12) (expL p (K + 1) N c Q S2) w12 HS12.out.wh (wf_small hp1 hpm) HX12.out)
      rw [HFI.out] at HFC
      unfold planV at HFC
      have n1 : ((N : Int) != (N : Int)) = false := by simp
      have c0 := HS12.out.pl.c0
      have c1 := HS12.out.pl.c1
      have c2 := HS12.out.pl.c2
      clear hx12 hb12 HEX HQ11 HS2G
      go_wp2_with fail
      refine HFC.out.mono ?_
      rintro e w13 ⟨rfl, hb13⟩
      have HS13 := Lib.hid (HS12.out.below hb13)
      have HQ13 := Lib.hid (HQ12.out.below hb13 (Nat.le_refl _))
      have HG13 := Lib.hid (HG12.out.kept hb13 (Nat.le_refl _))
      have HX13 := Lib.hid (HX12.out.below (Nat.le_refl _) hb13)
      have HLD : Hid (∀ k, k < T → (Q.getD k (0, [])).2.length = c ∧ 1 ≤ (Q.getD k (0, [])).1 ∧ (Q.getD k (0, [])).1 ≤ N) := fun k hk => by
        have hm := HLT.out
        have hmem : Q.getD k (0, []) ∈ Q := by rw [List.getD_eq_getElem?_getD, List.getElem?_eq_getElem (by rw [hm]; exact hk)]; exact List.getElem_mem _
        exact ⟨by rw [HGQ.out.len _ hmem, HSL.out], HGQ.out.hold _ hmem⟩
      clear hb13 n1 c0 c1 c2 HFC HFI HQ12 HG12 HX12 HS12
      go_wp2_with fail
      have HW0 : Hid (Below w13.heap.size w13 w13) := Below.refl _ _
      go_loopw [13, 97] (fun _ i wr => ∃ t : Nat, t ≤ T ∧ i = .int .i64 t ∧ Hid (Below w13.heap.size w13 wr)) (fun _ i _ => T - (intOf i).toNat)
      case atStart => exact ⟨0, Nat.zero_le _, rfl, HW0⟩
      case round =>
        obtain ⟨t, ht, rfl, HW⟩ := hrel
        by_cases hlt : t < T
        · obtain ⟨b1, o1, v1, rfl, k0, k1, hi1⟩ := (HQ13.out.below HW.out (Nat.le_refl _)).shares.at hlt
          obtain ⟨q1, q2, q3⟩ := HLD.out t hlt
          have hkw := HIN.out.known (j := t) (by rw [HLT.out]; exact hlt)
          obtain ⟨⟨h, l⟩, hsh⟩ : ∃ z, Q.getD t (0, []) = z := ⟨_, rfl⟩
          rw [hsh] at k0 hi1 q1 q2 q3 hkw
          simp only at k0 hi1 q1 q2 q3 hkw
          obtain ⟨H, rfl⟩ := Int.eq_ofNat_of_zero_le (show 0 ≤ h by omega)
          obtain ⟨u, hu⟩ : ∃ u, H = u + 1 := ⟨H - 1, by omega⟩
          have huN : u < N := by omega
          obtain ⟨va1, vc1, rfl⟩ := hi1.shape
          rw [q1] at k1 hi1
          have hxw := HX13.out.below (Nat.le_refl _) HW.out
          obtain ⟨bx, ox, vx, rfl, x0, x1, xi⟩ := hxw.at huN
          have hget : (expL p (K + 1) N c Q S2).getD u (0, []) = ((H : Int), l) := by
            rw [expL_get huN, ← hu, hkw]
          obtain ⟨gs, hgs⟩ : ∃ gs, wr.heap.size = gs := ⟨_, rfl⟩
          have hal : Below wr.heap.size wr (wr.alloc (.cells #[.int .i64 (H : Int), .slice va1 c vc1] 55)) := (Below.refl _ _).alloc (Nat.le_refl _) _
          have hsa := shAt_new wr (H : Int) (.slice va1 c vc1) 55
          rw [hgs] at hsa
          have HSA := Lib.hid hsa
          have HXA := Lib.hid (hxw.below (Nat.le_refl _) hal)
          have HIA := Lib.hid (hi1.below (Nat.le_refl _) hal)
          have HWA : Hid (Below w13.heap.size w13 (wr.alloc (.cells #[.int .i64 (H : Int), .slice va1 c vc1] 55))) := HW.out.trans (hal.mono HW.out.size)
          have HGET := Lib.hid hget
          have hwu : IntKind.i64.wrap ((H : Int) - 1) = (u : Int) := by rw [IntKind.wrap_i64]; have := HKN.out; omega
          have y1 : (u : Int) ≤ (H : Int) := by omega
          have y2 : (H : Int) ≤ (c12 : Int) := by omega
          have y3 : u ≤ H := by omega
          have y4 : H ≤ c12 := by omega
          have y5 : ¬ c12 = u := by omega
          have y6 : H - u = 1 := by omega
          have HLQ : Hid (l.length = c) := q1
          have HUU : Hid (u < N ∧ u < c12) := ⟨huN, by omega⟩
          clear hi1 q1 q2 q3 hkw hsh hxw x0 x1 xi hget hal hsa hu HW
          go_wp2_with fail
          clear hgs k0 k1
          generalize wr.alloc (.cells #[.int .i64 (H : Int), .slice va1 c vc1] 55) = w14 at *
          have s0 := HSA.out.c0
          have s1 := HSA.out.c1
          obtain ⟨w15, hw15⟩ : ∃ w15, w14.drew.alloc (.cells #[.int .i64 (H : Int), .slice va1 c vc1] 55) = w15 := ⟨_, rfl⟩
          have hb15 : Below w14.heap.size w14 w15 := by rw [← hw15]; exact ((Below.refl _ _).drew).alloc (Nat.le_refl _) _
          have hI15 := HIA.out.below (Nat.le_refl _) hb15
          have hone : Shares w15 (.slice (some ⟨w14.heap.size, 0, none⟩) 1 1) [((H : Int), l)] := by
            obtain ⟨e1, e2⟩ := cells_new2 w14.drew (.int .i64 (H : Int)) (.slice va1 c vc1) 55 w14.heap.size rfl
            rw [hw15] at e1 e2
            refine ⟨_, 1, rfl, by simp, Nat.le_refl _, by omega, fun _ => ⟨w14.heap.size, 0, rfl, fun j hj => ?_⟩⟩
            obtain rfl : j = 0 := by simp at hj; omega
            exact ⟨_, e1, e2, hI15⟩
          have hx15 := (HXA.out.below (Nat.le_refl _) hb15).one (i := u) (c' := c12 - u) HUU.out.1 (by have := HUU.out.2; omega) (by omega)
          rw [HGET.out] at hx15
          have HSAM := Lib.hid (sameS_yes _ _ _ w15 hx15 hone)
          have HB15 := Lib.hid hb15
          have HKD : Hid (∀ W, Below w14.heap.size w14 W → W.cell? ⟨gs, 0, none⟩ = some (.int .i64 (H : Int)) ∧ W.cell? ⟨gs, 1, none⟩ = some (.slice va1 c vc1)) := fun W hb => by
            have h2 := HSA.out.below hb HSA.out.lt
            exact ⟨h2.c0, h2.c1⟩
          have HSK0 := (HKD.out w15 hb15)
          clear hI15 hone hx15 hb15
          go_region_held3 (fun W' => W'.cell? ⟨gs, 0, none⟩ = some (.int .i64 (H : Int)) ∧ W'.cell? ⟨gs, 1, none⟩ = some (.slice va1 c vc1)) (first | go_keep | exact HSK | exact HSK0)
            (first | (go_at_call 22; refine HSAM.out.mono ?_; rintro e w16 ⟨rfl, hb⟩; have HSK := HKD.out w16 (HB15.out.trans (hb.mono HB15.out.size)); have HB16 := Lib.hid ((HB15.out.trans (hb.mono HB15.out.size))); clear hb))
          all_goals
            have HWN : Hid (Below w13.heap.size w13 w16) := HWA.out.trans (HB16.out.mono HWA.out.size)
            go_wp2_with fail
            go_roundw
            case rel => exact ⟨t + 1, by omega, by go_num, HWN⟩
            case measure => simp [intOf]; omega
        · obtain rfl : t = T := by omega
          have HSW := Lib.hid (HS13.out.below HW.out)
          have hce := combE_ok (K := K + 1) (L := expL p (K + 1) N c Q S2) HPB.out (goodB_of_gd HPRM.out hpm HXG.out (by have := HCC.out; omega)) (by push_cast; rfl) (by rw [expL_len]; have := HKN.out; omega)
          rw [cmb_on HPRM.out HNP.out HXG.out HXO.out (by rw [expL_len]; have := HKN.out; omega) (by omega), HIN.out.zero] at hce
          have HCO := Lib.hid (sh.combine p ((K : Int) + 1) (N : Int) (.slice a12 N c12) (expL p (K + 1) N c Q S2) wr HSW.out.wh (wf_small hp1 hpm) (HX13.out.below (Nat.le_refl _) HW.out))
          rw [hce.1, hce.2] at HCO
          unfold planV at HCO
          have HGW := Lib.hid (HG13.out.kept HW.out (Nat.le_refl _))
          have c0 := HSW.out.pl.c0
          have c1 := HSW.out.pl.c1
          have c2 := HSW.out.pl.c2
          clear hce hlt
          go_wp2_with fail
          refine HCO.out.mono ?_
          rintro e w17 ⟨v17, rfl, hi17, hb17⟩
          have HS17 := Lib.hid (HSW.out.below hb17)
          have hg17 := (HGW.out.kept hb17 (Nat.le_refl _)).reads (by rw [HS2L.out]; have := HCC.out; omega)
          have HSA := Lib.hid (same_yes v17 (.slice a11 c c11) S2 w17 hi17 hg17)
          have HA17 := Lib.hid (awake6_any sh w17 HS17.out.wh)
          clear hi17 hb17 hg17 c0 c1 c2 HCO HGW
          go_wp2_with fail
          refine HSA.out.mono ?_
          rintro e w' ⟨rfl, rfl⟩
          go_wp2_with fail
          refine HA17.out.mono ?_
          rintro e w18 ⟨rfl, hb18⟩
          have HBF : Hid (Below g w w18) := HS17.out.be.trans (hb18.mono (Nat.le_of_lt (Nat.lt_trans HS17.out.lt HS17.out.sz)))
          clear hb18
          go_wp2
          go_ret
          exact ⟨rfl, HBF.out⟩
end Go.Proofs.YtbfkkdbniallnaaDoor
