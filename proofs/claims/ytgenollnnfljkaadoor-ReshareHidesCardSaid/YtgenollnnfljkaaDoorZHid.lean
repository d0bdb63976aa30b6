
/- The walk through ReshareHides. -/
import Derived.Test.YtgenollnnfljkaaDoorZLbw
import Derived.Deep.RegionHeld3
namespace Go.Proofs.YtgenollnnfljkaaDoor
open Go.RowKit Go.Sort
open Num
set_option linter.unusedVariables false

set_option maxRecDepth 100000 in
set_option maxHeartbeats 16000000 in
theorem reshareHides_walk (s : Value) (l : List Int) (w : World) (hw : Wheel w) (hs : Ints w s l) :
    Calls Tryd.prog 7 #[s] w fun e w' => e = .returned (.bool true) ∧ Below w.heap.size w w' := by
  have HL := Lib.hid (light_any s l w hs)
  have HAW := Lib.hid (awake9_any w hw)
  obtain ⟨g, hg⟩ : ∃ g, w.heap.size = g := ⟨_, rfl⟩
  have hd0 := dice_new hs
  have hta : 0 < g := by rw [← hg]; exact hw.size
  obtain ⟨bl, hbl⟩ : ∃ b, decide ((l.length : Int) ≤ 500) = b := ⟨_, rfl⟩
  rw [hbl] at HL
  have HR := Lib.hid (roll_any s w (by obtain ⟨a, c, h, _⟩ := hs; exact ⟨a, _, c, h⟩))
  rw [hg] at HR hd0
  rw [hg]
  have HW0 := Lib.hid (hw.below hw.size ((Below.refl w.heap.size w).alloc (Nat.le_refl _) (.cells #[s, .int .i64 0] 61)))
  have HB0 : Hid (Below g w (w.alloc (.cells #[s, .int .i64 0] 61))) := by rw [← hg]; exact (Below.refl _ _).alloc (Nat.le_refl _) _
  have HD0 := Lib.hid hd0
  clear hd0 hw hs hbl
  cases bl with
  | false =>
    go_enter Tryd.func7, Tryd.ntmps7
    go_wp2_with fail
    refine HL.out.mono ?_
    rintro e w' ⟨rfl, rfl⟩
    go_wp2_with fail
    refine HAW.out.mono ?_
    rintro e w' ⟨rfl, hb⟩
    rw [hg] at hb
    have HB := Lib.hid hb
    clear hb
    go_wp2
    go_ret
    exact ⟨rfl, HB.out⟩
  | true =>
    go_enter Tryd.func7, Tryd.ntmps7
    go_wp2_with fail
    refine HL.out.mono ?_
    rintro e w' ⟨rfl, rfl⟩
    go_wp2_with fail
    refine HR.out.mono ?_
    rintro e w1 ⟨rfl, rfl⟩
    generalize w.alloc (.cells #[s, .int .i64 0] 61) = w1 at *
    go_wp2_with fail
    refine (prime_any g s l w1 HD0.out).mono ?_
    rintro e w2 ⟨p, hprm, hp2, rfl, hd2, hb2⟩
    have HPRM := Lib.hid hprm
    have hpp : 2 ≤ p := by have := hprm.1; omega
    have HP2 := Lib.hid hp2
    have HD2 := Lib.hid hd2
    have HB2 := Lib.hid (HB0.out.trans (hb2.below (Nat.le_refl _) (Nat.le_of_lt HD0.out.size)))
    have HW2 := Lib.hid (HW0.out.below hta (hb2.below (Nat.le_refl _) (Nat.le_of_lt HD0.out.size)))
    clear hb2 hd2 hprm HD0 HB0 HW0 HL HR
    go_wp2_with fail
    refine (plan_any g s l p w2 HD2.out hpp (by omega)).mono ?_
    rintro e w3 ⟨k, n, rfl, hk1, hkn, hn7, hnp, hd3, hb3⟩
    have hplb : planB p k n = true := planB_of HPRM.out (by have := HP2.out; omega) hk1 hkn (by omega) hnp
    obtain ⟨K, hK⟩ := Int.eq_ofNat_of_zero_le (show 0 ≤ k - 1 by omega)
    obtain ⟨N, rfl⟩ := Int.eq_ofNat_of_zero_le (show 0 ≤ n by omega)
    obtain rfl : k = (K : Int) + 1 := by omega
    have HQ : Hid (Pf p K N) := ⟨HPRM.out, by have := HP2.out; omega, hplb, ⟨by omega, by omega⟩, hnp⟩
    have hb3' := hb3.below (Nat.le_refl _) (Nat.le_of_lt HD2.out.size)
    have hg3 : g < w3.heap.size := hd3.size
    have hST : StL w (w3.alloc (.cells #[.int .i64 p, .int .i64 ((K : Int) + 1), .int .i64 (N : Int)] 30)) g w3.heap.size s l p ((K : Int) + 1) (N : Int) := by
      have hal : Below w3.heap.size w3 (w3.alloc (.cells #[.int .i64 p, .int .i64 ((K : Int) + 1), .int .i64 (N : Int)] 30)) := (Below.refl _ _).alloc (Nat.le_refl _) _
      exact ⟨hd3.below hal hg3, planAt_new _ _ _ _ _, (HW2.out.below hta hb3').below (by omega) hal, (HB2.out.trans hb3').trans (hal.mono (by omega)), hg3, by simp, hta⟩
    have HST := Lib.hid hST
    clear hST hb3 hb3' hg3 hd3 HB2 HW2 HD2 hK hk1 hkn hn7 hnp hp2 hplb
    unfold planV
    go_upto_region 5 with (fail)
    obtain ⟨gp, hgp⟩ : ∃ gp, w3.heap.size = gp := ⟨_, rfl⟩
    rw [hgp] at HST ⊢
    generalize w3.alloc (.cells #[.int .i64 p, .int .i64 ((K : Int) + 1), .int .i64 (N : Int)] 30) = w4 at *
    clear hgp
    have c0 := HST.out.pl.c0
    go_wp2_with fail
    refine (plan_any g s l p w4 HST.out.di hpp (by have := HP2.out; omega)).mono ?_
    rintro e w5 ⟨k2, n2, rfl, hk1, hkn, hn7, hnp, hd5, hb5⟩
    have hplb : planB p k2 n2 = true := planB_of HPRM.out (by have := HP2.out; omega) hk1 hkn (by omega) hnp
    obtain ⟨K2, hK⟩ := Int.eq_ofNat_of_zero_le (show 0 ≤ k2 - 1 by omega)
    obtain ⟨N2, rfl⟩ := Int.eq_ofNat_of_zero_le (show 0 ≤ n2 by omega)
    obtain rfl : k2 = (K2 : Int) + 1 := by omega
    have HQ2 : Hid (Pf p K2 N2) := ⟨HPRM.out, by have := HP2.out; omega, hplb, ⟨by omega, by omega⟩, hnp⟩
    have HX6 : Hid (Mw w (w5.alloc (.cells #[.int .i64 p, .int .i64 ((K2 : Int) + 1), .int .i64 (N2 : Int)] 30)) g gp w5.heap.size s l p K N K2 N2 [] []) := by
      have hal : Below w5.heap.size w5 (w5.alloc (.cells #[.int .i64 p, .int .i64 ((K2 : Int) + 1), .int .i64 (N2 : Int)] 30)) := (Below.refl _ _).alloc (Nat.le_refl _) _
      exact ⟨⟨(HST.out.but hb5 hd5).below hal, fun x hx => by simp at hx, fun x hx => by simp at hx⟩, planAt_new _ _ _ _ _, by show g < w5.heap.size; exact hd5.size⟩
    clear hb5 hd5 hK hk1 hkn hn7 hnp hplb HST HPRM HP2 hpp c0
    unfold planV
    go_upto_region 6 with (fail)
    obtain ⟨gq, hgq⟩ : ∃ gq, w5.heap.size = gq := ⟨_, rfl⟩
    rw [hgq] at HX6 ⊢
    generalize w5.alloc (.cells #[.int .i64 p, .int .i64 ((K2 : Int) + 1), .int .i64 (N2 : Int)] 30) = w6 at *
    clear hgq
    obtain ⟨c0, c1, c2, d0, d1, d2⟩ := HX6.out.cells
    have HDE := Lib.hid (HX6.out.dealt HQ.out 2 (by omega))
    go_wp2_with fail
    refine HDE.out.mono ?_
    rintro e w7 ⟨v1, v2, S, R, rfl, hS1, hS3, hSE, hX7⟩
    have HX7 := Lib.hid hX7
    have HSS : Hid (1 ≤ S.length ∧ S.length ≤ 2) := ⟨hS1, hS3⟩
    have HSE := Lib.hid hSE
    have HSVL := Lib.hid (secV_deal (K := K) (r := R) HQ.out.p1 hSE)
    have hg7 := hX7.lw.getG (v := v1) (z := S) (by simp)
    have hn7 := hX7.lw.getM (v := v2) (L := rowL N (dealV p K S R)) (by simp)
    obtain ⟨aS, cS, rfl⟩ := hg7.shape
    obtain ⟨aL, cL, rfl, _, _⟩ := hn7.shape
    rw [rowL_len] at HX7 ⊢
    obtain ⟨c, hc⟩ : ∃ c, S.length = c := ⟨_, rfl⟩
    have HCC := Lib.hid hc
    have hc2 : c ≤ 2 := by omega
    rw [hc] at HX7 ⊢
    clear c0 c1 c2 d0 d1 d2
    obtain ⟨c0, c1, c2, d0, d1, d2⟩ := HX7.out.cells
    clear hX7 hS1 hS3 hSE hg7 hn7 hc HDE HX6
    obtain ⟨Z, hZ⟩ : ∃ Z, c * K2 = Z := ⟨_, rfl⟩
    have HZZ := Lib.hid hZ
    have hzb : Z ≤ 1000000 := by
      have h1 : c * K2 ≤ 2 * 7 := Nat.mul_le_mul hc2 (by have := HQ2.out.kn; omega)
      omega
    have HZB := Lib.hid hzb
    have hZi : (c : Int) * (K2 : Int) = (Z : Int) := by rw [← hZ]; push_cast; rfl
    have HWZ : Hid (IntKind.i64.wrap ((c : Int) * (K2 : Int)) = (Z : Int)) := by show _ = _; rw [hZi, IntKind.wrap_i64]; omega
    have HWK : Hid (IntKind.i64.wrap ((K2 : Int) + 1 - 1) = (K2 : Int) ∧ IntKind.i64.wrap (K2 : Int) = (K2 : Int)) := by
      have := HQ2.out.kn
      have e : (K2 : Int) + 1 - 1 = (K2 : Int) := by omega
      exact ⟨by rw [e, IntKind.wrap_i64]; omega, by rw [IntKind.wrap_i64]; omega⟩
    obtain ⟨K1, hK1⟩ : ∃ K1, K + 1 = K1 := ⟨_, rfl⟩
    have hK1i : (K : Int) + 1 = (K1 : Int) := by omega
    have HK1 := Lib.hid (And.intro hK1 hK1i)
    have HKB : Hid (K1 ≤ 7) := by have := HQ.out.kn; show _ ≤ _; omega
    have HI0 : Hid (Kr w7 w7 g s l (.slice none 0 0) []) := ⟨But.refl _ _, HX7.out.lw.st.di, gathI_nil _ _⟩
    have HXO : Hid (∀ W u RR, Kr w7 W g s l u RR → Mw w W g gp gq s l p K N K2 N2 [(.slice aS c cS, S)] [(.slice aL N cL, rowL N (dealV p K S R))]) := fun W u RR h => HX7.out.but h.but h.di
    have HGO : Hid (g < w7.heap.size) := HX7.out.lw.st.di.size
    clear hZ hzb hZi hK1 HX7
    go_wp2_with fail
    clear c0 c1 c2 d0 d1 d2 hc2
    clear hK1i
    go_loopw [8, 39] (fun u i wr => ∃ (t : Nat) (RR : List (List Int)), t ≤ K1 ∧ i = .int .i64 t ∧ Hid (RR.length = t) ∧ Hid (∀ r ∈ RR, Els p r ∧ r.length = Z) ∧ Hid (Kr w7 wr g s l u RR)) (fun _ i _ => K1 - (intOf i).toNat)
    case atStart => exact ⟨0, [], Nat.zero_le _, rfl, rfl, fun r hr => by simp at hr, HI0⟩
    case round =>
      obtain ⟨t, RR, ht, rfl, HRL, HRE, HI⟩ := hrel
      clear HI0
      by_cases hlt : t < K1
      · obtain ⟨c0, c1, c2, d0, d1, d2⟩ := (HXO.out _ _ _ HI.out).cells
        have hwz := HWZ.out
        have hwk := HWK.out.1
        have hwk2 := HWK.out.2
        go_wp2_with fail
        clear hwz hwk hwk2
        refine ((HXO.out _ _ _ HI.out).elements HQ.out Z HZB.out).mono ?_
        rintro e w8 ⟨v8, zs, rfl, hzl, hze, hzg, hbt, hd8, _⟩
        obtain ⟨a8, c8, rfl⟩ := hzg.shape
        rw [hzl] at hzg ⊢
        have hal : Below w8.heap.size w8 (w8.alloc (.cells #[.slice a8 Z c8] 22)) := (Below.refl _ _).alloc (Nat.le_refl _) _
        have hlt8 := HI.out.gi.lt
        have hsz7 : w7.heap.size ≤ wr.heap.size := HI.out.but.size
        have HK9 := Lib.hid ((HI.out.buts HGO.out hbt hd8).below hal)
        have HP9 : Hid (SlcP (w8.alloc (.cells #[.slice a8 Z c8] 22)) (fun q => w7.heap.size ≤ q ∧ u8.ownBlock ≠ some q) (.slice a8 Z c8) zs) := by
          have h0 := (hzg.slc (by rw [hzl]; have := HZB.out; omega)).below (Nat.le_refl _) hal
          refine ⟨h0, fun q hq _ => ?_⟩
          have h1 := (gath_lt hzg q hq).1
          exact ⟨by omega, fun e => by have := (hlt8 q e).2; omega⟩
        have HC9 := Lib.hid (cell_alloc_new w8 (.slice a8 Z c8) 22 _ rfl)
        have HS9 : Hid (w7.heap.size ≤ (w8.alloc (.cells #[.slice a8 Z c8] 22)).heap.size) := HK9.out.but.size
        have HZL := Lib.hid (And.intro hze hzl)
        have HTT : Hid (t < K1) := hlt
        clear hal hlt8 hsz7 hzg hbt hd8 c0 c1 c2 d0 d1 d2 hze hzl HI
        go_wp2_with (at_builtin; refine append_intss _ rfl _ _ rfl w7.heap.size u8 RR (.slice a8 Z c8) zs rfl HK9.out.gi w8.heap.size rfl HC9.out HP9.out ?c1 HS9.out ?_)
        case c1 => rw [HRL.out]; have := HKB.out; omega
        intro v' w' hgi hb
        have HIN : Hid (Kr w7 w' g s l v' (RR ++ [zs])) := ⟨HK9.out.but.above hb (Nat.le_refl _), HK9.out.di.below hb HGO.out, hgi⟩
        have HRN : Hid (∀ r ∈ RR ++ [zs], Els p r ∧ r.length = Z) := fun r hr => by
          rcases List.mem_append.1 hr with h | h
          · exact HRE.out r h
          · rw [List.mem_singleton.1 h]; exact HZL.out
        have HLN : Hid ((RR ++ [zs]).length = t + 1) := by show _ = _; rw [List.length_append, HRL.out]; rfl
        have htt := HTT.out
        have hkb := HKB.out
        clear hgi hb HK9 HP9 HC9 HS9 HZL
        go_wp2
        go_roundw
        case rel => exact ⟨t + 1, RR ++ [zs], by have := HTT.out; omega, by go_num, HLN, HRN, HIN⟩
        case measure => simp [intOf]; omega
      · obtain rfl : t = K1 := by omega
        have HXE := Lib.hid (HXO.out _ _ _ HI.out)
        obtain ⟨aR, cR, rfl⟩ := HI.out.gi.shape
        rw [HRL.out] at HI ⊢
        obtain ⟨c0, c1, c2, d0, d1, d2⟩ := HXE.out.cells
        have hmv := HSVL.out.moved (m := N) HQ.out.pl HQ2.out.pl (by have := HSS.out; omega) (List.Perm.refl _) HQ.out.kn.1 (Nat.le_refl _) (RR := RR) (by rw [HRL.out]; have := HK1.out.1; omega) (fun r hr => by rw [HCC.out, HZZ.out]; exact HRE.out r hr)
        rw [List.take_of_length_le (by rw [rowL_len]; exact Nat.le_refl _)] at hmv
        obtain ⟨fM, U, hsvu, hmvu⟩ := hmv
        have HSVU := Lib.hid hsvu
        have HMM := Lib.hid (HXE.out.move HQ.out.wf ((K : Int) + 1) (N : Int) ((K2 : Int) + 1) N2 (z := .slice aL N cL) (u := .slice aR t cR) (by simp) (HI.out.gi.lists (by rw [HRL.out]; have := HKB.out; omega)) (fun r hr => by rw [(HRE.out r hr).2]; exact HZB.out) hmvu)
        have n1 : ((N2 : Int) != (N2 : Int)) = false := by simp
        clear hmvu hsvu
        go_wp2_with fail
        refine HMM.out.mono ?_
        rintro e w21 ⟨v21, rfl, hb21, hX⟩
        have HX21 := Lib.hid hX
        have HK21 := Lib.hid (HI.out.below hb21)
        obtain ⟨aM, cM, rfl, hcM, hcMb⟩ := (hX.lw.getM (v := v21) (L := rowL N2 U) (by simp)).shape
        rw [rowL_len] at HX21 hcM ⊢
        have hkn2 := HQ2.out.kn
        have HX22 := Lib.hid (HX21.out.addM ((HX21.out.lw.getM (v := .slice aM N2 cM) (L := rowL N2 U) (by simp)).take9 K2 cM (by omega) (by omega) hcMb) (Nat.le_refl _)).drew
        have HK22 := Lib.hid (HK21.out.below (Below.refl _ _).drew)
        have HMC : Hid (K2 + 1 ≤ cM) := by show _ ≤ _; omega
        clear hX hb21 HMM c0 c1 c2 d0 d1 d2
        obtain ⟨c0, c1, c2, d0, d1, d2⟩ := HX21.out.cells
        go_wp2_with fail
        clear c0 c1 c2 d0 d1 d2 hcM hcMb n1 hkn2
        have HSK := HX22.out.cells
        have y1 := HWK.out.1
        have y2 := HWK.out.2
        have y3 : (K2 : Int) ≤ (cM : Int) := by have := HMC.out; omega
        have y4 : K2 ≤ cM := by have := HMC.out; omega
        go_region_held3 (fun W' => W'.cell? ⟨gp, 0, none⟩ = some (.int .i64 p) ∧ W'.cell? ⟨gp, 1, none⟩ = some (.int .i64 ((K : Int) + 1)) ∧ W'.cell? ⟨gp, 2, none⟩ = some (.int .i64 (N : Int)) ∧ W'.cell? ⟨gq, 0, none⟩ = some (.int .i64 p) ∧ W'.cell? ⟨gq, 1, none⟩ = some (.int .i64 ((K2 : Int) + 1)) ∧ W'.cell? ⟨gq, 2, none⟩ = some (.int .i64 (N2 : Int))) (first | go_keep | exact HSK)
          (first
            | (go_at_call 17; refine (HX22.out.elements HQ.out c (by have := HSS.out; have := HCC.out; omega)).mono ?_; rintro e w23 ⟨v23, S2, rfl, hl2, he2, _, hbt, hdi, hX⟩; have HX23 := Lib.hid hX; have HSK := hX.cells; have HK23 := Lib.hid (HK22.out.buts HGO.out hbt hdi); have HS2 := Lib.hid (And.intro hl2 he2); clear hX hbt hdi hl2 he2)
            | (go_at_call 31; refine (HX23.out.explain HQ2.out (z := .slice aM K2 cM) (vs := v23) (S2 := S2) HSVU.out (by have := HSS.out; omega) (by rw [HS2.out.1, HCC.out]) HS2.out.2 (Nat.le_refl K2) (HX23.out.lw.getM (by simp)).shares (by simp)).mono ?_; rintro e w24 ⟨v24, rfl, hb, hX⟩; have HX24 := Lib.hid hX; have HSK := hX.cells; have HK24 := Lib.hid (HK23.out.below hb); clear hX hb))
        obtain ⟨aX, cX, rfl, _, _⟩ := (HX24.out.lw.getM (v := v24) (L := expL p (K2 + 1) N2 S2.length ((rowL N2 U).take K2) S2) (by simp)).shape
        rw [expL_len] at HX24 ⊢
        have HFI := Lib.hid (explain_ok HQ2.out HSVU.out (by have := HSS.out; omega) (by rw [HS2.out.1, HCC.out]) HS2.out.2 (Nat.le_refl K2)).2.2.2.2
        obtain ⟨bx, ox, vx, hax, x0, x1, xi⟩ := (HX24.out.lw.getM (v := .slice aL N cL) (L := rowL N (dealV p K S R)) (by simp)).shares.at (i := 0) (by have := HQ.out.kn; omega)
        subst hax
        obtain ⟨br, ob, vr, har, r0, ri⟩ := (HK24.out.gi.lists (by rw [HRL.out]; have := HKB.out; omega)).at (i := 0) (by have := HK1.out.1; omega)
        subst har
        have hN0 : 0 < N := by have := HQ.out.kn; omega
        rw [rowL_get hN0, Nat.zero_mul, Nat.add_zero] at x0
        rw [Nat.zero_mul, Nat.add_zero] at x1
        rw [rowL_get hN0] at xi
        change w24.cell? ⟨bx, ox, none⟩ = some (.int .i64 1) at x0
        change Ints w24 vx (dealV p K S R ((0 + 1 : Nat) : Int)) at xi
        rw [Nat.add_zero] at r0
        obtain ⟨r1, hr1⟩ : ∃ r1, RR.getD 0 [] = r1 := ⟨_, rfl⟩
        have hre1 : Els p r1 ∧ r1.length = Z := by
          have ht0 : 0 < RR.length := by rw [HRL.out]; have := HK1.out.1; omega
          have e : RR.getD 0 [] = RR[0] := by simp [List.getD, ht0]
          rw [← hr1, e]
          exact HRE.out _ (List.getElem_mem _)
        rw [hr1] at ri
        have hsp := split_ok HQ.out HQ2.out HSVL.out (by have := HSS.out; omega) hN0 hre1.1 (by rw [HCC.out, HZZ.out]; exact hre1.2)
        have HSVX := Lib.hid (secV_deal (K := K2) (r := r1) HQ.out.p1 (HSVL.out.els ((0 + 1 : Nat) : Int)))
        have hxl := HSVL.out.siz ((0 + 1 : Nat) : Int)
        obtain ⟨X, hX⟩ : ∃ X, dealV p K S R ((0 + 1 : Nat) : Int) = X := ⟨_, rfl⟩
        rw [hX] at hsp HSVX hxl xi
        have hl0 := cell_lt x0
        have hl1 := cell_lt x1
        have hlr := cell_lt r0
        have HCX : Hid (∀ W, Below w24.heap.size w24 W → W.cell? ⟨bx, ox, none⟩ = some (.int .i64 1) ∧ W.cell? ⟨bx, ox + 1, none⟩ = some vx ∧ W.cell? ⟨br, ob, none⟩ = some vr ∧ Ints W vx X ∧ Slc W vr r1) := fun W b => ⟨by rw [b.cell (p := ⟨bx, ox, none⟩) hl0]; exact x0, by rw [b.cell (p := ⟨bx, ox + 1, none⟩) hl1]; exact x1, by rw [b.cell (p := ⟨br, ob, none⟩) hlr]; exact r0, xi.below (Nat.le_refl _) b, ri.below (Nat.le_refl _) b⟩
        have HXL : Hid (X.length ≤ 2) := by show _ ≤ _; rw [hxl]; exact HSS.out.2
        have HRB : Hid (r1.length ≤ 1000000) := by show _ ≤ _; rw [hre1.2]; exact HZB.out
        have HSP := Lib.hid hsp
        have HX24d := Lib.hid HX24.out.drew
        have HDW : Hid (Below w24.heap.size w24 w24.drew) := (Below.refl _ _).drew
        obtain ⟨c0, c1, c2, d0, d1, d2⟩ := HX24.out.cells
        clear HSK HX22 HX23 hr1 hre1 hsp hxl hX hl0 hl1 hlr y1 y2 y3 y4 HK21 HK22 HK23 HX21 xi ri
        go_wp2_with fail
        have HSK : _ ∧ _ ∧ _ ∧ _ ∧ _ ∧ _ ∧ _ ∧ _ ∧ _ := ⟨c0, c1, c2, d0, d1, d2, x0, x1, r0⟩
        clear c0 c1 c2 d0 d1 d2 x0 x1 r0
        have hN1 : (0 : Int) < (N : Int) := by omega
        have ht1 : (0 : Int) < (t : Int) := by have := HK1.out.1; omega
        have ht2 : 0 < t := by omega
        go_region_held3 (fun W' => W'.cell? ⟨gp, 0, none⟩ = some (.int .i64 p) ∧ W'.cell? ⟨gp, 1, none⟩ = some (.int .i64 ((K : Int) + 1)) ∧ W'.cell? ⟨gp, 2, none⟩ = some (.int .i64 (N : Int)) ∧ W'.cell? ⟨gq, 0, none⟩ = some (.int .i64 p) ∧ W'.cell? ⟨gq, 1, none⟩ = some (.int .i64 ((K2 : Int) + 1)) ∧ W'.cell? ⟨gq, 2, none⟩ = some (.int .i64 (N2 : Int)) ∧ W'.cell? ⟨bx, ox, none⟩ = some (.int .i64 1) ∧ W'.cell? ⟨bx, ox + 1, none⟩ = some vx ∧ W'.cell? ⟨br, ob, none⟩ = some vr) (first | go_keep | exact HSK)
          (first
            | (go_at_call 19; have hcx := HCX.out _ HDW.out; refine (HX24d.out.split HQ.out.wf ((K : Int) + 1) (N : Int) ((K2 : Int) + 1) N2 1 (v := vx) (vr := vr) (x := X) (r := r1) hcx.2.2.2.1 hcx.2.2.2.2 (by have := HXL.out; omega) HRB.out HSP.out).mono ?_; rintro e w25 ⟨v25, rfl, hb, hX⟩; have HX25 := Lib.hid hX; have HB25 := Lib.hid (HDW.out.trans hb); have hk := hX.cells; have hcz := HCX.out _ HB25.out; have HSK := And.intro hk.1 (And.intro hk.2.1 (And.intro hk.2.2.1 (And.intro hk.2.2.2.1 (And.intro hk.2.2.2.2.1 (And.intro hk.2.2.2.2.2 (And.intro hcz.1 (And.intro hcz.2.1 hcz.2.2.1))))))); clear hX hb hk hcz hcx))
        obtain ⟨aP, cP, rfl, _, _⟩ := (HX25.out.lw.getM (v := v25) (L := rowL N2 (dealV p K2 X r1)) (by simp)).shape
        rw [rowL_len] at HX25 ⊢
        obtain ⟨c0, c1, c2, d0, d1, d2, x0, x1, r0⟩ := HSK
        clear HSP HRB HX24d HDW HX24 HK24
        go_wp2_with fail
        refine (HX25.out.combine ((K2 : Int) + 1) (N2 : Int) HQ.out.wf (z := .slice aP N2 cP) (L := rowL N2 (dealV p K2 X r1)) (S := X) (by simp) (HSVX.out.comb HQ2.out.pl (by push_cast; rfl) rfl (by have := HXL.out; omega))).mono ?_
        rintro e w26 ⟨v26, rfl, hb, hX⟩
        have HX26 := Lib.hid hX
        have HB26 := Lib.hid (HB25.out.trans (hb.mono HB25.out.size))
        obtain ⟨aB, cB, rfl⟩ := (hX.lw.getG (v := v26) (z := X) (by simp)).shape
        clear hX hb c0 c1 c2 d0 d1 d2 x0 x1 r0 HX25 HB25
        obtain ⟨c0, c1, c2, d0, d1, d2⟩ := HX26.out.cells
        go_wp2_with fail
        refine (HX26.out.fits ((K2 : Int) + 1) (N2 : Int) HQ.out.wf (z := .slice aX N2 cX) (by simp) HFI.out).mono ?_
        rintro e w27 ⟨rfl, hb, hX⟩
        have HX27 := Lib.hid hX
        have HB27 := Lib.hid (HB26.out.trans (hb.mono HB26.out.size))
        clear hX hb c0 c1 c2 d0 d1 d2 HB26
        obtain ⟨c0, c1, c2, d0, d1, d2⟩ := HX27.out.cells
        obtain ⟨x0, x1, _, xi, _⟩ := HCX.out _ HB27.out
        have HXI := Lib.hid xi
        clear xi
        go_wp2_with fail
        refine (HX27.out.sameI (va := .slice aB X.length cB) (vb := vx) (A := X) (by simp) HXI.out (by have := HXL.out; omega)).mono ?_
        rintro e w28 ⟨rfl, rfl⟩
        go_wp2_with fail
        refine HX27.out.awake.mono ?_
        rintro e w29 ⟨rfl, hb⟩
        have HB := Lib.hid hb
        clear hb
        go_wp2
        go_ret
        exact ⟨rfl, HB.out⟩
end Go.Proofs.YtgenollnnfljkaaDoor
