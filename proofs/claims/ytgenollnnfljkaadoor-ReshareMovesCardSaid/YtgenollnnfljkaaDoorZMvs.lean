
/- The walk through ReshareMoves. -/
import Derived.Test.YtgenollnnfljkaaDoorZLaw
import Derived.Deep.RegionHeld3
namespace Go.Proofs.YtgenollnnfljkaaDoor
open Go.RowKit Go.Sort
open Num
set_option linter.unusedVariables false

set_option maxRecDepth 100000 in
set_option maxHeartbeats 16000000 in
theorem reshareMoves_walk (s : Value) (l : List Int) (w : World) (hw : Wheel w) (hs : Ints w s l) :
    Calls Tryd.prog 4 #[s] w fun e w' => e = .returned (.bool true) ∧ Below w.heap.size w w' := by
  have HL := Lib.hid (light_any s l w hs)
  have HAW := Lib.hid (awake9_any w hw)
  obtain ⟨g, hg⟩ : ∃ g, w.heap.size = g := ⟨_, rfl⟩
  have hd0 := dice_new hs
  have hta : 0 < g := by rw [← hg]; exact hw.size
  obtain ⟨bl, hbl⟩ : ∃ b, decide ((l.length : Int) ≤ 500) = b := ⟨_, rfl⟩
  rw [hbl] at HL
  have HR := Lib.hid (roll_any s w (by obtain ⟨a, c, h, _⟩ := hs; exact ⟨a, _, c, h⟩))
  rw [hg] at HR hd0
  rw [hg]
  have HW0 := Lib.hid (hw.below hw.size ((Below.refl w.heap.size w).alloc (Nat.le_refl _) (.cells #[s, .int .i64 0] 61)))
  have HB0 : Hid (Below g w (w.alloc (.cells #[s, .int .i64 0] 61))) := by rw [← hg]; exact (Below.refl _ _).alloc (Nat.le_refl _) _
  have HD0 := Lib.hid hd0
  clear hd0 hw hs hbl
  cases bl with
  | false =>
    go_enter Tryd.func4, Tryd.ntmps4
    go_wp2_with fail
    refine HL.out.mono ?_
    rintro e w' ⟨rfl, rfl⟩
    go_wp2_with fail
    refine HAW.out.mono ?_
    rintro e w' ⟨rfl, hb⟩
    rw [hg] at hb
    have HB := Lib.hid hb
    clear hb
    go_wp2
    go_ret
    exact ⟨rfl, HB.out⟩
  | true =>
    go_enter Tryd.func4, Tryd.ntmps4
    go_wp2_with fail
    refine HL.out.mono ?_
    rintro e w' ⟨rfl, rfl⟩
    go_wp2_with fail
    refine HR.out.mono ?_
    rintro e w1 ⟨rfl, rfl⟩
    generalize w.alloc (.cells #[s, .int .i64 0] 61) = w1 at *
    go_wp2_with fail
    refine (prime_any g s l w1 HD0.out).mono ?_
    rintro e w2 ⟨p, hprm, hp2, rfl, hd2, hb2⟩
    have HPRM := Lib.hid hprm
    have hpp : 2 ≤ p := by have := hprm.1; omega
    have HP2 := Lib.hid hp2
    have HD2 := Lib.hid hd2
    have HB2 := Lib.hid (HB0.out.trans (hb2.below (Nat.le_refl _) (Nat.le_of_lt HD0.out.size)))
    have HW2 := Lib.hid (HW0.out.below hta (hb2.below (Nat.le_refl _) (Nat.le_of_lt HD0.out.size)))
    clear hb2 hd2 hprm HD0 HB0 HW0 HL HR
    go_wp2_with fail
    refine (plan_any g s l p w2 HD2.out hpp (by omega)).mono ?_
    rintro e w3 ⟨k, n, rfl, hk1, hkn, hn7, hnp, hd3, hb3⟩
    have hplb : planB p k n = true := planB_of HPRM.out (by have := HP2.out; omega) hk1 hkn (by omega) hnp
    obtain ⟨K, hK⟩ := Int.eq_ofNat_of_zero_le (show 0 ≤ k - 1 by omega)
    obtain ⟨N, rfl⟩ := Int.eq_ofNat_of_zero_le (show 0 ≤ n by omega)
    obtain rfl : k = (K : Int) + 1 := by omega
    have HQ : Hid (Pf p K N) := ⟨HPRM.out, by have := HP2.out; omega, hplb, ⟨by omega, by omega⟩, hnp⟩
    have hb3' := hb3.below (Nat.le_refl _) (Nat.le_of_lt HD2.out.size)
    have hg3 : g < w3.heap.size := hd3.size
    have hST : StL w (w3.alloc (.cells #[.int .i64 p, .int .i64 ((K : Int) + 1), .int .i64 (N : Int)] 30)) g w3.heap.size s l p ((K : Int) + 1) (N : Int) := by
      have hal : Below w3.heap.size w3 (w3.alloc (.cells #[.int .i64 p, .int .i64 ((K : Int) + 1), .int .i64 (N : Int)] 30)) := (Below.refl _ _).alloc (Nat.le_refl _) _
      exact ⟨hd3.below hal hg3, planAt_new _ _ _ _ _, (HW2.out.below hta hb3').below (by omega) hal, (HB2.out.trans hb3').trans (hal.mono (by omega)), hg3, by simp, hta⟩
    have HST := Lib.hid hST
    clear hST hb3 hb3' hg3 hd3 HB2 HW2 HD2 hK hk1 hkn hn7 hnp hp2 hplb
    unfold planV
    go_upto_region 5 with (fail)
    obtain ⟨gp, hgp⟩ : ∃ gp, w3.heap.size = gp := ⟨_, rfl⟩
    rw [hgp] at HST ⊢
    generalize w3.alloc (.cells #[.int .i64 p, .int .i64 ((K : Int) + 1), .int .i64 (N : Int)] 30) = w4 at *
    clear hgp
    have c0 := HST.out.pl.c0
    go_wp2_with fail
    refine (plan_any g s l p w4 HST.out.di hpp (by have := HP2.out; omega)).mono ?_
    rintro e w5 ⟨k2, n2, rfl, hk1, hkn, hn7, hnp, hd5, hb5⟩
    have hplb : planB p k2 n2 = true := planB_of HPRM.out (by have := HP2.out; omega) hk1 hkn (by omega) hnp
    obtain ⟨K2, hK⟩ := Int.eq_ofNat_of_zero_le (show 0 ≤ k2 - 1 by omega)
    obtain ⟨N2, rfl⟩ := Int.eq_ofNat_of_zero_le (show 0 ≤ n2 by omega)
    obtain rfl : k2 = (K2 : Int) + 1 := by omega
    have HQ2 : Hid (Pf p K2 N2) := ⟨HPRM.out, by have := HP2.out; omega, hplb, ⟨by omega, by omega⟩, hnp⟩
    have HX6 : Hid (Mw w (w5.alloc (.cells #[.int .i64 p, .int .i64 ((K2 : Int) + 1), .int .i64 (N2 : Int)] 30)) g gp w5.heap.size s l p K N K2 N2 [] []) := by
      have hal : Below w5.heap.size w5 (w5.alloc (.cells #[.int .i64 p, .int .i64 ((K2 : Int) + 1), .int .i64 (N2 : Int)] 30)) := (Below.refl _ _).alloc (Nat.le_refl _) _
      exact ⟨⟨(HST.out.but hb5 hd5).below hal, fun x hx => by simp at hx, fun x hx => by simp at hx⟩, planAt_new _ _ _ _ _, by show g < w5.heap.size; exact hd5.size⟩
    clear hb5 hd5 hK hk1 hkn hn7 hnp hplb HST HPRM HP2 hpp c0
    unfold planV
    go_upto_region 6 with (fail)
    obtain ⟨gq, hgq⟩ : ∃ gq, w5.heap.size = gq := ⟨_, rfl⟩
    rw [hgq] at HX6 ⊢
    generalize w5.alloc (.cells #[.int .i64 p, .int .i64 ((K2 : Int) + 1), .int .i64 (N2 : Int)] 30) = w6 at *
    clear hgq
    obtain ⟨c0, c1, c2, d0, d1, d2⟩ := HX6.out.cells
    have HDE := Lib.hid (HX6.out.dealt HQ.out 2 (by omega))
    go_wp2_with fail
    refine HDE.out.mono ?_
    rintro e w7 ⟨v1, v2, S, R, rfl, hS1, hS3, hSE, hX7⟩
    have HX7 := Lib.hid hX7
    have HSS : Hid (1 ≤ S.length ∧ S.length ≤ 2) := ⟨hS1, hS3⟩
    have HSE := Lib.hid hSE
    have HSVL := Lib.hid (secV_deal (K := K) (r := R) HQ.out.p1 hSE)
    have hg7 := hX7.lw.getG (v := v1) (z := S) (by simp)
    have hn7 := hX7.lw.getM (v := v2) (L := rowL N (dealV p K S R)) (by simp)
    obtain ⟨aS, cS, rfl⟩ := hg7.shape
    obtain ⟨aL, cL, rfl, _, _⟩ := hn7.shape
    rw [rowL_len] at HX7 ⊢
    obtain ⟨c, hc⟩ : ∃ c, S.length = c := ⟨_, rfl⟩
    have HCC := Lib.hid hc
    have hc2 : c ≤ 2 := by omega
    rw [hc] at HX7 ⊢
    clear c0 c1 c2 d0 d1 d2
    obtain ⟨c0, c1, c2, d0, d1, d2⟩ := HX7.out.cells
    clear hX7 hS1 hS3 hSE hg7 hn7 hc HDE HX6
    obtain ⟨Z, hZ⟩ : ∃ Z, c * K2 = Z := ⟨_, rfl⟩
    have HZZ := Lib.hid hZ
    have hzb : Z ≤ 1000000 := by
      have h1 : c * K2 ≤ 2 * 7 := Nat.mul_le_mul hc2 (by have := HQ2.out.kn; omega)
      omega
    have HZB := Lib.hid hzb
    have hZi : (c : Int) * (K2 : Int) = (Z : Int) := by rw [← hZ]; push_cast; rfl
    have HWZ : Hid (IntKind.i64.wrap ((c : Int) * (K2 : Int)) = (Z : Int)) := by show _ = _; rw [hZi, IntKind.wrap_i64]; omega
    have HWK : Hid (IntKind.i64.wrap ((K2 : Int) + 1 - 1) = (K2 : Int) ∧ IntKind.i64.wrap (K2 : Int) = (K2 : Int)) := by
      have := HQ2.out.kn
      have e : (K2 : Int) + 1 - 1 = (K2 : Int) := by omega
      exact ⟨by rw [e, IntKind.wrap_i64]; omega, by rw [IntKind.wrap_i64]; omega⟩
    obtain ⟨K1, hK1⟩ : ∃ K1, K + 1 = K1 := ⟨_, rfl⟩
    have hK1i : (K : Int) + 1 = (K1 : Int) := by omega
    have HK1 := Lib.hid (And.intro hK1 hK1i)
    have HKB : Hid (K1 ≤ 7) := by have := HQ.out.kn; show _ ≤ _; omega
    have HI0 : Hid (Kr w7 w7 g s l (.slice none 0 0) []) := ⟨But.refl _ _, HX7.out.lw.st.di, gathI_nil _ _⟩
    have HXO : Hid (∀ W u RR, Kr w7 W g s l u RR → Mw w W g gp gq s l p K N K2 N2 [(.slice aS c cS, S)] [(.slice aL N cL, rowL N (dealV p K S R))]) := fun W u RR h => HX7.out.but h.but h.di
    have HGO : Hid (g < w7.heap.size) := HX7.out.lw.st.di.size
    clear hZ hzb hZi hK1 HX7
    go_wp2_with fail
    clear c0 c1 c2 d0 d1 d2 hc2
    clear hK1i
    go_loopw [8, 35] (fun u i wr => ∃ (t : Nat) (RR : List (List Int)), t ≤ K1 ∧ i = .int .i64 t ∧ Hid (RR.length = t) ∧ Hid (∀ r ∈ RR, Els p r ∧ r.length = Z) ∧ Hid (Kr w7 wr g s l u RR)) (fun _ i _ => K1 - (intOf i).toNat)
    case atStart => exact ⟨0, [], Nat.zero_le _, rfl, rfl, fun r hr => by simp at hr, HI0⟩
    case round =>
      obtain ⟨t, RR, ht, rfl, HRL, HRE, HI⟩ := hrel
      clear HI0
      by_cases hlt : t < K1
      · obtain ⟨c0, c1, c2, d0, d1, d2⟩ := (HXO.out _ _ _ HI.out).cells
        have hwz := HWZ.out
        have hwk := HWK.out.1
        have hwk2 := HWK.out.2
        go_wp2_with fail
        clear hwz hwk hwk2
        refine ((HXO.out _ _ _ HI.out).elements HQ.out Z HZB.out).mono ?_
        rintro e w8 ⟨v8, zs, rfl, hzl, hze, hzg, hbt, hd8, _⟩
        obtain ⟨a8, c8, rfl⟩ := hzg.shape
        rw [hzl] at hzg ⊢
        have hal : Below w8.heap.size w8 (w8.alloc (.cells #[.slice a8 Z c8] 22)) := (Below.refl _ _).alloc (Nat.le_refl _) _
        have hlt8 := HI.out.gi.lt
        have hsz7 : w7.heap.size ≤ wr.heap.size := HI.out.but.size
        have HK9 := Lib.hid ((HI.out.buts HGO.out hbt hd8).below hal)
        have HP9 : Hid (SlcP (w8.alloc (.cells #[.slice a8 Z c8] 22)) (fun q => w7.heap.size ≤ q ∧ u8.ownBlock ≠ some q) (.slice a8 Z c8) zs) := by
          have h0 := (hzg.slc (by rw [hzl]; have := HZB.out; omega)).below (Nat.le_refl _) hal
          refine ⟨h0, fun q hq _ => ?_⟩
          have h1 := (gath_lt hzg q hq).1
          exact ⟨by omega, fun e => by have := (hlt8 q e).2; omega⟩
        have HC9 := Lib.hid (cell_alloc_new w8 (.slice a8 Z c8) 22 _ rfl)
        have HS9 : Hid (w7.heap.size ≤ (w8.alloc (.cells #[.slice a8 Z c8] 22)).heap.size) := HK9.out.but.size
        have HZL := Lib.hid (And.intro hze hzl)
        have HTT : Hid (t < K1) := hlt
        clear hal hlt8 hsz7 hzg hbt hd8 c0 c1 c2 d0 d1 d2 hze hzl HI
        go_wp2_with (at_builtin; refine append_intss _ rfl _ _ rfl w7.heap.size u8 RR (.slice a8 Z c8) zs rfl HK9.out.gi w8.heap.size rfl HC9.out HP9.out ?c1 HS9.out ?_)
        case c1 => rw [HRL.out]; have := HKB.out; omega
        intro v' w' hgi hb
        have HIN : Hid (Kr w7 w' g s l v' (RR ++ [zs])) := ⟨HK9.out.but.above hb (Nat.le_refl _), HK9.out.di.below hb HGO.out, hgi⟩
        have HRN : Hid (∀ r ∈ RR ++ [zs], Els p r ∧ r.length = Z) := fun r hr => by
          rcases List.mem_append.1 hr with h | h
          · exact HRE.out r h
          · rw [List.mem_singleton.1 h]; exact HZL.out
        have HLN : Hid ((RR ++ [zs]).length = t + 1) := by show _ = _; rw [List.length_append, HRL.out]; rfl
        have htt := HTT.out
        have hkb := HKB.out
        clear hgi hb HK9 HP9 HC9 HS9 HZL
        go_wp2
        go_roundw
        case rel => exact ⟨t + 1, RR ++ [zs], by have := HTT.out; omega, by go_num, HLN, HRN, HIN⟩
        case measure => simp [intOf]; omega
      · obtain rfl : t = K1 := by omega
        have HKD := Lib.hid (HI.out.below (Below.refl _ _).drew)
        have HXD := Lib.hid (HXO.out _ _ _ HKD.out)
        obtain ⟨aR, cR, rfl⟩ := HI.out.gi.shape
        rw [HRL.out] at HKD HI ⊢
        obtain ⟨c0, c1, c2, d0, d1, d2⟩ := HXD.out.cells
        have HTU := Lib.hid (HXD.out.turn (n := N) (z := .slice aL N cL) (V := dealV p K S R) (by have := HQ.out.kn; omega) (by simp) (fun x => by rw [HSVL.out.siz]; have := HSS.out; omega) (K + 1) (by have := HQ.out.kn; omega))
        rw [show ((K + 1 : Nat) : Int) = (K : Int) + 1 by push_cast; rfl] at HTU
        go_wp2_with fail
        clear c0 c1 c2 d0 d1 d2
        have HRR : Hid (∀ r ∈ RR, Els p r ∧ r.length = S.length * K2) := fun r hr => by rw [HCC.out, HZZ.out]; exact HRE.out r hr
        have HSK := HXD.out.cells
        go_region_held3 (fun W' => W'.cell? ⟨gp, 0, none⟩ = some (.int .i64 p) ∧ W'.cell? ⟨gp, 1, none⟩ = some (.int .i64 ((K : Int) + 1)) ∧ W'.cell? ⟨gp, 2, none⟩ = some (.int .i64 (N : Int)) ∧ W'.cell? ⟨gq, 0, none⟩ = some (.int .i64 p) ∧ W'.cell? ⟨gq, 1, none⟩ = some (.int .i64 ((K2 : Int) + 1)) ∧ W'.cell? ⟨gq, 2, none⟩ = some (.int .i64 (N2 : Int))) (first | go_keep | exact HSK)
          (first
            | (go_at_call 22; refine HTU.out.mono ?_; rintro e w20 ⟨v20, L2, m, rfl, hpm, hm1, hm2, hbt, hdi, hX⟩; have HX20 := Lib.hid hX; have HSK := hX.cells; have HKT := Lib.hid (HKD.out.buts HGO.out hbt hdi); have HMV := Lib.hid (HSVL.out.moved HQ.out.pl HQ2.out.pl (by have := HSS.out; omega) hpm (show K + 1 ≤ m by have := HQ.out.kn; omega) hm2 (by rw [HRL.out]; have := HK1.out.1; omega) HRR.out); clear hX hpm hm1 hm2 hbt hdi)
            | (go_at_call 25; obtain ⟨fM, U, hsvu, hmvu⟩ := HMV.out; have hli := HKT.out.gi.lists (by rw [HRL.out]; have := HKB.out; omega); refine (HX20.out.move HQ.out.wf ((K : Int) + 1) (N : Int) ((K2 : Int) + 1) N2 (z := v20) (by simp) hli (fun r hr => by rw [(HRE.out r hr).2]; exact HZB.out) hmvu).mono ?_; rintro e w21 ⟨v21, rfl, _, hX⟩; have HX21 := Lib.hid hX; have HSK := hX.cells; have HSVU := Lib.hid hsvu; clear hX hsvu hmvu hli))
        obtain ⟨aM, cM, rfl, _, _⟩ := (HX21.out.lw.getM (v := v21) (L := rowL N2 U) (by simp)).shape
        rw [rowL_len] at HX21 ⊢
        clear HSK HX20 HKT HMV HXD HKD HTU HI
        have HFT := Lib.hid (HX21.out.fits ((K2 : Int) + 1) (N2 : Int) HQ.out.wf (z := .slice aM N2 cM) (L := rowL N2 U) (by simp) (HSVU.out.fits HQ2.out.pl (by push_cast; rfl) rfl (by have := HSS.out; omega)))
        obtain ⟨c0, c1, c2, d0, d1, d2⟩ := HX21.out.cells
        go_wp2_with fail
        refine HFT.out.mono ?_
        rintro e w22 ⟨rfl, _, hX⟩
        have HX22 := Lib.hid hX.drew
        clear hX HFT c0 c1 c2 d0 d1 d2
        obtain ⟨c0, c1, c2, d0, d1, d2⟩ := HX22.out.cells
        have HTU := Lib.hid (HX22.out.turn (n := N2) (z := .slice aM N2 cM) (V := U) (by have := HQ2.out.kn; omega) (by simp) (fun x => by rw [HSVU.out.siz]; have := HSS.out; omega) (K2 + 1) (by have := HQ2.out.kn; omega))
        rw [show ((K2 + 1 : Nat) : Int) = (K2 : Int) + 1 by push_cast; rfl] at HTU
        go_wp2_with fail
        clear c0 c1 c2 d0 d1 d2
        have HSK := HX22.out.cells
        go_region_held3 (fun W' => W'.cell? ⟨gp, 0, none⟩ = some (.int .i64 p) ∧ W'.cell? ⟨gp, 1, none⟩ = some (.int .i64 ((K : Int) + 1)) ∧ W'.cell? ⟨gp, 2, none⟩ = some (.int .i64 (N : Int)) ∧ W'.cell? ⟨gq, 0, none⟩ = some (.int .i64 p) ∧ W'.cell? ⟨gq, 1, none⟩ = some (.int .i64 ((K2 : Int) + 1)) ∧ W'.cell? ⟨gq, 2, none⟩ = some (.int .i64 (N2 : Int))) (first | go_keep | exact HSK)
          (first
            | (go_at_call 22; refine HTU.out.mono ?_; rintro e w23 ⟨v23, L3, m3, rfl, hpm, hm1, hm2, _, _, hX⟩; have HX23 := Lib.hid hX; have HSK := hX.cells; have HCB := Lib.hid (HSVU.out.turn (p := p) (k := (K2 : Int) + 1) (n := (N2 : Int)) HQ2.out.pl (by push_cast; rfl) rfl (by have := HSS.out; omega) hpm (show K2 + 1 ≤ m3 by have := HQ2.out.kn; omega) hm2); clear hX hpm hm1 hm2)
            | (go_at_call 28; refine (HX23.out.combine ((K2 : Int) + 1) (N2 : Int) HQ.out.wf (z := v23) (L := L3.take m3) (S := S) (by simp) HCB.out).mono ?_; rintro e w24 ⟨v24, rfl, _, hX⟩; have HX24 := Lib.hid hX; have HSK := hX.cells; clear hX))
        obtain ⟨aE, cE, rfl⟩ := (HX24.out.lw.getG (v := v24) (z := S) (by simp)).shape
        rw [HCC.out] at HX24 ⊢
        clear HSK HX23 HX22 HTU
        go_wp2_with fail
        refine (HX24.out.same (va := .slice aE c cE) (vb := .slice aS c cS) (A := S) (by simp) (by simp) (by have := HSS.out; omega)).mono ?_
        rintro e w25 ⟨rfl, rfl⟩
        go_wp2_with fail
        refine HX24.out.awake.mono ?_
        rintro e w26 ⟨rfl, hb⟩
        have HB := Lib.hid hb
        clear hb
        go_wp2
        go_ret
        exact ⟨rfl, HB.out⟩
end Go.Proofs.YtgenollnnfljkaaDoor
