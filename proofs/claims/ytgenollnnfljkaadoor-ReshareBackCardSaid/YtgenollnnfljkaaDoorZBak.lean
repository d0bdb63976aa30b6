
/- The walk through ReshareBack. -/
import Derived.Test.YtgenollnnfljkaaDoorZBk
import Derived.Deep.RegionHeld3
import Derived.Deep.DeepCutAuto
namespace Go.Proofs.YtgenollnnfljkaaDoor
open Go.RowKit Go.Sort
open Num
set_option linter.unusedVariables false

set_option maxRecDepth 100000 in
set_option maxHeartbeats 16000000 in
theorem reshareBack_walk (s : Value) (l : List Int) (w : World) (hw : Wheel w) (hs : Ints w s l) :
    Calls Tryd.prog 6 #[s] w fun e w' => e = .returned (.bool true) ∧ Below w.heap.size w w' := by
  have HL := Lib.hid (light_any s l w hs)
  have HAW := Lib.hid (awake9_any w hw)
  obtain ⟨g, hg⟩ : ∃ g, w.heap.size = g := ⟨_, rfl⟩
  have hd0 := dice_new hs
  have hta : 0 < g := by rw [← hg]; exact hw.size
  obtain ⟨bl, hbl⟩ : ∃ b, decide ((l.length : Int) ≤ 500) = b := ⟨_, rfl⟩
  rw [hbl] at HL
  have HR := Lib.hid (roll_any s w (by obtain ⟨a, c, h, _⟩ := hs; exact ⟨a, _, c, h⟩))
  rw [hg] at HR hd0
  rw [hg]
  have HW0 := Lib.hid (hw.below hw.size ((Below.refl w.heap.size w).alloc (Nat.le_refl _) (.cells #[s, .int .i64 0] 61)))
  have HB0 : Hid (Below g w (w.alloc (.cells #[s, .int .i64 0] 61))) := by rw [← hg]; exact (Below.refl _ _).alloc (Nat.le_refl _) _
  have HD0 := Lib.hid hd0
  clear hd0 hw hs hbl
  cases bl with
  | false =>
    go_enter Tryd.func6, Tryd.ntmps6
    go_wp2_with fail
    refine HL.out.mono ?_
    rintro e w' ⟨rfl, rfl⟩
    go_wp2_with fail
    refine HAW.out.mono ?_
    rintro e w' ⟨rfl, hb⟩
    rw [hg] at hb
    have HB := Lib.hid hb
    clear hb
    go_wp2
    go_ret
    exact ⟨rfl, HB.out⟩
  | true =>
    go_enter Tryd.func6, Tryd.ntmps6
    go_wp2_with fail
    refine HL.out.mono ?_
    rintro e w' ⟨rfl, rfl⟩
    go_wp2_with fail
    refine HR.out.mono ?_
    rintro e w1 ⟨rfl, rfl⟩
    generalize w.alloc (.cells #[s, .int .i64 0] 61) = w1 at *
    go_wp2_with fail
    refine (prime_any g s l w1 HD0.out).mono ?_
    rintro e w2 ⟨p, hprm, hp2, rfl, hd2, hb2⟩
    have HPRM := Lib.hid hprm
    have hpp : 2 ≤ p := by have := hprm.1; omega
    have HP2 := Lib.hid hp2
    have HD2 := Lib.hid hd2
    have HB2 := Lib.hid (HB0.out.trans (hb2.below (Nat.le_refl _) (Nat.le_of_lt HD0.out.size)))
    have HW2 := Lib.hid (HW0.out.below hta (hb2.below (Nat.le_refl _) (Nat.le_of_lt HD0.out.size)))
    clear hb2 hd2 hprm HD0 HB0 HW0 HL HR
    go_wp2_with fail
    refine (plan_any g s l p w2 HD2.out hpp (by omega)).mono ?_
    rintro e w3 ⟨k, n, rfl, hk1, hkn, hn7, hnp, hd3, hb3⟩
    have hplb : planB p k n = true := planB_of HPRM.out (by have := HP2.out; omega) hk1 hkn (by omega) hnp
    obtain ⟨K, hK⟩ := Int.eq_ofNat_of_zero_le (show 0 ≤ k - 1 by omega)
    obtain ⟨N, rfl⟩ := Int.eq_ofNat_of_zero_le (show 0 ≤ n by omega)
    obtain rfl : k = (K : Int) + 1 := by omega
    have HQ : Hid (Pf p K N) := ⟨HPRM.out, by have := HP2.out; omega, hplb, ⟨by omega, by omega⟩, hnp⟩
    have hb3' := hb3.below (Nat.le_refl _) (Nat.le_of_lt HD2.out.size)
    have hg3 : g < w3.heap.size := hd3.size
    have hST : StL w (w3.alloc (.cells #[.int .i64 p, .int .i64 ((K : Int) + 1), .int .i64 (N : Int)] 30)) g w3.heap.size s l p ((K : Int) + 1) (N : Int) := by
      have hal : Below w3.heap.size w3 (w3.alloc (.cells #[.int .i64 p, .int .i64 ((K : Int) + 1), .int .i64 (N : Int)] 30)) := (Below.refl _ _).alloc (Nat.le_refl _) _
      exact ⟨hd3.below hal hg3, planAt_new _ _ _ _ _, (HW2.out.below hta hb3').below (by omega) hal, (HB2.out.trans hb3').trans (hal.mono (by omega)), hg3, by simp, hta⟩
    have HST := Lib.hid hST
    clear hST hb3 hb3' hg3 hd3 HB2 HW2 HD2 hK hk1 hkn hn7 hnp hp2 hplb HPRM HP2 hpp
    unfold planV
    go_wp2_with fail
    obtain ⟨gp, hgp⟩ : ∃ gp, w3.heap.size = gp := ⟨_, rfl⟩
    rw [hgp] at HST ⊢
    generalize w3.alloc (.cells #[.int .i64 p, .int .i64 ((K : Int) + 1), .int .i64 (N : Int)] 30) = w4 at *
    clear hgp
    have HX4 : Hid (Lw w w4 g gp s l p ((K : Int) + 1) (N : Int) [] []) := ⟨HST.out, fun x hx => by simp at hx, fun x hx => by simp at hx⟩
    have c0 := HST.out.pl.c0
    have c1 := HST.out.pl.c1
    have c2 := HST.out.pl.c2
    have HDE := Lib.hid (HX4.out.dealt HQ.out 2 (by omega))
    clear HST
    go_wp2_with fail
    refine HDE.out.mono ?_
    rintro e w5 ⟨v1, v2, S, R, rfl, hS1, hS3, hSE, hX5⟩
    have HX5 := Lib.hid hX5
    have HSS : Hid (1 ≤ S.length ∧ S.length ≤ 2) := ⟨hS1, hS3⟩
    have HSE := Lib.hid hSE
    have HSVL := Lib.hid (secV_deal (K := K) (r := R) HQ.out.p1 hSE)
    have hg5 := hX5.getG (v := v1) (z := S) (by simp)
    have hn5 := hX5.getM (v := v2) (L := rowL N (dealV p K S R)) (by simp)
    obtain ⟨aS, cS, rfl⟩ := hg5.shape
    obtain ⟨aL, cL, rfl, _, _⟩ := hn5.shape
    rw [rowL_len] at HX5 ⊢
    obtain ⟨c, hc⟩ : ∃ c, S.length = c := ⟨_, rfl⟩
    have HCC := Lib.hid hc
    rw [hc] at HX5 ⊢
    obtain ⟨c0, c1, c2⟩ := HX5.out.cells
    clear hX5 hS1 hS3 hSE hg5 hn5 hc HDE HX4
    have hc2 : c ≤ 2 := by rw [← HCC.out]; exact HSS.out.2
    have HC2 := Lib.hid hc2
    have HBK := Lib.hid (Bk.start HX5.out 30)
    go_upto_region 8 with (fail)
    obtain ⟨gh, hgh⟩ : ∃ gh, w5.heap.size = gh := ⟨_, rfl⟩
    rw [hgh] at HBK ⊢
    generalize w5.alloc (.cells #[.int .i64 p, .int .i64 ((K : Int) + 1), .int .i64 (N : Int)] 30) = w6 at *
    clear hgh HX5 hc2 c0 c1 c2
    go_wp2_with fail
    go_loopw [7, 9, 10, 11, 12, 13, 14, 15, 34] (fun v _ _ _ _ _ _ _ i wr => ∃ (t Ka Na : Nat) (f : Nat → List Int) (V : Int → List Int), t ≤ 3 ∧ i = .int .i64 t ∧ Hid (Pf p Ka Na) ∧ Hid (SecV p (Ka + 1) S f V) ∧ Hid (Bk w wr g gp gh s l p K N Ka Na (.slice aS c cS) S v V) ∧ Hid (t = 3 → Na = N)) (fun _ _ _ _ _ _ _ _ i _ => 3 - (intOf i).toNat)
    case atStart => exact ⟨0, K, N, _, _, by omega, rfl, HQ, HSVL, HBK, fun h => by omega⟩
    case round =>
      obtain ⟨t, Ka, Na, fA, V, ht, rfl, HQA, HSV, HI, HT3⟩ := hrel
      clear HBK
      obtain ⟨aV, cV, hvs, _⟩ := HI.out.sL
      subst hvs
      rw [rowL_len] at HI ⊢
      by_cases hlt : t < 3
      · obtain ⟨c0, c1, c2, d0, d1, d2⟩ := HI.out.planCells
        have hpp : 2 ≤ p := by have := HQ.out.prm.1; omega
        have HPL := Lib.hid (plan_any g s l p wr HI.out.st.di hpp (by have := HQ.out.p2; omega))
        clear hpp
        go_wp2_with fail
        refine HPL.out.mono ?_
        rintro e w7 ⟨k2, n2, rfl, hk1, hkn, hn7, hnp, hd7, hb7⟩
        have hplb : planB p k2 n2 = true := planB_of HQ.out.prm HQ.out.p2 hk1 hkn (by omega) hnp
        obtain ⟨Kt, hK⟩ := Int.eq_ofNat_of_zero_le (show 0 ≤ k2 - 1 by omega)
        obtain ⟨Nt, rfl⟩ := Int.eq_ofNat_of_zero_le (show 0 ≤ n2 by omega)
        obtain rfl : k2 = (Kt : Int) + 1 := by omega
        have HQT : Hid (Pf p Kt Nt) := ⟨HQ.out.prm, HQ.out.p2, hplb, ⟨by omega, by omega⟩, hnp⟩
        have HI7 := Lib.hid (HI.out.but hb7 hd7)
        clear hb7 hd7 hK hk1 hkn hn7 hnp hplb HPL c0 c1 c2 d0 d1 d2
        unfold planV
        go_upto_region 12 with (fail)
        obtain ⟨gt, hgt⟩ : ∃ gt, w7.heap.size = gt := ⟨_, rfl⟩
        have hal : Below w7.heap.size w7 (w7.alloc (.cells #[.int .i64 p, .int .i64 ((Kt : Int) + 1), .int .i64 (Nt : Int)] 30)) := (Below.refl _ _).alloc (Nat.le_refl _) _
        have HI8 := Lib.hid (HI7.out.below hal)
        have HP8 := Lib.hid (planZ_new w7 p ((Kt : Int) + 1) (Nt : Int) 30)
        have HGT : Hid (gh < gt) := by rw [← hgt]; exact HI7.out.ap.lt
        have HBL : Hid (∀ W, Below gt w7 W → Bk w W g gp gh s l p K N Ka Na (.slice aS c cS) S (.slice aV Na cV) V) := fun W b => HI7.out.below (by rw [hgt]; exact b)
        have HAL := Lib.hid hal
        rw [hgt] at HP8 HAL ⊢
        clear hal hgt HI7 HI
        generalize w7.alloc (.cells #[.int .i64 p, .int .i64 ((Kt : Int) + 1), .int .i64 (Nt : Int)] 30) = w8 at *
        obtain ⟨c0, c1, c2, d0, d1, d2⟩ := HI8.out.planCells
        obtain ⟨e0, e1, e2⟩ : w8.cell? ⟨gt, 0, none⟩ = some (.int .i64 p) ∧ w8.cell? ⟨gt, 1, none⟩ = some (.int .i64 ((Kt : Int) + 1)) ∧ w8.cell? ⟨gt, 2, none⟩ = some (.int .i64 (Nt : Int)) := ⟨HP8.out.at'.c0, HP8.out.at'.c1, HP8.out.at'.c2⟩
        obtain ⟨hz8, hb8, f0, f1, f2⟩ := HP8.out.write p ((K : Int) + 1) (N : Int)
        have HZ8 := Lib.hid hz8
        have HB8 := Lib.hid hb8
        have HBW8 : Hid (Bk w (planSet w8 gt p ((K : Int) + 1) (N : Int)) g gp gh s l p K N Ka Na (.slice aS c cS) S (.slice aV Na cV) V) := HBL.out _ (HAL.out.trans (hb8.below (Nat.le_refl _) (by have := HP8.out.lt; omega)))
        clear hz8 hb8
        obtain ⟨bz, hbz⟩ : ∃ b, ((t : Int) == 2) = b := ⟨_, rfl⟩
        have HBZ : Hid (bz = true ↔ t = 2) := by show _ ↔ _; rw [← hbz]; simp; omega
        go_upto_if 41 with (fail)
        go_cut [42] (fun _ W => ∃ Ky Ny : Nat, Hid (Pf p Ky Ny) ∧ Hid (PlanZ W gt p ((Ky : Int) + 1) (Ny : Int)) ∧ Hid (Bk w W g gp gh s l p K N Ka Na (.slice aS c cS) S (.slice aV Na cV) V) ∧ Hid (t + 1 = 3 → Ny = N))
        case first =>
          cases bz with
          | true =>
            go_wp2_with fail
            go_meet
            exact ⟨K, N, HQ, HZ8, HBW8, fun _ => rfl⟩
          | false =>
            clear f0 f1 f2
            go_wp2_with fail
            go_meet
            exact ⟨Kt, Nt, HQT, HP8, HI8, fun h => by have := HBZ.out.2 (by omega); cases this⟩
        case rest =>
          obtain ⟨Ky, Ny, HQY, HPY, HIY, HNY⟩ := hcut
          clear HBZ hbz f0 f1 f2 HZ8 HB8 HBW8 HBL HAL HP8 HI8 HQT c0 c1 c2 d0 d1 d2 e0 e1 e2
          obtain ⟨Z, hZ⟩ : ∃ Z, c * Ky = Z := ⟨_, rfl⟩
          have HZZ := Lib.hid hZ
          have hzb : Z ≤ 1000000 := by
            have h1 : c * Ky ≤ 2 * 7 := Nat.mul_le_mul HC2.out (by have := HQY.out.kn; omega)
            omega
          have HZB := Lib.hid hzb
          have hZi : (c : Int) * (Ky : Int) = (Z : Int) := by rw [← hZ]; push_cast; rfl
          have HWZ : Hid (IntKind.i64.wrap ((c : Int) * (Ky : Int)) = (Z : Int)) := by show _ = _; rw [hZi, IntKind.wrap_i64]; omega
          have HWK : Hid (IntKind.i64.wrap ((Ky : Int) + 1 - 1) = (Ky : Int) ∧ IntKind.i64.wrap (Ky : Int) = (Ky : Int)) := by
            have := HQY.out.kn
            have e : (Ky : Int) + 1 - 1 = (Ky : Int) := by omega
            exact ⟨by rw [e, IntKind.wrap_i64]; omega, by rw [IntKind.wrap_i64]; omega⟩
          obtain ⟨K1, hK1⟩ : ∃ K1, Ka + 1 = K1 := ⟨_, rfl⟩
          have hK1i : (Ka : Int) + 1 = (K1 : Int) := by omega
          have HK1 := Lib.hid (And.intro hK1 hK1i)
          have HKB : Hid (K1 ≤ 7) := by have := HQA.out.kn; show _ ≤ _; omega
          have HI0 : Hid (Kr wc wc g s l (.slice none 0 0) []) := ⟨But.refl _ _, HIY.out.st.di, gathI_nil _ _⟩
          have HXO : Hid (∀ W u RR, Kr wc W g s l u RR → Bk w W g gp gh s l p K N Ka Na (.slice aS c cS) S (.slice aV Na cV) V ∧ PlanZ W gt p ((Ky : Int) + 1) (Ny : Int)) := fun W u RR h => ⟨HIY.out.but h.but h.di, HPY.out.but h.but (by have := HIY.out.st.lt; have := HIY.out.lt; have := HGT.out; omega)⟩
          have HGO : Hid (g < wc.heap.size) := HIY.out.st.di.size
          obtain ⟨c0, c1, c2, d0, d1, d2⟩ := HIY.out.planCells
          obtain ⟨e0, e1, e2⟩ : wc.cell? ⟨gt, 0, none⟩ = some (.int .i64 p) ∧ wc.cell? ⟨gt, 1, none⟩ = some (.int .i64 ((Ky : Int) + 1)) ∧ wc.cell? ⟨gt, 2, none⟩ = some (.int .i64 (Ny : Int)) := ⟨HPY.out.at'.c0, HPY.out.at'.c1, HPY.out.at'.c2⟩
          clear hZ hzb hZi hK1
          go_wp2_with fail
          clear c0 c1 c2 d0 d1 d2 e0 e1 e2 hK1i
          go_loopw [11, 45] (fun u i wr => ∃ (j : Nat) (RR : List (List Int)), j ≤ K1 ∧ i = .int .i64 j ∧ Hid (RR.length = j) ∧ Hid (∀ r ∈ RR, Els p r ∧ r.length = Z) ∧ Hid (Kr wc wr g s l u RR)) (fun _ i _ => K1 - (intOf i).toNat)
          case atStart => exact ⟨0, [], Nat.zero_le _, rfl, rfl, fun r hr => by simp at hr, HI0⟩
          case round =>
            obtain ⟨j, RR, hj, rfl, HRL, HRE, HJ⟩ := hrel
            clear HI0
            by_cases hlj : j < K1
            · obtain ⟨hbk, hpz⟩ := HXO.out _ _ _ HJ.out
              obtain ⟨c0, c1, c2, d0, d1, d2⟩ := hbk.planCells
              have e0 := hpz.at'.c0
              have e1 := hpz.at'.c1
              have hwz := HWZ.out
              have hwk := HWK.out.1
              have hwk2 := HWK.out.2
              have HDE := Lib.hid (dice_elements g s l p Z _ HJ.out.di HQ.out.p1 HQ.out.p2 HZB.out)
              clear hbk hpz
              go_wp2_with fail
              clear hwz hwk hwk2
              refine HDE.out.mono ?_
              rintro e w8 ⟨v8, zs, rfl, hzl, hze, hzg, hd8, hbt⟩
              obtain ⟨a8, c8, rfl⟩ := hzg.shape
              rw [hzl] at hzg ⊢
              have hal : Below w8.heap.size w8 (w8.alloc (.cells #[.slice a8 Z c8] 22)) := (Below.refl _ _).alloc (Nat.le_refl _) _
              have hlt8 := HJ.out.gi.lt
              have hsz7 : wc.heap.size ≤ wr.heap.size := HJ.out.but.size
              have HK9 := Lib.hid ((HJ.out.buts HGO.out hbt hd8).below hal)
              have HP9 : Hid (SlcP (w8.alloc (.cells #[.slice a8 Z c8] 22)) (fun q => wc.heap.size ≤ q ∧ u11.ownBlock ≠ some q) (.slice a8 Z c8) zs) := by
                have h0 := (hzg.slc (by rw [hzl]; have := HZB.out; omega)).below (Nat.le_refl _) hal
                refine ⟨h0, fun q hq _ => ?_⟩
                have h1 := (gath_lt hzg q hq).1
                exact ⟨by omega, fun e => by have := (hlt8 q e).2; omega⟩
              have HC9 := Lib.hid (cell_alloc_new w8 (.slice a8 Z c8) 22 _ rfl)
              have HS9 : Hid (wc.heap.size ≤ (w8.alloc (.cells #[.slice a8 Z c8] 22)).heap.size) := HK9.out.but.size
              have HZL := Lib.hid (And.intro hze hzl)
              have HTT : Hid (j < K1) := hlj
              clear hal hlt8 hsz7 hzg hbt hd8 c0 c1 c2 d0 d1 d2 e0 e1 hze hzl HJ HDE
              go_wp2_with (at_builtin; refine append_intss _ rfl _ _ rfl wc.heap.size u11 RR (.slice a8 Z c8) zs rfl HK9.out.gi w8.heap.size rfl HC9.out HP9.out ?c1 HS9.out ?_)
              case c1 => rw [HRL.out]; have := HKB.out; omega
              intro v' w' hgi hb
              have HIN : Hid (Kr wc w' g s l v' (RR ++ [zs])) := ⟨HK9.out.but.above hb (Nat.le_refl _), HK9.out.di.below hb HGO.out, hgi⟩
              have HRN : Hid (∀ r ∈ RR ++ [zs], Els p r ∧ r.length = Z) := fun r hr => by
                rcases List.mem_append.1 hr with h | h
                · exact HRE.out r h
                · rw [List.mem_singleton.1 h]; exact HZL.out
              have HLN : Hid ((RR ++ [zs]).length = j + 1) := by show _ = _; rw [List.length_append, HRL.out]; rfl
              have htt := HTT.out
              have hkb := HKB.out
              clear hgi hb HK9 HP9 HC9 HS9 HZL
              go_wp2
              go_roundw
              case rel => exact ⟨j + 1, RR ++ [zs], by have := HTT.out; omega, by go_num, HLN, HRN, HIN⟩
              case measure => simp [intOf]; omega
            · obtain rfl : j = K1 := by omega
              obtain ⟨hbk, hpz⟩ := HXO.out _ _ _ HJ.out
              have HBX := Lib.hid hbk
              have HPX := Lib.hid hpz
              obtain ⟨aR, cR, rfl⟩ := HJ.out.gi.shape
              rw [HRL.out] at HJ ⊢
              have HMM := Lib.hid (hbk.move HQA.out HQY.out (u := .slice aR j cR) (RR := RR) HSV.out HSS.out.2 (HJ.out.gi.lists (by rw [HRL.out]; have := HKB.out; omega)) (by rw [HRL.out]; have := HK1.out.1; omega) (fun r hr => by rw [HCC.out, HZZ.out]; exact HRE.out r hr))
              obtain ⟨c0, c1, c2, d0, d1, d2⟩ := hbk.planCells
              have e0 := hpz.at'.c0
              have e1 := hpz.at'.c1
              have e2 := hpz.at'.c2
              clear hbk hpz
              go_wp2_with fail
              clear c0 c1 c2 d0 d1 d2 e0 e1 e2
              refine HMM.out.mono ?_
              rintro e w10 ⟨v10, fM, U, rfl, hsu, hn10, hb10⟩
              have HB10 := Lib.hid (HBX.out.below hb10)
              have HP10 := Lib.hid (HPX.out.below HPX.out.lt hb10)
              have HN10 := Lib.hid (hn10.mono (show gt + 1 ≤ wr.heap.size from HPX.out.lt))
              have HSU := Lib.hid hsu
              obtain ⟨aM, cM, rfl, _, _⟩ := hn10.shape
              rw [rowL_len] at HN10 ⊢
              have hcm := ref6_combine_any p ((Ky : Int) + 1) (Ny : Int) (.slice aM Ny cM) (rowL Ny U) w10 HQ.out.wf HN10.out.shares
              have hcb := hsu.comb (n := (Ny : Int)) (N := Ny) HQY.out.pl (by push_cast; rfl) rfl (by have := HSS.out; omega)
              rw [hcb.1, hcb.2] at hcm
              unfold planV at hcm
              have HCM := Lib.hid hcm
              have e0 := HP10.out.at'.c0
              have e1 := HP10.out.at'.c1
              have e2 := HP10.out.at'.c2
              clear hsu hn10 hb10 hcm hcb HMM HBX HPX HXO HJ
              go_wp2_with fail
              clear e0 e1 e2
              refine HCM.out.mono ?_
              rintro e w11 ⟨v11, rfl, hg11, hb11⟩
              have HB11 := Lib.hid (HB10.out.below hb11)
              have HP11 := Lib.hid (HP10.out.below HP10.out.lt hb11)
              have HN11 := Lib.hid (HN10.out.below hb11 (Nat.le_refl _))
              have HSA := Lib.hid (same_yes v11 (.slice aS c cS) S w11 (hg11.reads (by have := HSS.out; omega)) (HB11.out.sS.reads (by have := HSS.out; omega)))
              obtain ⟨aC, cC, rfl⟩ := hg11.shape
              rw [HCC.out] at HSA ⊢
              clear hg11 hb11 HCM HB10 HP10 HN10
              go_wp2_with fail
              refine HSA.out.mono ?_
              rintro e w12 ⟨rfl, rfl⟩
              obtain ⟨hz, hbw, f0, f1, f2⟩ := HB11.out.ap.write p ((Ky : Int) + 1) (Ny : Int)
              have HBZ := Lib.hid (HB11.out.write hbw hz HN11.out (by have := HGT.out; omega))
              have e0 := HP11.out.at'.c0
              have e1 := HP11.out.at'.c1
              have e2 := HP11.out.at'.c2
              obtain ⟨c0, c1, c2, d0, d1, d2⟩ := HB11.out.planCells
              clear hz hbw HSA HB11
              go_wp2_with fail
              go_roundw
              case rel => exact ⟨t + 1, Ky, Ny, fM, U, by omega, by go_num, HQY, HSU, HBZ, HNY⟩
              case measure => simp [intOf]; omega
      · obtain rfl : t = 3 := by omega
        obtain rfl : Na = N := HT3.out rfl
        obtain ⟨c0, c1, c2, d0, d1, d2⟩ := HI.out.planCells
        go_wp2_with fail
        refine HI.out.awake.mono ?_
        rintro e w13 ⟨rfl, hb⟩
        have HB := Lib.hid hb
        clear hb
        go_wp2
        go_ret
        exact ⟨rfl, HB.out⟩
end Go.Proofs.YtgenollnnfljkaaDoor
