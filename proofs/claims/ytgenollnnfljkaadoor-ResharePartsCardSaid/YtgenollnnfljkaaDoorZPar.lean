
/- The walk through ReshareParts. -/
import Derived.Test.YtgenollnnfljkaaDoorZGon
import Derived.Deep.RegionHeld3
namespace Go.Proofs.YtgenollnnfljkaaDoor
open Go.RowKit Go.Sort
open Num
set_option linter.unusedVariables false
set_option linter.unusedSimpArgs false

set_option maxRecDepth 100000 in
set_option maxHeartbeats 16000000 in
theorem reshareParts_walk (s : Value) (l : List Int) (pk : Int) (w : World) (hw : Wheel w) (hs : Ints w s l) (hpk : (Lit.int .i64 pk).wf = true) :
    Calls Tryd.prog 5 #[s, .int .i64 pk] w fun e w' => e = .returned (.bool true) ∧ Below w.heap.size w w' := by
  have HL := Lib.hid (light_any s l w hs)
  have HAW := Lib.hid (awake9_any w hw)
  obtain ⟨g, hg⟩ : ∃ g, w.heap.size = g := ⟨_, rfl⟩
  have hd0 := dice_new hs
  have hta : 0 < g := by rw [← hg]; exact hw.size
  obtain ⟨bl, hbl⟩ : ∃ b, decide ((l.length : Int) ≤ 500) = b := ⟨_, rfl⟩
  rw [hbl] at HL
  have HR := Lib.hid (roll_any s w (by obtain ⟨a, c, h, _⟩ := hs; exact ⟨a, _, c, h⟩))
  rw [hg] at HR hd0
  rw [hg]
  have HW0 := Lib.hid (hw.below hw.size ((Below.refl w.heap.size w).alloc (Nat.le_refl _) (.cells #[s, .int .i64 0] 61)))
  have HB0 : Hid (Below g w (w.alloc (.cells #[s, .int .i64 0] 61))) := by rw [← hg]; exact (Below.refl _ _).alloc (Nat.le_refl _) _
  have HD0 := Lib.hid hd0
  have HPK := Lib.hid hpk
  clear hd0 hw hs hbl hpk
  cases bl with
  | false =>
    go_enter Tryd.func5, Tryd.ntmps5
    go_wp2_with fail
    refine HL.out.mono ?_
    rintro e w' ⟨rfl, rfl⟩
    go_wp2_with fail
    refine HAW.out.mono ?_
    rintro e w' ⟨rfl, hb⟩
    rw [hg] at hb
    have HB := Lib.hid hb
    clear hb
    go_wp2
    go_ret
    exact ⟨rfl, HB.out⟩
  | true =>
    go_enter Tryd.func5, Tryd.ntmps5
    go_wp2_with fail
    refine HL.out.mono ?_
    rintro e w' ⟨rfl, rfl⟩
    go_wp2_with fail
    refine HR.out.mono ?_
    rintro e w1 ⟨rfl, rfl⟩
    generalize w.alloc (.cells #[s, .int .i64 0] 61) = w1 at *
    go_wp2_with fail
    refine (prime_any g s l w1 HD0.out).mono ?_
    rintro e w2 ⟨p, hprm, hp2, rfl, hd2, hb2⟩
    have HPRM := Lib.hid hprm
    have hpp : 2 ≤ p := by have := hprm.1; omega
    have HP2 := Lib.hid hp2
    have HD2 := Lib.hid hd2
    have HB2 := Lib.hid (HB0.out.trans (hb2.below (Nat.le_refl _) (Nat.le_of_lt HD0.out.size)))
    have HW2 := Lib.hid (HW0.out.below hta (hb2.below (Nat.le_refl _) (Nat.le_of_lt HD0.out.size)))
    clear hb2 hd2 hprm HD0 HB0 HW0 HL HR
    go_wp2_with fail
    refine (plan_any g s l p w2 HD2.out hpp (by omega)).mono ?_
    rintro e w3 ⟨k, n, rfl, hk1, hkn, hn7, hnp, hd3, hb3⟩
    have hplb : planB p k n = true := planB_of HPRM.out (by have := HP2.out; omega) hk1 hkn (by omega) hnp
    obtain ⟨K, hK⟩ := Int.eq_ofNat_of_zero_le (show 0 ≤ k - 1 by omega)
    obtain ⟨N, rfl⟩ := Int.eq_ofNat_of_zero_le (show 0 ≤ n by omega)
    obtain rfl : k = (K : Int) + 1 := by omega
    have HQ : Hid (Pf p K N) := ⟨HPRM.out, by have := HP2.out; omega, hplb, ⟨by omega, by omega⟩, hnp⟩
    have hb3' := hb3.below (Nat.le_refl _) (Nat.le_of_lt HD2.out.size)
    have hg3 : g < w3.heap.size := hd3.size
    have hST : StL w (w3.alloc (.cells #[.int .i64 p, .int .i64 ((K : Int) + 1), .int .i64 (N : Int)] 30)) g w3.heap.size s l p ((K : Int) + 1) (N : Int) := by
      have hal : Below w3.heap.size w3 (w3.alloc (.cells #[.int .i64 p, .int .i64 ((K : Int) + 1), .int .i64 (N : Int)] 30)) := (Below.refl _ _).alloc (Nat.le_refl _) _
      exact ⟨hd3.below hal hg3, planAt_new _ _ _ _ _, (HW2.out.below hta hb3').below (by omega) hal, (HB2.out.trans hb3').trans (hal.mono (by omega)), hg3, by simp, hta⟩
    have HST := Lib.hid hST
    clear hST hb3 hb3' hg3 hd3 HB2 HW2 HD2 hK hk1 hkn hn7 hnp hp2 hplb
    unfold planV
    go_upto_region 5 with (fail)
    obtain ⟨gp, hgp⟩ : ∃ gp, w3.heap.size = gp := ⟨_, rfl⟩
    rw [hgp] at HST ⊢
    generalize w3.alloc (.cells #[.int .i64 p, .int .i64 ((K : Int) + 1), .int .i64 (N : Int)] 30) = w4 at *
    clear hgp
    have c0 := HST.out.pl.c0
    go_wp2_with fail
    refine (plan_any g s l p w4 HST.out.di hpp (by have := HP2.out; omega)).mono ?_
    rintro e w5 ⟨k2, n2, rfl, hk1, hkn, hn7, hnp, hd5, hb5⟩
    have hplb : planB p k2 n2 = true := planB_of HPRM.out (by have := HP2.out; omega) hk1 hkn (by omega) hnp
    obtain ⟨K2, hK⟩ := Int.eq_ofNat_of_zero_le (show 0 ≤ k2 - 1 by omega)
    obtain ⟨N2, rfl⟩ := Int.eq_ofNat_of_zero_le (show 0 ≤ n2 by omega)
    obtain rfl : k2 = (K2 : Int) + 1 := by omega
    have HQ2 : Hid (Pf p K2 N2) := ⟨HPRM.out, by have := HP2.out; omega, hplb, ⟨by omega, by omega⟩, hnp⟩
    have HX6 : Hid (Mw w (w5.alloc (.cells #[.int .i64 p, .int .i64 ((K2 : Int) + 1), .int .i64 (N2 : Int)] 30)) g gp w5.heap.size s l p K N K2 N2 [] []) := by
      have hal : Below w5.heap.size w5 (w5.alloc (.cells #[.int .i64 p, .int .i64 ((K2 : Int) + 1), .int .i64 (N2 : Int)] 30)) := (Below.refl _ _).alloc (Nat.le_refl _) _
      exact ⟨⟨(HST.out.but hb5 hd5).below hal, fun x hx => by simp at hx, fun x hx => by simp at hx⟩, planAt_new _ _ _ _ _, by show g < w5.heap.size; exact hd5.size⟩
    clear hb5 hd5 hK hk1 hkn hn7 hnp hplb HST HPRM HP2 hpp c0
    unfold planV
    go_upto_region 6 with (fail)
    obtain ⟨gq, hgq⟩ : ∃ gq, w5.heap.size = gq := ⟨_, rfl⟩
    rw [hgq] at HX6 ⊢
    generalize w5.alloc (.cells #[.int .i64 p, .int .i64 ((K2 : Int) + 1), .int .i64 (N2 : Int)] 30) = w6 at *
    clear hgq
    obtain ⟨c0, c1, c2, d0, d1, d2⟩ := HX6.out.cells
    have HDE := Lib.hid (HX6.out.dealt HQ.out 2 (by omega))
    go_wp2_with fail
    refine HDE.out.mono ?_
    rintro e w7 ⟨v1, v2, S, R, rfl, hS1, hS3, hSE, hX7⟩
    have HX7 := Lib.hid hX7
    have HSS : Hid (1 ≤ S.length ∧ S.length ≤ 2) := ⟨hS1, hS3⟩
    have HSE := Lib.hid hSE
    have HSVL := Lib.hid (secV_deal (K := K) (r := R) HQ.out.p1 hSE)
    have hg7 := hX7.lw.getG (v := v1) (z := S) (by simp)
    have hn7 := hX7.lw.getM (v := v2) (L := rowL N (dealV p K S R)) (by simp)
    obtain ⟨aS, cS, rfl⟩ := hg7.shape
    obtain ⟨aL, cL, rfl, _, _⟩ := hn7.shape
    rw [rowL_len] at HX7 ⊢
    obtain ⟨c, hc⟩ : ∃ c, S.length = c := ⟨_, rfl⟩
    have HCC := Lib.hid hc
    have hc2 : c ≤ 2 := by omega
    rw [hc] at HX7 ⊢
    clear c0 c1 c2 d0 d1 d2
    obtain ⟨c0, c1, c2, d0, d1, d2⟩ := HX7.out.cells
    clear hX7 hS1 hS3 hSE hg7 hn7 hc HDE HX6
    obtain ⟨VD, hVD⟩ : ∃ VD, dealV p K S R = VD := ⟨_, rfl⟩
    rw [hVD] at HX7 HSVL
    clear hVD
    obtain ⟨Z, hZ⟩ : ∃ Z, c * K2 = Z := ⟨_, rfl⟩
    have HZZ := Lib.hid hZ
    have hzb : Z ≤ 1000000 := by
      have h1 : c * K2 ≤ 2 * 7 := Nat.mul_le_mul hc2 (by have := HQ2.out.kn; omega)
      omega
    have HZB := Lib.hid hzb
    have hZi : (c : Int) * (K2 : Int) = (Z : Int) := by rw [← hZ]; push_cast; rfl
    have HWZ : Hid (IntKind.i64.wrap ((c : Int) * (K2 : Int)) = (Z : Int)) := by show _ = _; rw [hZi, IntKind.wrap_i64]; omega
    have HWK : Hid (IntKind.i64.wrap ((K2 : Int) + 1 - 1) = (K2 : Int) ∧ IntKind.i64.wrap (K2 : Int) = (K2 : Int)) := by
      have := HQ2.out.kn
      have e : (K2 : Int) + 1 - 1 = (K2 : Int) := by omega
      exact ⟨by rw [e, IntKind.wrap_i64]; omega, by rw [IntKind.wrap_i64]; omega⟩
    have hmkL := run_make_row' (P := Tryd.prog) 47 23 (.slice none 0 0) 24 Tryd.underlying47 infoShs rfl .i64 .i64 N2 (by have := HQ2.out.kn; omega) (by have := HQ2.out.kn; omega)
    obtain ⟨bx, ox, _, hax⟩ : ∃ bx ox, ∃ _ : True, aL = some ⟨bx, ox, none⟩ := by
      obtain ⟨b, o, _, h, _⟩ := (HX7.out.lw.getM (v := .slice aL N cL) (L := rowL N VD) (by simp)).shares.at (i := 0) (by have := HQ.out.kn; omega)
      exact ⟨b, o, trivial, h⟩
    subst hax
    have HPW0 := Lib.hid (pw_start w7 g N2 s l 23 HX7.out.lw.st.di)
    have HXO : Hid (∀ W q vF zs P V F, Pw w7 W g q N2 s l vF zs P V F → Mw w W g gp gq s l p K N K2 N2 [(.slice aS c cS, S)] [(.slice (some ⟨bx, ox, none⟩) N cL, rowL N VD)]) := fun W q vF zs P V F h => HX7.out.but h.but h.di
    go_upto_region 9 with fail
    clear hmkL c0 c1 c2 d0 d1 d2 hZ hzb hZi HX7
    obtain ⟨q, hq⟩ : ∃ q, w7.heap.size = q := ⟨_, rfl⟩
    rw [hq] at HPW0 ⊢
    generalize w7.alloc (.cells (madeCells #[.slice none 0 0] N2) 23) = w8 at *
    have HPW1 : Hid (Pw w7 w8 g q N2 s l (.slice none 0 0) (fromL N VD 0) (fun _ => False) (fun _ => .slice none 0 0) (partsF p K2 N2 (rowL N VD) [] 0 0)) := HPW0.out.congr fun j _ => partsF_start _ _ _ _ _ _
    have HQQ := Lib.hid hq
    clear HPW0 hq
    go_wp2_with fail
    go_loopw [10, 13, 14, 15, 16, 52] (fun vF _ _ _ _ i wr => ∃ (t : Nat) (RR : List (List Int)) (P : Nat → Prop) (V : Nat → Value), t ≤ N ∧ i = .int .i64 t ∧ Hid (RR.length = t ∧ ∀ r ∈ RR, Els p r ∧ r.length = Z) ∧ Hid (Pw w7 wr g q N2 s l vF (fromL N VD t) P V (partsF p K2 N2 (rowL N VD) RR t 0))) (fun _ _ _ _ _ i _ => N - (intOf i).toNat)
    case atStart => exact ⟨0, [], _, _, Nat.zero_le _, rfl, ⟨rfl, fun r hr => by simp at hr⟩, HPW1⟩
    case round =>
      obtain ⟨t, RR, P, V, ht, rfl, HRR, HP⟩ := hrel
      clear HPW1
      have HM := Lib.hid (HXO.out _ _ _ _ _ _ _ HP.out)
      by_cases hlt : t < N
      · have hltI : (t : Int) < (N : Int) := by omega
        obtain ⟨bx', ox', vx, hax, x0, x1, xi⟩ := (HM.out.lw.getM (v := .slice (some ⟨bx, ox, none⟩) N cL) (L := rowL N VD) (by simp)).shares.at (i := t) hlt
        obtain ⟨bx'', ox'', vx', hax', x0', x1', xi', xp⟩ := ((HM.out.lw.getM (v := .slice (some ⟨bx, ox, none⟩) N cL) (L := rowL N VD) (by simp)).toP (P := fun y => g < y) (fun y h1 _ => h1)).at (i := t) hlt
        simp only [Option.some.injEq, Addr.mk.injEq, and_true] at hax hax'
        obtain ⟨rfl, rfl⟩ := hax
        obtain ⟨rfl, rfl⟩ := hax'
        rw [x1] at x1'
        injection x1' with x1'
        subst x1'
        clear x0' xi'
        rw [rowL_get hlt] at x0 xi xp
        simp only at x0 xi xp
        obtain ⟨J, hJ⟩ : ∃ J, t + 1 = J := ⟨_, rfl⟩
        rw [hJ] at x0 xi xp
        obtain ⟨gs, hgs⟩ : ∃ gs, wr.heap.size = gs := ⟨_, rfl⟩
        have hal : Below gs wr (wr.alloc (.cells #[.int .i64 (J : Int), vx] 38)) := by rw [← hgs]; exact (Below.refl _ _).alloc (Nat.le_refl _) _
        have HSA := Lib.hid (shAt_new wr (J : Int) vx 38)
        have HP5 := Lib.hid (HP.out.below (by rw [hgs]; exact hal))
        have HXI := Lib.hid (xi.below (Nat.le_of_eq hgs) hal)
        have HXP := Lib.hid xp
        have HGS : Hid (g < gs) := by have h1 := HP.out.gl; have h2 := HP.out.but.size; show _ < _; omega
        have HJJ := Lib.hid hJ
        rw [hgs] at HSA
        obtain ⟨ax, cx, hvx⟩ := xi.shape
        rw [HSVL.out.siz, HCC.out] at hvx
        subst hvx
        have HPO : Hid (∀ r, Els p r → r.length = Z → splitE p ((K : Int) + 1) (N : Int) p ((K2 : Int) + 1) (N2 : Int) ((J : Int), VD (J : Int)) r = 0 ∧ splitR p ((K : Int) + 1) (N : Int) p ((K2 : Int) + 1) (N2 : Int) ((J : Int), VD (J : Int)) r = rowL N2 (dealV p K2 (VD (J : Int)) r)) := fun r h1 h2 => by
          have h := part_ok HQ.out HQ2.out HSVL.out (by have := HSS.out; omega) hlt h1 (by rw [HCC.out, HZZ.out]; exact h2)
          rw [hJ] at h
          exact h
        go_upto_region 12 with fail
        have hb5 := HXO.out _ _ _ _ _ _ _ HP5.out
        generalize wr.alloc (.cells #[.int .i64 (J : Int), .slice ax c cx] 38) = W5 at *
        have HM5 := Lib.hid hb5
        obtain ⟨c0, c1, c2, d0, d1, d2⟩ := hb5.cells
        have s0 := HSA.out.c0
        have s1 := HSA.out.c1
        have HNE : Hid (gp ≠ g ∧ gq ≠ g) := ⟨by have := hb5.lw.st.lt; omega, by have := hb5.gt; omega⟩
        have HKP : Hid (∀ W, But g W5 W → W.cell? ⟨gp, 0, none⟩ = some (.int .i64 p) ∧ W.cell? ⟨gp, 1, none⟩ = some (.int .i64 ((K : Int) + 1)) ∧ W.cell? ⟨gp, 2, none⟩ = some (.int .i64 (N : Int)) ∧ W.cell? ⟨gq, 0, none⟩ = some (.int .i64 p) ∧ W.cell? ⟨gq, 1, none⟩ = some (.int .i64 ((K2 : Int) + 1)) ∧ W.cell? ⟨gq, 2, none⟩ = some (.int .i64 (N2 : Int)) ∧ W.cell? ⟨gs, 0, none⟩ = some (.int .i64 (J : Int)) ∧ W.cell? ⟨gs, 1, none⟩ = some (.slice ax c cx)) := fun W hb =>
          have z : ∀ (b j : Nat) (u : Value), b ≠ g → W5.cell? ⟨b, j, none⟩ = some u → W.cell? ⟨b, j, none⟩ = some u := fun b j u hne h => by rw [hb.cell (p := ⟨b, j, none⟩) (cell_lt h) hne]; exact h
          have e3 : gs ≠ g := by have := HGS.out; omega
          ⟨z _ _ _ HNE.out.1 c0, z _ _ _ HNE.out.1 c1, z _ _ _ HNE.out.1 c2, z _ _ _ HNE.out.2 d0, z _ _ _ HNE.out.2 d1, z _ _ _ HNE.out.2 d2, z _ _ _ e3 s0, z _ _ _ e3 s1⟩
        have HBD : Hid (But g W5 W5.drew) := But.drewN _ _ 1
        have HP5d := Lib.hid (HP5.out.below (Below.refl _ _).drew)
        have HSK := HKP.out _ HBD.out
        have hwz := HWZ.out
        have hwk := HWK.out.1
        have hwk2 := HWK.out.2
        clear hb5 hal hgs hJ x0 x1 xi xp HM HP
        go_wp2_with fail
        clear c0 c1 c2 d0 d1 d2 s0 s1
        go_region_held3 (fun W' => W'.cell? ⟨gp, 0, none⟩ = some (.int .i64 p) ∧ W'.cell? ⟨gp, 1, none⟩ = some (.int .i64 ((K : Int) + 1)) ∧ W'.cell? ⟨gp, 2, none⟩ = some (.int .i64 (N : Int)) ∧ W'.cell? ⟨gq, 0, none⟩ = some (.int .i64 p) ∧ W'.cell? ⟨gq, 1, none⟩ = some (.int .i64 ((K2 : Int) + 1)) ∧ W'.cell? ⟨gq, 2, none⟩ = some (.int .i64 (N2 : Int)) ∧ W'.cell? ⟨gs, 0, none⟩ = some (.int .i64 (J : Int)) ∧ W'.cell? ⟨gs, 1, none⟩ = some (.slice ax c cx)) (first | go_keep | exact HSK)
          (first
            | (go_at_call 17; refine (dice_elements g s l p Z W5.drew HP5d.out.di HQ.out.p1 HQ.out.p2 HZB.out).mono ?_; rintro e w20 ⟨v20, r, rfl, hl2, he2, hg2, hd2, hbt⟩; have HB20 := Lib.hid (HBD.out.trans hbt); have HP20 := Lib.hid (HP5d.out.buts hbt hd2); have HSK := HKP.out _ HB20.out; have HR2 := Lib.hid (And.intro hl2 he2); have HRS := Lib.hid (hg2.slc (by rw [hl2]; have := HZB.out; omega)); clear hbt hd2 hl2 he2 hg2)
            | (go_at_call 19; have hsp := reshare_split p ((K : Int) + 1) (N : Int) p ((K2 : Int) + 1) (N2 : Int) (J : Int) (.slice ax c cx) v20 (VD (J : Int)) r w20 (HXO.out _ _ _ _ _ _ _ HP20.out).lw.st.wh HQ.out.wf HQ.out.wf (ints_but HXI.out HB20.out fun y hy hne => by have := HXP.out y hy hne; omega) HRS.out (by rw [HSVL.out.siz]; have := HSS.out; omega) (by rw [HR2.out.1]; exact HZB.out); rw [(HPO.out r HR2.out.2 HR2.out.1).1, (HPO.out r HR2.out.2 HR2.out.1).2] at hsp; refine hsp.mono ?_; rintro e w21 ⟨v21, rfl, hsn, hb⟩; have HW21 := Lib.hid (HP20.out.wide hb); have HS21 := Lib.hid (hsn.toP (P := fun y => P y ∨ (w20.heap.size ≤ y ∧ y < w21.heap.size)) fun y h1 h2 => .inr ⟨h1, h2⟩); obtain ⟨a6, c6, rfl, _, _⟩ := hsn.shape; have HB21 := Lib.hid (HB20.out.above hb HB20.out.size); have HSK := HKP.out _ HB21.out; clear hb hsn hsp))
        rw [rowL_len] at HS21 ⊢
        obtain ⟨P6, hP6⟩ : ∃ P6 : Nat → Prop, (fun y => P y ∨ (w20.heap.size ≤ y ∧ y < w21.heap.size)) = P6 := ⟨_, rfl⟩
        rw [hP6] at HW21 HS21
        obtain ⟨Rl, hRl⟩ : ∃ Rl, rowL N2 (dealV p K2 (VD (J : Int)) r) = Rl := ⟨_, rfl⟩
        rw [hRl] at HS21
        have HRG : Hid (∀ j, j < N2 → Rl.getD j (0, []) = (((j + 1 : Nat) : Int), dealV p K2 (VD (J : Int)) r ((j + 1 : Nat) : Int))) := fun j hj => by rw [← hRl, rowL_get hj]
        have n1 : ((N2 : Int) != (N2 : Int)) = false := by simp
        have d2 := HSK.2.2.2.2.2.1
        have s0 := HSK.2.2.2.2.2.2.1
        have hal : Below w21.heap.size w21 (w21.alloc (.cells #[.int .i64 (J : Int)] 3)) := (Below.refl _ _).alloc (Nat.le_refl _) _
        have HPb := Lib.hid (HW21.out.below hal)
        have HSb := Lib.hid (HS21.out.kept (P' := P6) (row := none) (grownBy_of_below hal (Nat.le_refl _)) fun y hy _ => ⟨fun e => (nomatch e), hy⟩)
        have HCb := Lib.hid (cell_alloc_new w21 (.int .i64 (J : Int)) 3 _ rfl)
        have HTL : Hid (t < N) := hlt
        have HZS : Hid ((fromL N VD t).length < 17592186044416) := by show _ < _; rw [fromL_len ht]; have := HQ.out.kn; omega
        clear hP6 hRl HSK HB21 HB20 HP20 HRS HP5 HP5d HBD HKP HM5 HSA HXI HXP HPO HNE hal hltI HW21 HS21
        go_wp2_with (at_builtin; refine append_oneB _ rfl _ _ rfl w7.heap.size u10 _ (J : Int) rfl HPb.out.fr ⟨w21.heap.size, 0, none⟩ rfl HCb.out HZS.out HPb.out.but.size ?_)
        intro vG w22 hg22 hgr hvb
        have hp22 := HPb.out.from hg22 hgr (by simpa using hvb)
        have hs22 := HSb.out.kept (P' := P6) hgr fun y hy _ => ⟨fun e => (HPb.out.fb y e).2.1 hy, hy⟩
        have hfs := fromL_succ (V := VD) hlt
        rw [HJJ.out] at hfs
        rw [← hfs] at hp22
        have HS22 := Lib.hid hs22
        have HP22 : Hid (∃ V, Pw w7 w22 g q N2 s l vG (fromL N VD J) P6 V (partsF p K2 N2 (rowL N VD) (RR ++ [r]) t 0)) := ⟨V, hp22.congr fun j _ => partsF_more (by rw [HRR.out.1]; exact Nat.le_refl _)⟩
        have HRN : Hid ((RR ++ [r]).length = J ∧ ∀ y ∈ RR ++ [r], Els p y ∧ y.length = Z) := ⟨by rw [List.length_append, HRR.out.1]; exact HJJ.out, fun y hy => by
          rcases List.mem_append.1 hy with h | h
          · exact HRR.out.2 y h
          · rw [List.mem_singleton.1 h]; exact ⟨HR2.out.2, HR2.out.1⟩⟩
        have HGE : Hid ((RR ++ [r]).getD t [] = r ∧ ((rowL N VD).getD t (0, [])).2 = VD (J : Int)) := ⟨by simp [List.getD, List.getElem?_append, HRR.out.1], by rw [rowL_get hlt, HJJ.out]⟩
        clear hg22 hgr hvb hp22 hs22 hfs HPb HSb HCb HZS HR2 HRR
        obtain ⟨RR', hRR'⟩ : ∃ RR', RR ++ [r] = RR' := ⟨_, rfl⟩
        rw [hRR'] at HP22 HRN HGE
        clear hRR'
        go_wp2_with fail
        go_loopw [16, 89] (fun _ i wq => ∃ j : Nat, j ≤ N2 ∧ i = .int .i64 j ∧ Hid (SharesP wq P6 (.slice a6 N2 c6) Rl) ∧ Hid (∃ V, Pw w7 wq g q N2 s l vG (fromL N VD J) P6 V (partsF p K2 N2 (rowL N VD) RR' t j))) (fun _ i _ => N2 - (intOf i).toNat)
        case atStart => exact ⟨0, Nat.zero_le _, rfl, HS22, HP22⟩
        case round =>
          obtain ⟨j, hj, rfl, HS, HPX⟩ := hrel
          clear HS22 HP22
          by_cases hlj : j < N2
          · obtain ⟨V7, hp⟩ := HPX.out
            have HP7 := Lib.hid hp
            obtain ⟨bp, op, vt, hae, c0, c1, hit, hPt⟩ := HS.out.at hlj
            subst hae
            have hPb := HS.out.blk (by omega)
            rw [HRG.out j hlj] at c0 hit hPt
            simp only at c0 hit hPt
            obtain ⟨at', ct, rfl⟩ := hit.shape
            obtain ⟨H, hH⟩ : ∃ H, j + 1 = H := ⟨_, rfl⟩
            rw [hH] at c0 hit hPt
            obtain ⟨lt', hlt'⟩ : ∃ l, dealV p K2 (VD (J : Int)) r ((H : Nat) : Int) = l := ⟨_, rfl⟩
            rw [hlt'] at hit hPt
            have hlm : lt'.length = c := by rw [← hlt', dealV_len, HSVL.out.siz]; exact HCC.out
            simp only [hH, hlt', hlm] at c1
            simp only [hH, hlt', hlm] at hit hPt
            have HIT := Lib.hid hit
            have HPT := Lib.hid hPt
            have HH := Lib.hid hH
            have HLT := Lib.hid hlt'
            obtain ⟨vk, hvk⟩ : ∃ vk, V7 j = vk := ⟨_, rfl⟩
            have qc := (hp.got.cell j hlj).1
            have qf := (hp.got.cell j hlj).2
            rw [hvk] at qc
            have HKP : Hid (∀ W, Below wr.heap.size wr W → W.cell? ⟨q, j, none⟩ = some vk ∧ W.cell? ⟨bp, op + j * 2, none⟩ = some (.int .i64 (H : Int)) ∧ W.cell? ⟨bp, op + j * 2 + 1, none⟩ = some (.slice at' c ct)) :=
              fun W hb => ⟨below_cell hb qc, below_cell hb c0, below_cell hb c1⟩
            have HBD : Hid (Below wr.heap.size wr wr.drew) := (Below.refl _ _).drew
            have HVK := Lib.hid hvk
            have HVL : Hid (∀ y, vk.ownBlock = some y → y < wr.heap.size ∧ y ≠ q ∧ ¬ P6 y) := fun y hy => by
              rw [← hvk] at hy
              have h1 := (hp.got.gs j hlj).lt y hy
              exact ⟨h1.2, fun e => hp.got.nq j hlj (by rw [hy, e]), hp.got.np j hlj y hy⟩
            have HPB : Hid (P6 bp ∧ bp < wr.heap.size) := ⟨hPb, cell_lt c0⟩
            have hjI : (j : Int) < (N2 : Int) := by omega
            clear hp hit hPt hlt' hlm hH hvk hPb HPX
            go_wp2_with fail
            have hbig : ∀ j : Nat, 14 ≤ j → (fun j : Nat => !(decide (12 ≤ j) && decide (j ≤ 13))) j = true := fun j hj => by
              have : ¬ j ≤ 13 := by omega
              simp [this]
            have HSK := HKP.out _ HBD.out
            have HBN : Hid (Below wr.heap.size wr (wr.drew.alloc (.cells #[.int .i64 (H : Int), .slice at' c ct] 38))) := HBD.out.alloc (Nat.le_refl _) _
            have HSN1 := HKP.out _ HBN.out
            have HAP := Lib.hid ((HP7.out.below HBN.out).app hlj wr.heap.size (H : Int) (.slice at' c ct) lt' (shAt_new wr.drew (H : Int) (.slice at' c ct) 38).c0 (shAt_new wr.drew (H : Int) (.slice at' c ct) 38).c1 (HIT.out.below (Nat.le_refl _) HBN.out) HPT.out (Nat.lt_of_le_of_lt partsF_len (by have := HQ.out.kn; omega)) 23)
            rw [HVK.out] at HAP
            clear c0 c1 qc qf
            refine region_G (fun W' => W'.cell? ⟨q, j, none⟩ = some vk ∧ W'.cell? ⟨bp, op + j * 2, none⟩ = some (.int .i64 (H : Int)) ∧ W'.cell? ⟨bp, op + j * 2 + 1, none⟩ = some (.slice at' c ct)) (fun j => !(decide (12 ≤ j) && decide (j ≤ 13))) rfl ?_
            refine anyG_read (i := 0) (v := ?_) rfl (by kernel_rfl) (by kernel_rfl) (by kernel_rfl) (by kernel_rfl) (by kernel_rfl) hbig (fun _ _ _ h => h) (Or.inl ⟨by rfl, ?_⟩) HSK ?_
            rotate_left
            · (intro w hSw; (try dsimp only at hSw); go_simp; (try with_reducible rfl))
            try simp only [Act.put, List.setIfInBounds_toArray, List.set_cons_zero, List.set_cons_succ]
            refine anyG_read (i := 1) (v := ?_) rfl (by kernel_rfl) (by kernel_rfl) (by kernel_rfl) (by kernel_rfl) (by kernel_rfl) hbig (fun _ _ _ h => h) (Or.inl ⟨by rfl, ?_⟩) HSK ?_
            rotate_left
            · (intro w hSw; (try dsimp only at hSw); go_simp; (try with_reducible rfl))
            try simp only [Act.put, List.setIfInBounds_toArray, List.set_cons_zero, List.set_cons_succ]
            refine anyG_read (i := 2) (v := ?_) rfl (by kernel_rfl) (by kernel_rfl) (by kernel_rfl) (by kernel_rfl) (by kernel_rfl) hbig (fun _ _ _ h => h) (Or.inl ⟨by rfl, ?_⟩) HSK ?_
            rotate_left
            · (intro w hSw; (try dsimp only at hSw); go_simp; (try with_reducible rfl))
            try simp only [Act.put, List.setIfInBounds_toArray, List.set_cons_zero, List.set_cons_succ]
            refine anyG_read (i := 3) (v := ?_) rfl (by kernel_rfl) (by kernel_rfl) (by kernel_rfl) (by kernel_rfl) (by kernel_rfl) hbig (fun _ _ _ h => h) (Or.inl ⟨by rfl, ?_⟩) HSK ?_
            rotate_left
            · (intro w hSw; (try dsimp only at hSw); go_simp; (try with_reducible rfl))
            try simp only [Act.put, List.setIfInBounds_toArray, List.set_cons_zero, List.set_cons_succ]
            refine anyG_read (i := 4) (v := ?_) rfl (by kernel_rfl) (by kernel_rfl) (by kernel_rfl) (by kernel_rfl) (by kernel_rfl) hbig (fun _ _ _ h => h) (Or.inl ⟨by rfl, ?_⟩) HSK ?_
            rotate_left
            · (intro w hSw; (try dsimp only at hSw); go_simp; (try with_reducible rfl))
            try simp only [Act.put, List.setIfInBounds_toArray, List.set_cons_zero, List.set_cons_succ]
            refine anyG_read (i := 5) (v := ?_) rfl (by kernel_rfl) (by kernel_rfl) (by kernel_rfl) (by kernel_rfl) (by kernel_rfl) hbig (fun _ _ _ h => h) (Or.inl ⟨by rfl, ?_⟩) HSK ?_
            rotate_left
            · (intro w hSw; (try dsimp only at hSw); go_simp; (try with_reducible rfl))
            try simp only [Act.put, List.setIfInBounds_toArray, List.set_cons_zero, List.set_cons_succ]
            refine anyG_read (i := 6) (v := ?_) rfl (by kernel_rfl) (by kernel_rfl) (by kernel_rfl) (by kernel_rfl) (by kernel_rfl) hbig (fun _ _ _ h => h) (Or.inl ⟨by rfl, ?_⟩) HSK ?_
            rotate_left
            · (intro w hSw; (try dsimp only at hSw); go_simp; (try with_reducible rfl))
            try simp only [Act.put, List.setIfInBounds_toArray, List.set_cons_zero, List.set_cons_succ]
            refine anyG_read (i := 7) (v := ?_) rfl (by kernel_rfl) (by kernel_rfl) (by kernel_rfl) (by kernel_rfl) (by kernel_rfl) hbig (fun _ _ _ h => h) (Or.inl ⟨by rfl, ?_⟩) HSK ?_
            rotate_left
            · (intro w hSw; (try dsimp only at hSw); go_simp; (try with_reducible rfl))
            try simp only [Act.put, List.setIfInBounds_toArray, List.set_cons_zero, List.set_cons_succ]
            refine anyG_read (i := 8) (v := ?_) rfl (by kernel_rfl) (by kernel_rfl) (by kernel_rfl) (by kernel_rfl) (by kernel_rfl) hbig (fun _ _ _ h => h) (Or.inl ⟨by rfl, ?_⟩) HSK ?_
            rotate_left
            · (intro w hSw; (try dsimp only at hSw); go_simp; (try with_reducible rfl))
            try simp only [Act.put, List.setIfInBounds_toArray, List.set_cons_zero, List.set_cons_succ]
            refine anyG_read (i := 9) (v := ?_) rfl (by kernel_rfl) (by kernel_rfl) (by kernel_rfl) (by kernel_rfl) (by kernel_rfl) hbig (fun _ _ _ h => h) (Or.inl ⟨by rfl, ?_⟩) HSK ?_
            rotate_left
            · (intro w hSw; (try dsimp only at hSw); go_simp; (try with_reducible rfl))
            try simp only [Act.put, List.setIfInBounds_toArray, List.set_cons_zero, List.set_cons_succ]
            refine anyG_one (i := 10) (by kernel_rfl) rfl (by rfl) (fun K' hK => ?_)
            go_simp
            refine hK _ _ (fun _ => HSN1) ?_
            try simp only [Act.put, List.setIfInBounds_toArray, List.set_cons_zero, List.set_cons_succ]
            refine anyG_one (i := 11) (by kernel_rfl) rfl (by rfl) (fun K' hK => ?_)
            refine wp_appendV (.tmp 97) (.tmp 102) 23 23 rfl vk (.slice (some ⟨wr.heap.size, 0, none⟩) 1 1) rfl rfl _ HAP.out ?_
            rintro v8 W8 ⟨hmv, hgr, a8, c8, rfl⟩
            obtain ⟨n8, hn8⟩ : ∃ n8, (partsF p K2 N2 (rowL N VD) RR' t j j).length + 1 = n8 := ⟨_, rfl⟩
            rw [hn8] at hmv ⊢
            have hqb := hgr.block q (Nat.lt_of_lt_of_le HP7.out.got.lt HBN.out.size) (fun e => (HVL.out _ e.symm).2.1 rfl)
            have hsb := hgr.block bp (Nat.lt_of_lt_of_le HPB.out.2 HBN.out.size) (fun e => (HVL.out _ e.symm).2.2 HPB.out.1)
            have HSK8 : W8.cell? ⟨q, j, none⟩ = some vk ∧ W8.cell? ⟨bp, op + j * 2, none⟩ = some (.int .i64 (H : Int)) ∧ W8.cell? ⟨bp, op + j * 2 + 1, none⟩ = some (.slice at' c ct) := ⟨by rw [cell_blkZ hqb]; exact HSN1.1, by rw [cell_blkZ hsb]; exact HSN1.2.1, by rw [cell_blkZ hsb]; exact HSN1.2.2⟩
            have qf : W8.frozen? ⟨q, j, none⟩ = false := by rw [frozen_blkZ hqb]; exact ((HP7.out.below HBN.out).got.cell j hlj).2
            have HPA : SharesP W8 P6 (.slice (some ⟨bp, op, none⟩) N2 c6) Rl := (HS.out.kept (P' := P6) (row := some wr.heap.size) (But.of_below HBN.out (Nat.le_refl _)).grown fun y hy hl => ⟨fun e => by have := Option.some.inj e; omega, hy⟩).kept (P' := P6) hgr fun y hy hl => ⟨fun e => (HVL.out y e).2.2 hy, hy⟩
            have HPN := Lib.hid (HPA.kept (P' := P6) (But.set W8 ⟨q, j, none⟩ (.slice a8 n8 c8)).grown fun y hy hl => ⟨fun e => HP7.out.got.pq (by have h9 : q = y := Option.some.inj e; rw [h9]; exact hy), hy⟩)
            have HMN : Hid (∃ V, Pw w7 (W8.setCell ⟨q, j, none⟩ (.slice a8 n8 c8)) g q N2 s l vG (fromL N VD J) P6 V (partsF p K2 N2 (rowL N VD) RR' t H)) := ⟨_, hmv.congr fun h _ => by
              have e := partsF_step (p2 := p) (K2 := K2) (N2 := N2) (L := rowL N VD) (RR := RR') (i := t) hlj h
              rw [HGE.out.2, HGE.out.1, HH.out, HLT.out] at e
              exact e⟩
            clear hmv hgr hqb hsb HPA hn8 HAP HSK HSN1
            refine hK _ _ (fun _ => HSK8) ?_
            try simp only [Act.put, List.setIfInBounds_toArray, List.set_cons_zero, List.set_cons_succ]
            refine anyG_pure (i := 12) (v := ?_) rfl (by kernel_rfl) (by kernel_rfl) (by kernel_rfl) (by kernel_rfl) (by rfl) (fun _ _ _ h => h) (Or.inl ⟨by rfl, ?_⟩) ?_
            rotate_left
            · (intro w hSw; go_simp; (try with_reducible rfl))
            try simp only [Act.put, List.setIfInBounds_toArray, List.set_cons_zero, List.set_cons_succ]
            have q8 := HSK8.1
            refine anyG_one (i := 13) (by kernel_rfl) rfl (by rfl) (fun K' hK => ?_)
            go_simp
            refine hK _ _ (fun h => absurd h (by decide)) ?_
            try simp only [Act.put, List.setIfInBounds_toArray, List.set_cons_zero, List.set_cons_succ]
            refine anyG_done (by kernel_rfl) ?_
            clear q8 qf HSK8
            generalize W8.setCell ⟨q, j, none⟩ (.slice a8 n8 c8) = W10 at *
            have HJN := Lib.hid (And.intro HH.out hlj)
            clear HP7 HS HIT HPT HBN HBD HKP HVL HPB
            have hk2 := HQ2.out.kn
            go_wp2_with fail
            go_roundw
            case rel => exact ⟨H, by have := HJN.out; omega, by have := HJN.out.1; go_num, HPN, HMN⟩
            case measure => simp [intOf]; have := HJN.out; omega
          · obtain rfl : j = N2 := by omega
            have HPN : Hid (∃ V, Pw w7 wr g q j s l vG (fromL N VD J) P6 V (partsF p K2 j (rowL N VD) RR' J 0)) := by
              obtain ⟨V7, hp⟩ := HPX.out
              refine ⟨V7, hp.congr fun h _ => ?_⟩
              rw [partsF_next, HJJ.out]
            clear HPX HS
            have htl := HTL.out
            have hk1 := HQ.out.kn
            go_wp2_with fail
            go_roundw
            case rel => obtain ⟨V7, hp⟩ := HPN.out; exact ⟨J, RR', P6, V7, by have := HJJ.out; omega, by have := HJJ.out; go_num, HRN, hp⟩
            case measure => simp [intOf]; have := HJJ.out; omega
      · have htN : N = t := by omega
        subst htN
        obtain ⟨qm, hqm⟩ : ∃ qm, wr.heap.size = qm := ⟨_, rfl⟩
        obtain ⟨U, hU⟩ : ∃ U, movV p K2 (rowL N VD) RR N = U := ⟨_, rfl⟩
        obtain ⟨gU, hsu⟩ := parts_sec (K2 := K2) (RR := RR) HQ.out HSVL.out
        have HWW := Lib.hid (fun W (b : Below qm wr W) => HP.out.below (W' := W) (by rw [hqm]; exact b))
        have HJQ : Hid (∀ u, u < N2 → ∀ W, Below qm wr W → Calls Tryd.prog 23 #[.agg #[.int .i64 p, .int .i64 ((K : Int) + 1), .int .i64 (N : Int)], .agg #[.int .i64 p, .int .i64 ((K2 : Int) + 1), .int .i64 (N2 : Int)], u10, V u] W fun e w' => ∃ v', e = .returned (.tuple #[.agg #[.int .i64 ((u + 1 : Nat) : Int), v'], .int .i64 0]) ∧ Gath w' W.heap.size v' (U ((u + 1 : Nat) : Int)) ∧ Below W.heap.size W w') := fun u hu W b => by
          have h := (HWW.out W b).join HQ.out HQ2.out HSVL.out HSS.out.2 (HXO.out _ _ _ _ _ _ _ (HWW.out W b)).lw.st.wh hu
          rw [hU] at h
          exact h
        rw [hU] at hsu
        have HSU := Lib.hid hsu
        have HUL : Hid (∀ h, (U h).length ≤ 2) := fun h => by rw [hsu.siz]; exact HSS.out.2
        have HCL : Hid (∀ u, u < N2 → ∀ W, Below qm wr W → W.cell? ⟨q, u, none⟩ = some (V u)) := fun u hu W b => ((HWW.out W b).got.cell u hu).1
        have HMQ : Hid (∀ W, Below qm wr W → Mw w W g gp gq s l p K N K2 N2 [(.slice aS c cS, S)] [(.slice (some ⟨bx, ox, none⟩) N cL, rowL N VD)]) := fun W b => HXO.out _ _ _ _ _ _ _ (HWW.out W b)
        have HB0 : Hid (Below qm wr wr) := Below.refl _ _
        have HG0 : Hid (GathS wr qm (.slice none 0 0) ((rowL N2 U).take 0)) := by rw [List.take_zero]; exact gathS_nil _ _
        have HQM := Lib.hid hqm
        clear hU hsu hqm HM HP
        go_wp2_with fail
        obtain ⟨w0r, hw0r⟩ : ∃ x, x = wr := ⟨_, rfl⟩
        subst hw0r
        go_loopw [17, 19, 20, 21, 109] (fun vM _ _ _ i wq => ∃ u : Nat, u ≤ N2 ∧ i = .int .i64 u ∧ Hid (GathS wq qm vM ((rowL N2 U).take u)) ∧ Hid (Below qm w0r wq)) (fun _ _ _ _ i _ => N2 - (intOf i).toNat)
        case atStart => exact ⟨0, Nat.zero_le _, rfl, HG0, HB0⟩
        case round =>
          obtain ⟨u, hu, rfl, HG, HB⟩ := hrel
          clear HG0 HB0
          by_cases hlu : u < N2
          · have huI : (u : Int) < (N2 : Int) := by omega
            have hcl := HCL.out u hlu wr HB.out
            obtain ⟨c0, c1, c2, d0, d1, d2⟩ := (HMQ.out wr HB.out).cells
            have HJ := Lib.hid (HJQ.out u hlu wr HB.out)
            obtain ⟨J, hJ⟩ : ∃ J, u + 1 = J := ⟨_, rfl⟩
            rw [hJ] at HJ
            have HJJ := Lib.hid (And.intro hJ hlu)
            clear hJ
            go_wp2_with fail
            refine HJ.out.mono ?_
            rintro e w30 ⟨v30, rfl, hg30, hb30⟩
            have hlen := HUL.out (J : Int)
            have hsl : Slc w30 v30 (U (J : Int)) := hg30.slc (by omega)
            have hge := gath_lt hg30
            have hqs : qm ≤ wr.heap.size := by rw [← HQM.out]; exact HB.out.size
            obtain ⟨a30, c30, rfl⟩ := hg30.shape
            rw [show (U (J : Int)).length = c by rw [HSU.out.siz]; exact HCC.out] at hsl hge ⊢
            obtain ⟨gs, hgs⟩ : ∃ gs, w30.heap.size = gs := ⟨_, rfl⟩
            have hal : Below w30.heap.size w30 (w30.alloc (.cells #[.int .i64 (J : Int), .slice a30 c c30] 38)) := (Below.refl _ _).alloc (Nat.le_refl _) _
            have hsa := shAt_new w30 (J : Int) (.slice a30 c c30) 38
            have hsz : (w30.alloc (.cells #[.int .i64 (J : Int), .slice a30 c c30] 38)).heap.size = gs + 1 := by rw [← hgs]; simp
            have HB31 := Lib.hid ((HB.out.trans (hb30.mono hqs)).trans (hal.mono (Nat.le_trans hqs hb30.size)))
            have HG31 := Lib.hid ((HG.out.below hb30 (Nat.le_refl _)).below hal (Nat.le_refl _))
            have HS31 := Lib.hid (hsl.below (Nat.le_refl _) hal)
            have HBK : Hid (∀ y, (Value.slice a30 c c30).ownBlock = some y → qm ≤ y ∧ y < gs + 2 ∧ u17.ownBlock ≠ some y) := fun y hy => by
              have h1 := hge y hy
              exact ⟨by omega, by omega, fun e => by have := (HG.out.block y e).2; omega⟩
            go_upto_region 29 with fail
            rw [hgs] at hsa
            generalize w30.alloc (.cells #[.int .i64 (J : Int), .slice a30 c c30] 38) = w31 at *
            have s0 := hsa.c0
            have s1 := hsa.c1
            have hal2 : Below w31.heap.size w31 (w31.alloc (.cells #[.int .i64 (J : Int), .slice a30 c c30] 38)) := (Below.refl _ _).alloc (Nat.le_refl _) _
            have hqs2 : qm ≤ w31.heap.size := by rw [← HQM.out]; exact HB31.out.size
            have HB32 := Lib.hid (HB31.out.trans (hal2.mono hqs2))
            have HG32 := Lib.hid (HG31.out.below hal2 (Nat.le_refl _))
            have HS32 := Lib.hid (HS31.out.below (Nat.le_refl _) hal2)
            have HN32 := Lib.hid (shAt_new w31 (J : Int) (.slice a30 c c30) 38)
            have HSZ : Hid (w31.heap.size = gs + 1) := hsz
            have HQ32 : Hid (qm ≤ (w31.alloc (.cells #[.int .i64 (J : Int), .slice a30 c c30] 38)).heap.size) := Nat.le_trans hqs2 hal2.size
            have HTL : Hid (((rowL N2 U).take u).length < 1000) := by show _ < _; rw [List.length_take, rowL_len]; have := HQ2.out.kn; omega
            have hTK := rowL_take (V := U) hlu
            rw [HJJ.out.1] at hTK
            have HTK := Lib.hid hTK
            clear hTK hsa hal hal2 hqs hqs2 hge hsl hlen hg30 hb30 hgs hsz HB HG HJ c0 c1 c2 d0 d1 d2 hcl HB31 HG31 HS31
            go_wp2_with (at_builtin; refine appendS_one _ rfl _ _ rfl qm u17 _ (J : Int) (.slice a30 c c30) (U (J : Int)) rfl HG32.out w31.heap.size rfl HN32.out.c0 HN32.out.c1 HS32.out ?c1 HTL.out HQ32.out ?_)
            case c1 =>
              intro y hy
              have h1 := HBK.out y hy
              have h2 := HSZ.out
              exact ⟨h1.1, by simp; omega, h1.2.2⟩
            intro vM w33 hg33 hgr _
            rw [← HTK.out] at hg33
            have HG33 := Lib.hid hg33
            have HB33 := Lib.hid (HB32.out.grown hgr HQ32.out fun y hy => (HG32.out.block y hy).1)
            have hk2 := HQ2.out.kn
            clear hg33 hgr s0 s1 HG32 HB32 HS32 HN32 HBK HTL
            go_wp2
            go_roundw
            case rel => exact ⟨J, by have := HJJ.out; omega, by have := HJJ.out; go_num, HG33, HB33⟩
            case measure => simp [intOf]; have := HJJ.out; omega
          · have huN : N2 = u := by omega
            subst huN
            have hg := HG.out
            rw [List.take_of_length_le (by rw [rowL_len]; exact Nat.le_refl _)] at hg
            obtain ⟨aM, cM, hvm, _, _⟩ := hg.shape
            rw [rowL_len] at hvm
            subst hvm
            have HGM := Lib.hid hg
            have hcm := ref6_combine_any p ((K2 : Int) + 1) (N2 : Int) (.slice aM N2 cM) (rowL N2 U) wr HQ.out.wf (hg.shares (by rw [rowL_len]; have := HQ2.out.kn; omega))
            have hcb := HSU.out.comb (n := (N2 : Int)) (N := N2) HQ2.out.pl (by push_cast; rfl) rfl (by have := HSS.out; omega)
            rw [hcb.1, hcb.2] at hcm
            unfold planV at hcm
            have HCM := Lib.hid hcm
            obtain ⟨c0, c1, c2, d0, d1, d2⟩ := (HMQ.out wr HB.out).cells
            have HQS : Hid (qm ≤ wr.heap.size) := by show _ ≤ _; rw [← HQM.out]; exact HB.out.size
            clear hg hcm hcb HG
            go_wp2_with fail
            clear c0 c1 c2 d0 d1 d2
            refine HCM.out.mono ?_
            rintro e w40 ⟨v40, rfl, hg40, hb40⟩
            have HB40 := Lib.hid (HB.out.trans (hb40.mono HQS.out))
            have HGM40 := Lib.hid (HGM.out.below hb40 (Nat.le_refl _))
            have HRS40 := Lib.hid (hg40.reads (by have := HSS.out; omega))
            obtain ⟨aC, cC, rfl⟩ := hg40.shape
            rw [HCC.out] at HRS40 ⊢
            obtain ⟨c0, c1, c2, d0, d1, d2⟩ := (HMQ.out w40 HB40.out).cells
            have hMO := mod_el (p := (N2 : Int)) (n := pk) w40 (by have := HQ2.out.kn; omega) (by have := HQ2.out.kn; omega)
            have HMO := Lib.hid hMO
            clear hg40 hb40 HCM HGM HB hMO
            go_wp2_with fail
            refine HMO.out.mono ?_
            rintro e w41 ⟨x, hx, rfl, rfl⟩
            obtain ⟨X, rfl⟩ := Int.eq_ofNat_of_zero_le hx.1
            have hX : X < N2 := by have := hx.2; omega
            obtain ⟨⟨aF, cF, hvf, hcF, hcFb⟩, aU, cU, hvu, hcU, hcUb⟩ := (HWW.out w40 HB40.out).shapes (by have := HQ.out.kn; omega) hX
            subst hvf
            have hcx := HCL.out X hX w40 HB40.out
            rw [hvu] at hcx
            have HVU := Lib.hid hvu
            have HB41 : Hid (Below qm w0r w40.drew) := HB40.out.drew
            have HFW := Lib.hid ((HWW.out _ HB41.out).few hvu hcF hcU hcUb HQ.out HQ2.out HSVL.out HSS.out.2 (HMQ.out _ HB41.out).lw.st.wh hX)
            have hwk : IntKind.i64.wrap ((K : Int) + 1 - 1) = (K : Int) := by rw [show (K : Int) + 1 - 1 = (K : Int) by omega, IntKind.wrap_i64]; have := HQ.out.kn; omega
            have hwk2 : IntKind.i64.wrap (K : Int) = (K : Int) := by rw [IntKind.wrap_i64]; have := HQ.out.kn; omega
            have z1 : (K : Int) ≤ (cF : Int) := by have := HQ.out.kn; omega
            have z2 : K ≤ cF := by have := HQ.out.kn; omega
            have z3 : (K : Int) ≤ (cU : Int) := by have := HQ.out.kn; omega
            have z4 : K ≤ cU := by have := HQ.out.kn; omega
            have z5 : (X : Int) < (N2 : Int) := by omega
            have HKP : Hid (∀ W, Below qm w0r W → W.cell? ⟨gp, 0, none⟩ = some (.int .i64 p) ∧ W.cell? ⟨gp, 1, none⟩ = some (.int .i64 ((K : Int) + 1)) ∧ W.cell? ⟨gp, 2, none⟩ = some (.int .i64 (N : Int)) ∧ W.cell? ⟨gq, 0, none⟩ = some (.int .i64 p) ∧ W.cell? ⟨gq, 1, none⟩ = some (.int .i64 ((K2 : Int) + 1)) ∧ W.cell? ⟨gq, 2, none⟩ = some (.int .i64 (N2 : Int)) ∧ W.cell? ⟨q, X, none⟩ = some (.slice aU N cU)) := fun W b => by
              have k := (HMQ.out W b).cells
              exact ⟨k.1, k.2.1, k.2.2.1, k.2.2.2.1, k.2.2.2.2.1, k.2.2.2.2.2, by rw [HCL.out X hX W b, hvu]⟩
            have HCF : Hid (N ≤ cF ∧ N ≤ cU ∧ cU ≤ 9223372036854775807) := ⟨hcF, hcU, hcUb⟩
            have HXN : Hid (X < N2) := hX
            clear hx hcF hcFb hcU hcUb HMO hvu
            go_wp2_with fail
            clear c0 c1 c2 d0 d1 d2 hcx
            have HSK := HKP.out _ HB41.out
            obtain ⟨WA, hWA⟩ : ∃ WA, (w40.alloc (.cells #[.int .i64 0, .slice none 0 0] 38)).drew = WA := ⟨_, rfl⟩
            have HBA : Hid (Below qm w0r WA) := by rw [← hWA]; exact (HB40.out.alloc (by rw [← HQM.out]; exact HB40.out.size) _).drew
            have HFA := Lib.hid ((HWW.out _ HBA.out).few HVU.out HCF.out.1 HCF.out.2.1 HCF.out.2.2 HQ.out HQ2.out HSVL.out HSS.out.2 (HMQ.out _ HBA.out).lw.st.wh HXN.out)
            have HSA : Hid (ShAt WA w40.heap.size 0 (.slice none 0 0) ∧ w40.heap.size < WA.heap.size) := by
              rw [← hWA]
              exact ⟨shAt_new w40 0 (.slice none 0 0) 38, (shAt_new w40 0 (.slice none 0 0) 38).lt⟩
            have HSKA := HKP.out _ HBA.out
            have HQ4 : Hid (qm ≤ w40.heap.size) := by show _ ≤ _; rw [← HQM.out]; exact HB40.out.size
            have HCA : Hid (Below w40.heap.size w40 WA) := by rw [← hWA]; exact ((Below.refl _ _).alloc (Nat.le_refl _) _).drew
            rw [← hWA] at HBA HFA HSKA HSA HCA
            clear hWA
            go_region_held3 (fun W' => W'.cell? ⟨gp, 0, none⟩ = some (.int .i64 p) ∧ W'.cell? ⟨gp, 1, none⟩ = some (.int .i64 ((K : Int) + 1)) ∧ W'.cell? ⟨gp, 2, none⟩ = some (.int .i64 (N : Int)) ∧ W'.cell? ⟨gq, 0, none⟩ = some (.int .i64 p) ∧ W'.cell? ⟨gq, 1, none⟩ = some (.int .i64 ((K2 : Int) + 1)) ∧ W'.cell? ⟨gq, 2, none⟩ = some (.int .i64 (N2 : Int)) ∧ W'.cell? ⟨q, X, none⟩ = some (.slice aU N cU)) (first | go_keep | exact HSK | exact HSKA | exact HKP.out _ (HB42.out.alloc (by rw [← HQM.out]; exact HB42.out.size) _) | exact HKP.out _ (HB42.out.trans ((set1_below _ _ _ HQ4.out).trans (set1_below _ _ _ HQ4.out))))
              (first
                | (go_at_call 23; refine HFW.out.mono ?_; rintro e w42 ⟨a42, c42, rfl, hb42⟩; have HB42 := Lib.hid (HB41.out.trans (hb42.mono (by rw [← HQM.out]; exact HB41.out.size))); have HC42 : Hid (Below w40.heap.size w40 w42) := ((Below.refl _ _).drew).trans hb42; have HSK := HKP.out _ HB42.out; clear hb42)
                | (go_at_call 23; refine HFA.out.mono ?_; rintro e w42 ⟨a42, c42, rfl, hb42⟩; have HB42 := Lib.hid (HBA.out.trans (hb42.mono (by rw [← HQM.out]; exact HBA.out.size))); have HC42 : Hid (Below w40.heap.size w40 w42) := HCA.out.trans (hb42.mono HCA.out.size); have HSK := HKP.out _ HB42.out; have hsx := HSA.out.1.grown (row := none) (grownBy_of_below hb42 (Nat.le_refl _)) (fun e => nomatch e); have t0 := hsx.c0; have t1 := hsx.c1; have t2 := hsx.fr 0; have t3 := hsx.fr 1; clear hb42 hsx))
            all_goals
              refine at_world (P := Below w40.heap.size w40) (F := Exit.then _ _ _ _) (by first | exact HC42.out.alloc HC42.out.size _ | exact HC42.out.trans ((set1_below _ _ _ (Nat.le_refl _)).trans (set1_below _ _ _ (Nat.le_refl _)))) ?_
              intro wz hz
              have HBZ := Lib.hid (HB40.out.trans (hz.mono HQ4.out))
              have HMZ := Lib.hid (HMQ.out wz HBZ.out)
              have HSA := Lib.hid (same_yes (.slice aC c cC) (.slice aS c cS) S wz (HRS40.out.below (Nat.le_refl _) hz) ((HMZ.out.lw.getG (by simp)).reads (by have := HSS.out; omega)))
              have hfi := ref6_fits p ((K2 : Int) + 1) (N2 : Int) (.slice aM N2 cM) (rowL N2 U) wz HQ.out.wf ((HGM40.out.below hz (Nat.le_refl _)).shares (by rw [rowL_len]; have := HQ2.out.kn; omega))
              rw [HSU.out.fits HQ2.out.pl (by push_cast; rfl) rfl (by have := HSS.out; omega)] at hfi
              unfold planV at hfi
              have HFI := Lib.hid hfi
              obtain ⟨c0, c1, c2, d0, d1, d2⟩ := HMZ.out.cells
              clear hz hfi HSK HSKA
              go_wp2_with fail
              refine HSA.out.mono ?_
              rintro e wy ⟨rfl, rfl⟩
              go_wp2_with fail
              refine HFI.out.mono ?_
              rintro e wx ⟨rfl, hbx⟩
              have HMX := Lib.hid (HMZ.out.below hbx)
              clear hbx
              go_wp2_with fail
              refine HMX.out.awake.mono ?_
              rintro e wv ⟨rfl, hb⟩
              have HB := Lib.hid hb
              clear hb
              go_wp2
              go_ret
              exact ⟨rfl, HB.out⟩
end Go.Proofs.YtgenollnnfljkaaDoor
