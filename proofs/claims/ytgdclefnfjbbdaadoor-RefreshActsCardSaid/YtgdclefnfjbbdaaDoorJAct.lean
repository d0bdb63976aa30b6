
/- The walk through RefreshActs: its beginning. -/
import Derived.Test.YtgdclefnfjbbdaaDoorJAcm
import Derived.Deep.RegionHeld3
namespace Go.Proofs.YtgdclefnfjbbdaaDoor
open Go.RowKit Go.Sort
open Num
set_option linter.unusedVariables false

set_option maxRecDepth 100000 in
set_option maxHeartbeats 16000000 in
theorem refreshActs_walk (s : Value) (l : List Int) (sr : Value) (R : List Shr) (cc : Int) (vr : Value) (rr : List Int) (w : World) (hw : Wheel w) (hs : Ints w s l) (hr : SharesU w sr R) (hcc : (Lit.int .i64 cc).wf = true) (hv : Slc w vr rr) (hvb : ∀ q, vr.ownBlock = some q → q < w.heap.size) :
    Calls Tryd.prog 3 #[s, sr, .int .i64 cc, vr] w fun e w' => e = .returned (.bool true) ∧ Below w.heap.size w w' := by
  have HL := Lib.hid (light_any s l w hs)
  have HSM := Lib.hid (small_any sr R w hr)
  obtain ⟨g0, hg0⟩ : ∃ g, w.heap.size = g := ⟨_, rfl⟩
  obtain ⟨bl, hbl⟩ : ∃ b, decide ((l.length : Int) ≤ 500) = b := ⟨_, rfl⟩
  rw [hbl] at HL
  rw [hg0] at HSM ⊢
  have HWW := Lib.hid hw
  have HSS := Lib.hid hs
  have HRR := Lib.hid hr
  have HG0 := Lib.hid hg0
  have HVV := Lib.hid hv
  obtain ⟨sra, srn, src, rfl⟩ : ∃ a n c, sr = .slice a n c := by obtain ⟨a, c, h, _⟩ := hr; exact ⟨a, _, c, h⟩
  obtain ⟨vra, vrc, rfl, _, _, _⟩ := id hv
  obtain ⟨rn, hrn⟩ : ∃ n, rr.length = n := ⟨_, rfl⟩
  rw [hrn] at HVV ⊢
  have HRN := Lib.hid hrn
  clear hw hs hr hbl hg0 hv hrn hvb hcc
  cases bl with
  | false =>
    have HAW := Lib.hid (awake8_any w HWW.out)
    go_enter Tryd.func3, Tryd.ntmps3
    go_wp2_with fail
    refine HL.out.mono ?_
    rintro e w' ⟨rfl, rfl⟩
    go_wp2_with fail
    refine HAW.out.mono ?_
    rintro e w' ⟨rfl, hb⟩
    rw [HG0.out] at hb
    have HB := Lib.hid hb
    clear hb
    go_wp2
    go_ret
    exact ⟨rfl, HB.out⟩
  | true =>
  go_enter Tryd.func3, Tryd.ntmps3
  go_wp2_with fail
  refine HL.out.mono ?_
  rintro e w' ⟨rfl, rfl⟩
  go_wp2_with fail
  refine HSM.out.mono ?_
  rintro e w1 ⟨bs, rfl, hbs, hb1⟩
  have HB1 := Lib.hid hb1
  have HW1 := Lib.hid (HWW.out.below HWW.out.size (by rw [HG0.out]; exact hb1))
  have HSZ1 : Hid (g0 ≤ w1.heap.size) := by show _ ≤ _; rw [← HG0.out]; exact hb1.size
  clear hb1 HL HSM
  cases bs with
  | false =>
    clear hbs
    go_wp2_with fail
    refine (awake8_any w1 HW1.out).mono ?_
    rintro e w' ⟨rfl, hb⟩
    have HB := Lib.hid (HB1.out.trans (hb.mono HSZ1.out))
    clear hb
    go_wp2
    go_ret
    exact ⟨rfl, HB.out⟩
  | true =>
  obtain ⟨hr12, hr20⟩ := hbs rfl
  have HRL := Lib.hid (show R.length ≤ 12 ∧ ∀ x ∈ R, x.2.length ≤ 20 from ⟨hr12, hr20⟩)
  clear hbs hr12 hr20
  by_cases hrb : 60 < rn
  · have g1 : (60 : Int) < (rn : Int) := by omega
    go_wp2_with fail
    refine (awake8_any w1 HW1.out).mono ?_
    rintro e w' ⟨rfl, hb⟩
    have HB := Lib.hid (HB1.out.trans (hb.mono HSZ1.out))
    clear hb
    go_wp2
    go_ret
    exact ⟨rfl, HB.out⟩
  have g1 : ¬ (60 : Int) < (rn : Int) := by omega
  have HRB : Hid (rn ≤ 60) := by show _ ≤ _; omega
  have HR1 := Lib.hid ((HRR.out.below (Nat.le_of_eq HG0.out) HB1.out).few (by have := HRL.out.1; omega))
  have HV1 := Lib.hid (HVV.out.below (Nat.le_of_eq HG0.out) HB1.out)
  have hs1 := HSS.out.below (Nat.le_of_eq HG0.out) HB1.out
  have hd0 := dice_new hs1
  have HRO := Lib.hid (roll_any s w1 (by obtain ⟨a, c, h, _⟩ := hs1; exact ⟨a, _, c, h⟩))
  obtain ⟨g, hg⟩ : ∃ g, w1.heap.size = g := ⟨_, rfl⟩
  have hta : 0 < g := by rw [← hg]; exact HW1.out.size
  have HGG : Hid (g0 ≤ g) := by show _ ≤ _; rw [← hg]; exact HSZ1.out
  have HGE := Lib.hid hg
  rw [hg] at HRO hd0
  have HW0 := Lib.hid (HW1.out.below HW1.out.size ((Below.refl w1.heap.size w1).alloc (Nat.le_refl _) (.cells #[s, .int .i64 0] 59)))
  have HB0 : Hid (Below g w1 (w1.alloc (.cells #[s, .int .i64 0] 59))) := by rw [← hg]; exact (Below.refl _ _).alloc (Nat.le_refl _) _
  have HD0 := Lib.hid hd0
  clear hd0 hs1 hg hrb
  go_wp2_with fail
  refine HRO.out.mono ?_
  rintro e w2 ⟨rfl, rfl⟩
  generalize w1.alloc (.cells #[s, .int .i64 0] 59) = w2 at *
  clear g1
  go_wp2_with fail
  refine (prime_any g s l w2 HD0.out).mono ?_
  rintro e w3 ⟨p, hprm, hp2, rfl, hd2, hb2⟩
  have HPRM := Lib.hid hprm
  have hpp : 2 ≤ p := by have := hprm.1; omega
  have HP2 := Lib.hid hp2
  have HD2 := Lib.hid hd2
  have HB2 := Lib.hid (HB0.out.trans (hb2.below (Nat.le_refl _) (Nat.le_of_lt HD0.out.size)))
  have HW2 := Lib.hid (HW0.out.below hta (hb2.below (Nat.le_refl _) (Nat.le_of_lt HD0.out.size)))
  clear hb2 hd2 hprm HD0 HB0 HW0 HRO
  go_wp2_with fail
  refine (plan_any g s l p w3 HD2.out hpp (by omega)).mono ?_
  rintro e w4 ⟨k, n, rfl, hk1, hkn, hn7, hnp, hd3, hb3⟩
  have hplb : planB p k n = true := planB_of HPRM.out (by have := HP2.out; omega) hk1 hkn (by omega) hnp
  obtain ⟨K, hK⟩ := Int.eq_ofNat_of_zero_le (show 0 ≤ k - 1 by omega)
  obtain ⟨N, rfl⟩ := Int.eq_ofNat_of_zero_le (show 0 ≤ n by omega)
  obtain rfl : k = (K : Int) + 1 := by omega
  have HQ : Hid (Pf p K N) := ⟨HPRM.out, by have := HP2.out; omega, hplb, ⟨by omega, by omega⟩, hnp⟩
  have hb3' := hb3.below (Nat.le_refl _) (Nat.le_of_lt HD2.out.size)
  have hg3 : g < w4.heap.size := hd3.size
  have hST : StL w1 (w4.alloc (.cells #[.int .i64 p, .int .i64 ((K : Int) + 1), .int .i64 (N : Int)] 30)) g w4.heap.size s l p ((K : Int) + 1) (N : Int) := by
    have hal : Below w4.heap.size w4 (w4.alloc (.cells #[.int .i64 p, .int .i64 ((K : Int) + 1), .int .i64 (N : Int)] 30)) := (Below.refl _ _).alloc (Nat.le_refl _) _
    exact ⟨hd3.below hal hg3, planAt_new _ _ _ _ _, (HW2.out.below hta hb3').below (by omega) hal, (HB2.out.trans hb3').trans (hal.mono (by omega)), hg3, by simp, hta⟩
  have HST := Lib.hid hST
  clear hST hb3 hb3' hg3 hd3 HB2 HW2 HD2 hK hk1 hkn hn7 hnp hp2 hplb HPRM HP2 hpp
  unfold planV
  go_wp2_with fail
  obtain ⟨gp, hgp⟩ : ∃ gp, w4.heap.size = gp := ⟨_, rfl⟩
  rw [hgp] at HST ⊢
  generalize w4.alloc (.cells #[.int .i64 p, .int .i64 ((K : Int) + 1), .int .i64 (N : Int)] 30) = w5 at *
  clear hgp
  have hraw : LstK w1 w5 g (.slice sra srn src) := ⟨R, .inl HR1.out, by have := HRL.out.1; omega, fun x hx => by have := HRL.out.2 x hx; omega⟩
  have HX5 : Hid (Ad w1 w5 g gp s l p K N [] [] [.slice sra srn src]) := ⟨⟨HST.out, fun x hx => by simp at hx, fun x hx => by simp at hx⟩, fun v hv => by simp at hv; subst hv; exact hraw, Nat.le_of_eq HGE.out⟩
  obtain ⟨c0, c1, c2⟩ := HX5.out.lw.cells
  have HDE := Lib.hid (HX5.out.dealt HQ.out 2 (by omega))
  clear HST hraw
  go_wp2_with fail
  refine HDE.out.mono ?_
  rintro e w6 ⟨v1, v2, S, Rd, rfl, hS1, hS3, hSE, hX6⟩
  have HX6 := Lib.hid hX6
  have HSE := Lib.hid hSE
  have HSVL := Lib.hid (secV_deal (K := K) (r := Rd) HQ.out.p1 hSE)
  obtain ⟨c, hc⟩ : ∃ c, S.length = c := ⟨_, rfl⟩
  have HCC : Hid (S.length = c ∧ 1 ≤ c ∧ c ≤ 2) := ⟨hc, by omega, by omega⟩
  have HVB : Hid (∀ x, (dealV p K S Rd x).length ≤ 100) := fun x => by rw [dealV_len]; omega
  have hn6 := hX6.lw.getM (v := v2) (L := rowL N (dealV p K S Rd)) (by simp)
  obtain ⟨aL, cL, rfl, _, _⟩ := hn6.shape
  rw [rowL_len] at hn6 HX6 ⊢
  obtain ⟨bl, ol, vl, hal, l0, l1, hil⟩ := hn6.shares.at (i := 0) (by have := HQ.out.kn; omega)
  subst hal
  rw [rowL_get (by have := HQ.out.kn; omega)] at hil
  obtain ⟨avl, cvl, rfl⟩ := hil.shape
  rw [Nat.zero_mul, Nat.add_zero] at l1
  simp only [dealV_len, hc] at l1
  obtain ⟨c0, c1, c2⟩ := HX6.out.lw.cells
  obtain ⟨Z, hZ⟩ : ∃ Z, c * K = Z := ⟨_, rfl⟩
  have HZZ := Lib.hid hZ
  have hzb : Z ≤ 1000000 := by
    have h1 : c * K ≤ 2 * 7 := Nat.mul_le_mul (by omega) (by have := HQ.out.kn; omega)
    omega
  have hc2 : c ≤ 2 := by omega
  have hN0 : 0 < N := by have := HQ.out.kn; omega
  have hN1 : (0 : Int) < (N : Int) := by omega
  clear hX6 hS1 hS3 hSE hn6 hil hc HDE HX5 hZ l0
  go_wp2_with fail
  clear l1 c0 c1 c2
  have HXD := Lib.hid HX6.out.drew
  have HSK := HXD.out.lw.cells
  go_region_held3 (fun W' => W'.cell? ⟨gp, 0, none⟩ = some (.int .i64 p) ∧ W'.cell? ⟨gp, 1, none⟩ = some (.int .i64 ((K : Int) + 1)) ∧ W'.cell? ⟨gp, 2, none⟩ = some (.int .i64 (N : Int))) (first | go_keep | exact HSK)
    (first
      | (go_at_call 17; refine (HXD.out.random HQ.out HZZ.out (by omega)).mono ?_; rintro e w7 ⟨rfl, hX⟩; have HX7 := Lib.hid hX; have HSK := hX.lw.cells; clear hX)
      | (go_at_call 16; refine (HX7.out.elements HQ.out Z hzb).mono ?_; rintro e w8 ⟨v8, R2, rfl, hrl, hre, hX⟩; have HX8 := Lib.hid hX; have HSK := hX.lw.cells; have HRLZ := Lib.hid hrl; have HREZ := Lib.hid hre; clear hX hrl hre)
      | (go_at_call 15; refine (HX8.out.zero8 HQ.out HZZ.out (by omega) (vr := v8) (R := R2) (by simp) HRLZ.out HREZ.out).mono ?_; rintro e w9 ⟨v9, rfl, hX⟩; have HX9 := Lib.hid hX; have HSK := hX.lw.cells; clear hX))
  obtain ⟨aZ, cZ, rfl, _, _⟩ := (HX9.out.lw.getM (v := v9) (L := rowL N (dealV p K (List.replicate c 0) R2)) (by simp)).shape
  rw [rowL_len] at HX9 ⊢
  have HZB : Hid (∀ x, (dealV p K (List.replicate c 0) R2 x).length ≤ 100) := fun x => by rw [dealV_len, List.length_replicate]; omega
  obtain ⟨U, hU⟩ : ∃ U, dealV p K (List.replicate c 0) R2 = U := ⟨_, rfl⟩
  obtain ⟨V, hV⟩ : ∃ V, dealV p K S Rd = V := ⟨_, rfl⟩
  rw [hU] at HX9 HZB
  rw [hV] at HX9 HVB
  clear HSK HX8 HX7 HXD HX6 hU hV HSVL
  go_wp2_with fail
  refine (mod_any cc 4 w9 (by omega) (by omega)).mono ?_
  rintro e w' ⟨rfl, rfl⟩
  obtain ⟨cm, hcm⟩ : ∃ cm, cc % 4 = cm := ⟨_, rfl⟩
  rw [hcm]
  clear hcm
  obtain ⟨A, hA⟩ : ∃ A, w9.heap.size = A := ⟨_, rfl⟩
  have hal : Below w9.heap.size w9 (w9.alloc (.cells #[.int .i64 cc, .int .i64 cm, .int .i64 2049, .int .i64 (-1)] 3)) := (Below.refl _ _).alloc (Nat.le_refl _) _
  have HX10 := Lib.hid (HX9.out.below hal)
  have HAR : Hid (∀ j, j < 4 → ∃ kk : Int, (w9.alloc (.cells #[.int .i64 cc, .int .i64 cm, .int .i64 2049, .int .i64 (-1)] 3)).cell? ⟨A, j, none⟩ = some (.int .i64 kk)) := fun j hj => by
    rw [← hA]
    have : j = 0 ∨ j = 1 ∨ j = 2 ∨ j = 3 := by omega
    rcases this with rfl | rfl | rfl | rfl
    · exact ⟨_, by rw [cell_new]; rfl⟩
    · exact ⟨_, by rw [cell_new]; rfl⟩
    · exact ⟨_, by rw [cell_new]; rfl⟩
    · exact ⟨_, by rw [cell_new]; rfl⟩
  have HAE := Lib.hid hA
  clear hal hA HX9
  go_wp2_with fail
  rw [HAE.out]
  generalize w9.alloc (.cells #[.int .i64 cc, .int .i64 cm, .int .i64 2049, .int .i64 (-1)] 3) = w10 at *
  have HW0 : Hid (Below w10.heap.size w10 w10) := Below.refl _ _
  have HSLC : Hid (∀ W, Below w10.heap.size w10 W → Slc W (.slice vra rn vrc) rr) := fun W b => HV1.out.below HX10.out.sz ((HX10.out.below b).lw.st.be)
  clear hc2 hzb hN0 hN1 HSZ1
  go_loopw [17, 18, 19, 20, 21, 91] (fun _ _ _ _ _ i wr => ∃ j : Nat, j ≤ 4 ∧ i = .int .i64 j ∧ Hid (Below w10.heap.size w10 wr)) (fun _ _ _ _ _ i _ => 4 - (intOf i).toNat)
  case atStart => exact ⟨0, Nat.zero_le _, rfl, HW0⟩
  case round =>
    obtain ⟨j, hj, rfl, HW⟩ := hrel
    have HXr := Lib.hid (HX10.out.below HW.out)
    by_cases hlt : j < 4
    · obtain ⟨kk, hkk⟩ := HAR.out j hlt
      have t0 : wr.cell? ⟨A, j, none⟩ = some (.int .i64 kk) := by rw [HW.out.cell (p := ⟨A, j, none⟩) (cell_lt hkk)]; exact hkk
      have hjl : (j : Int) < 4 := by omega
      obtain ⟨c0, c1, c2⟩ := HXr.out.lw.cells
      obtain ⟨EE, hEE⟩ : ∃ E, zeroE p ((K : Int) + 1) (N : Int) kk rr = E := ⟨_, rfl⟩
      obtain ⟨DD, hDD⟩ : ∃ D, zeroR p ((K : Int) + 1) (N : Int) kk rr = D := ⟨_, rfl⟩
      have hz1 := refresh_zero_all p ((K : Int) + 1) (N : Int) kk (.slice vra rn vrc) rr wr HXr.out.lw.st.wh HQ.out.wf (HSLC.out wr HW.out) (by rw [HRN.out]; have := HRB.out; omega)
      have hz2 := fun W (b : Below w10.heap.size w10 W) => ref8_zero p ((K : Int) + 1) (N : Int) kk (.slice vra rn vrc) rr W HQ.out.wf (HSLC.out W b) (by rw [HRN.out]; have := HRB.out; omega)
      rw [hEE, hDD] at hz1
      rw [hEE, hDD] at hz2
      unfold planV at hz1 hz2
      have HZ1 := Lib.hid hz1
      have HZ2 := Lib.hid hz2
      have hee : (EE != EE) = false := by simp
      have HSI : Hid (w10.heap.size ≤ wr.heap.size) := HW.out.size
      clear hkk hEE hDD hz1 hz2
      go_wp2_with fail
      clear t0
      refine HZ1.out.mono ?_
      rintro e w11 ⟨vA, rfl, hnA, hb⟩
      have HB11 := Lib.hid (HW.out.trans (hb.mono HSI.out))
      have HNA := Lib.hid hnA.shares
      obtain ⟨c0, c1, c2⟩ := (HX10.out.below HB11.out).lw.cells
      clear hnA hb HZ1
      go_wp2_with fail
      refine (HZ2.out w11 HB11.out).mono ?_
      rintro e w12 ⟨vB, rfl, hnB, hb⟩
      have HB12 := Lib.hid (HB11.out.trans (hb.mono HB11.out.size))
      have HNA2 := Lib.hid (HNA.out.below (Nat.le_refl _) hb)
      have HNB := Lib.hid hnB.shares
      clear hnB hb HZ2 c0 c1 c2
      go_wp2_with fail
      refine (sameS_yes vA vB DD w12 HNA2.out HNB.out).mono ?_
      rintro e w13 ⟨rfl, hb⟩
      have HB13 := Lib.hid (HB12.out.trans (hb.mono HB12.out.size))
      clear hb
      go_wp2_with fail
      go_roundw
      case rel => exact ⟨j + 1, by omega, by go_num, HB13⟩
      case measure => simp [intOf]; omega
    · obtain rfl : j = 4 := by omega
      obtain ⟨w14, hw14⟩ : ∃ w14, w14 = wr := ⟨_, rfl⟩
      subst hw14
      clear HAR HW0 HSLC HAE
      go_wp2_with fail
      refine (HXr.out.odd (v := .slice aZ N cZ) (V := U) (by simp) HQ.out.kn.2 HZB.out).mono ?_
      rintro e w15 ⟨v15, rfl, hX⟩
      have HX15 := Lib.hid hX
      obtain ⟨ao, no, co, rfl⟩ := (hX.ls v15 (by simp)).slice
      clear hX HXr HW
      go_wp2_with fail
      refine (HX15.out.turn (v := .slice aZ N cZ) (V := U) (by simp) HQ.out.kn.2 HZB.out).mono ?_
      rintro e w16 ⟨v16, rfl, hX⟩
      have HX16 := Lib.hid hX
      obtain ⟨al, nl, cl, rfl⟩ := (hX.ls v16 (by simp)).slice
      clear hX HX15
      go_wp2_with fail
      refine (HX16.out.turn (v := .slice (some ⟨bl, ol, none⟩) N cL) (V := V) (by simp) HQ.out.kn.2 HVB.out).mono ?_
      rintro e w17 ⟨v17, rfl, hX⟩
      have HX17 := Lib.hid hX
      obtain ⟨at', nt, ct, rfl⟩ := (hX.ls v17 (by simp)).slice
      clear hX HX16
      go_wp2_with fail
      refine (HX17.out.odd (v := .slice (some ⟨bl, ol, none⟩) N cL) (V := V) (by simp) HQ.out.kn.2 HVB.out).mono ?_
      rintro e w18 ⟨v18, rfl, hX⟩
      have HX18 := Lib.hid hX
      obtain ⟨ad, nd, cd, rfl⟩ := (hX.ls v18 (by simp)).slice
      clear hX HX17
      obtain ⟨A2, hA2⟩ : ∃ A, w18.heap.size = A := ⟨_, rfl⟩
      have hal : Below w18.heap.size w18 (w18.alloc (.cells #[.slice (some ⟨bl, ol, none⟩) N cL, .slice at' nt ct, .slice ad nd cd, .slice sra srn src, .slice none 0 0] 23)) := (Below.refl _ _).alloc (Nat.le_refl _) _
      have HXL := Lib.hid (HX18.out.below hal)
      have HKL : Hid (LstK w1 (w18.alloc (.cells #[.slice (some ⟨bl, ol, none⟩) N cL, .slice at' nt ct, .slice ad nd cd, .slice sra srn src, .slice none 0 0] 23)) g (.slice (some ⟨bl, ol, none⟩) N cL)) := HXL.out.known (v := .slice (some ⟨bl, ol, none⟩) N cL) (V := V) (by simp) HQ.out.kn.2 HVB.out
      have HKZ : Hid (LstK w1 (w18.alloc (.cells #[.slice (some ⟨bl, ol, none⟩) N cL, .slice at' nt ct, .slice ad nd cd, .slice sra srn src, .slice none 0 0] 23)) g (.slice aZ N cZ)) := HXL.out.known (v := .slice aZ N cZ) (V := U) (by simp) HQ.out.kn.2 HZB.out
      obtain ⟨VX, hVX⟩ : ∃ VX, lst5 (.slice (some ⟨bl, ol, none⟩) N cL) (.slice at' nt ct) (.slice ad nd cd) (.slice sra srn src) (.slice none 0 0) = VX := ⟨_, rfl⟩
      obtain ⟨VZ, hVZ⟩ : ∃ VZ, lst5 (.slice aZ N cZ) (.slice ao no co) (.slice al nl cl) (.slice (some ⟨bl, ol, none⟩) N cL) (.slice sra srn src) = VZ := ⟨_, rfl⟩
      have HJ : Hid (∀ j, j < 5 → (w18.alloc (.cells #[.slice (some ⟨bl, ol, none⟩) N cL, .slice at' nt ct, .slice ad nd cd, .slice sra srn src, .slice none 0 0] 23)).cell? ⟨A2, j, none⟩ = some (VX j) ∧ ∃ X : List Shr, Shares (w18.alloc (.cells #[.slice (some ⟨bl, ol, none⟩) N cL, .slice at' nt ct, .slice ad nd cd, .slice sra srn src, .slice none 0 0] 23)) (VX j) X ∧ X.length ≤ 100 ∧ ∀ x ∈ X, x.2.length ≤ 100001) := fun j hj => by
        rw [← hA2, ← hVX, cell_new]
        have : j = 0 ∨ j = 1 ∨ j = 2 ∨ j = 3 ∨ j = 4 := by omega
        rcases this with rfl | rfl | rfl | rfl | rfl
        · exact ⟨rfl, HXL.out.get HKL.out⟩
        · exact ⟨rfl, HXL.out.get (HXL.out.ls (.slice at' nt ct) (by simp))⟩
        · exact ⟨rfl, HXL.out.get (HXL.out.ls (.slice ad nd cd) (by simp))⟩
        · exact ⟨rfl, HXL.out.get (HXL.out.ls (.slice sra srn src) (by simp))⟩
        · exact ⟨rfl, [], shares_nil _, by simp, fun x hx => by simp at hx⟩
      have HZV : Hid (∀ j, j < 5 → ∃ X : List Shr, Shares (w18.alloc (.cells #[.slice (some ⟨bl, ol, none⟩) N cL, .slice at' nt ct, .slice ad nd cd, .slice sra srn src, .slice none 0 0] 23)) (VZ j) X ∧ X.length ≤ 100 ∧ ∀ x ∈ X, x.2.length ≤ 100001) := fun j hj => by
        rw [← hVZ]
        have : j = 0 ∨ j = 1 ∨ j = 2 ∨ j = 3 ∨ j = 4 := by omega
        rcases this with rfl | rfl | rfl | rfl | rfl
        · exact HXL.out.get HKZ.out
        · exact HXL.out.get (HXL.out.ls (.slice ao no co) (by simp))
        · exact HXL.out.get (HXL.out.ls (.slice al nl cl) (by simp))
        · exact HXL.out.get HKL.out
        · exact HXL.out.get (HXL.out.ls (.slice sra srn src) (by simp))
      have HZC : Hid (∀ (W : World) (q : Nat), W.heap.size = q → ∀ j, j < 5 → (W.alloc (.cells #[.slice aZ N cZ, .slice ao no co, .slice al nl cl, .slice (some ⟨bl, ol, none⟩) N cL, .slice sra srn src] 23)).cell? ⟨q, j, none⟩ = some (VZ j)) := fun W q hq j hj => by
        rw [← hq, ← hVZ, cell_new]
        have : j = 0 ∨ j = 1 ∨ j = 2 ∨ j = 3 ∨ j = 4 := by omega
        rcases this with rfl | rfl | rfl | rfl | rfl <;> rfl
      obtain ⟨Z0, hZ0, hZl, hZv⟩ := HXL.out.get HKZ.out
      have HZ0 := Lib.hid hZ0
      have HZL := Lib.hid hZl
      have HAE := Lib.hid hA2
      clear hal hA2 hVX hVZ hZ0 hZl hZv HX18 HKL HKZ
      go_wp2_with fail
      rw [HAE.out]
      generalize w18.alloc (.cells #[.slice (some ⟨bl, ol, none⟩) N cL, .slice at' nt ct, .slice ad nd cd, .slice sra srn src, .slice none 0 0] 23) = wL at *
      have HXL2 : Hid (StL w1 wL g gp s l p ((K : Int) + 1) (N : Int)) := HXL.out.lw.st
      have HSTW : Hid (∀ W, Below wL.heap.size wL W → StL w1 W g gp s l p ((K : Int) + 1) (N : Int)) := fun W b => HXL2.out.below b
      have HL0 : Hid (Below wL.heap.size wL wL) := Below.refl _ _
      have HAP : Hid (∀ W x z X Z, Below wL.heap.size wL W → Shares W x X → Shares W z Z → Calls Tryd.prog 23 #[.agg #[.int .i64 p, .int .i64 ((K : Int) + 1), .int .i64 (N : Int)], x, z] W fun e w' => ∃ v', e = .returned (.tuple #[v', .int .i64 (apE p ((K : Int) + 1) (N : Int) X Z)]) ∧ SharesN w' W.heap.size v' (apR p ((K : Int) + 1) (N : Int) X Z) ∧ Below W.heap.size W w') := fun W x z X Z b h1 h2 =>
        refresh_apply p ((K : Int) + 1) (N : Int) x z X Z W (HSTW.out W b).wh HQ.out.wf h1 h2
      have HAR : Hid (∀ W x z X Z, Shares W x X → Shares W z Z → Calls Tryd.prog 24 #[.agg #[.int .i64 p, .int .i64 ((K : Int) + 1), .int .i64 (N : Int)], x, z] W fun e w' => ∃ v', e = .returned (.tuple #[v', .int .i64 (apE p ((K : Int) + 1) (N : Int) X Z)]) ∧ SharesN w' W.heap.size v' (apR p ((K : Int) + 1) (N : Int) X Z) ∧ Below W.heap.size W w') := fun W x z X Z h1 h2 =>
        ref8_apply p ((K : Int) + 1) (N : Int) x z X Z W HQ.out.wf h1 h2
      have HSP : Hid (∀ W v LL, Below wL.heap.size wL W → ListsS W v LL → Calls Tryd.prog 25 #[.agg #[.int .i64 p, .int .i64 ((K : Int) + 1), .int .i64 (N : Int)], v] W fun e w' => ∃ v', e = .returned (.tuple #[v', .int .i64 (sumR p ((K : Int) + 1) (N : Int) LL).1]) ∧ SharesN w' W.heap.size v' (sumR p ((K : Int) + 1) (N : Int) LL).2 ∧ Below W.heap.size W w') := fun W v LL b h1 =>
        refresh_sum p ((K : Int) + 1) (N : Int) v LL W (HSTW.out W b).wh HQ.out.wf h1
      have HSR : Hid (∀ W v LL, Below wL.heap.size wL W → ListsS W v LL → (LL.getD 0 []).length < 1000 → Calls Tryd.prog 26 #[.agg #[.int .i64 p, .int .i64 ((K : Int) + 1), .int .i64 (N : Int)], v] W fun e w' => ∃ v', e = .returned (.tuple #[v', .int .i64 (sumR p ((K : Int) + 1) (N : Int) LL).1]) ∧ SharesN w' W.heap.size v' (sumR p ((K : Int) + 1) (N : Int) LL).2 ∧ Below W.heap.size W w') := fun W v LL b h1 h2 =>
        ref8_sum p ((K : Int) + 1) (N : Int) v LL W (HSTW.out W b).wh h2 HQ.out.pl HQ.out.wf h1
      have HCP : Hid (∀ W z Z, Below wL.heap.size wL W → Shares W z Z → Calls Tryd.prog 27 #[.agg #[.int .i64 p, .int .i64 ((K : Int) + 1), .int .i64 (N : Int)], z] W fun e w' => e = .returned (.bool (chkB p ((K : Int) + 1) (N : Int) Z)) ∧ Below W.heap.size W w') := fun W z Z b h1 =>
        refresh_checks p ((K : Int) + 1) (N : Int) z Z W (HSTW.out W b).wh HQ.out.wf h1
      have HCR : Hid (∀ W z Z, Shares W z Z → Calls Tryd.prog 28 #[.agg #[.int .i64 p, .int .i64 ((K : Int) + 1), .int .i64 (N : Int)], z] W fun e w' => e = .returned (.bool (chkB p ((K : Int) + 1) (N : Int) Z)) ∧ Below W.heap.size W w') := fun W z Z h1 =>
        ref8_checks p ((K : Int) + 1) (N : Int) z Z W HQ.out.wf h1
      clear HXL HAE
      go_loopw [25, 27, 28, 29, 30, 31, 32, 33, 34, 35, 36, 37, 38, 39, 135, 146] (fun _ _ _ _ _ _ _ _ _ _ _ _ _ _ i _ wr => ∃ j : Nat, j ≤ 5 ∧ i = .int .i64 j ∧ Hid (Below wL.heap.size wL wr)) (fun _ _ _ _ _ _ _ _ _ _ _ _ _ _ i _ _ => 5 - (intOf i).toNat)
      case atStart => exact ⟨0, Nat.zero_le _, rfl, HL0⟩
      case round =>
        obtain ⟨j, hj, rfl, HB⟩ := hrel
        obtain ⟨wo, hwo⟩ : ∃ wo, wo = wr := ⟨_, rfl⟩
        subst hwo
        clear HL0
        by_cases hlt : j < 5
        · obtain ⟨hcx, X, hsx, hxl, hxv⟩ := HJ.out j hlt
          obtain ⟨ax, cx, hvx, _⟩ := id hsx
          rw [hvx] at hcx hsx
          have t0 : wo.cell? ⟨A2, j, none⟩ = some (.slice ax X.length cx) := by rw [HB.out.cell (p := ⟨A2, j, none⟩) (cell_lt hcx)]; exact hcx
          have hjl : (j : Int) < 5 := by omega
          have HX := Lib.hid (fun W (b : Below wL.heap.size wL W) => hsx.below (Nat.le_refl _) b)
          have HXL3 := Lib.hid hxl
          obtain ⟨nX, hnX⟩ : ∃ n, X.length = n := ⟨_, rfl⟩
          rw [hnX] at t0 HX
          obtain ⟨q, hq⟩ : ∃ q, wo.heap.size = q := ⟨_, rfl⟩
          have hal : Below wo.heap.size wo (wo.alloc (.cells #[.slice aZ N cZ, .slice ao no co, .slice al nl cl, .slice (some ⟨bl, ol, none⟩) N cL, .slice sra srn src] 23)) := (Below.refl _ _).alloc (Nat.le_refl _) _
          have HBz := Lib.hid (HB.out.trans (hal.mono HB.out.size))
          have HZCz := Lib.hid (HZC.out wo q hq)
          have HQQ := Lib.hid hq
          clear hcx hsx hxl hxv hvx hnX hal hq HB
          go_wp2_with fail
          rw [HQQ.out]
          clear t0
          generalize wo.alloc (.cells #[.slice aZ N cZ, .slice ao no co, .slice al nl cl, .slice (some ⟨bl, ol, none⟩) N cL, .slice sra srn src] 23) = wz at *
          have HW0 : Hid (Below wz.heap.size wz wz) := Below.refl _ _
          go_loopw [27, 28, 29, 30, 31, 32, 33, 34, 35, 146] (fun _ _ _ _ _ _ _ _ _ i wr => ∃ t : Nat, t ≤ 5 ∧ i = .int .i64 t ∧ Hid (Below wz.heap.size wz wr)) (fun _ _ _ _ _ _ _ _ _ i _ => 5 - (intOf i).toNat)
          case atStart => exact ⟨0, Nat.zero_le _, rfl, HW0⟩
          case round =>
            obtain ⟨t, ht, rfl, HWz⟩ := hrel
            have HBr := Lib.hid (HBz.out.trans (HWz.out.mono HBz.out.size))
            by_cases hlt2 : t < 5
            · obtain ⟨Z, hsz, hzl, hzv⟩ := HZV.out t hlt2
              have hcz := HZCz.out t hlt2
              obtain ⟨az, cz, hvz, _⟩ := id hsz
              rw [hvz] at hcz hsz
              have t0 : wr.cell? ⟨q, t, none⟩ = some (.slice az Z.length cz) := by rw [HWz.out.cell (p := ⟨q, t, none⟩) (cell_lt hcz)]; exact hcz
              have htl : (t : Int) < 5 := by omega
              have HZ := Lib.hid (fun W (b : Below wL.heap.size wL W) => hsz.below (Nat.le_refl _) b)
              obtain ⟨nZ, hnZ⟩ : ∃ n, Z.length = n := ⟨_, rfl⟩
              rw [hnZ] at t0 HZ
              have HWS : Hid (wz.heap.size ≤ wr.heap.size) := HWz.out.size
              obtain ⟨c0, c1, c2⟩ : wr.cell? ⟨gp, 0, none⟩ = some (.int .i64 p) ∧ wr.cell? ⟨gp, 1, none⟩ = some (.int .i64 ((K : Int) + 1)) ∧ wr.cell? ⟨gp, 2, none⟩ = some (.int .i64 (N : Int)) := ⟨(HSTW.out wr HBr.out).pl.c0, (HSTW.out wr HBr.out).pl.c1, (HSTW.out wr HBr.out).pl.c2⟩
              have HA1 := Lib.hid (HAP.out wr _ _ X Z HBr.out (HX.out wr HBr.out) (HZ.out wr HBr.out))
              have HA2 := Lib.hid (fun W (b : Below wL.heap.size wL W) => HAR.out W _ _ X Z (HX.out W b) (HZ.out W b))
              obtain ⟨EA, hEA⟩ : ∃ E, apE p ((K : Int) + 1) (N : Int) X Z = E := ⟨_, rfl⟩
              obtain ⟨DA, hDA⟩ : ∃ D, apR p ((K : Int) + 1) (N : Int) X Z = D := ⟨_, rfl⟩
              rw [hEA, hDA] at HA1 HA2
              have e1 : (EA != EA) = false := by simp
              clear hcz hsz hzl hzv hvz hnZ hEA hDA
              go_wp2_with fail
              clear t0
              refine HA1.out.mono ?_
              rintro e w20 ⟨vA, rfl, hnA, hb⟩
              have HB20 := Lib.hid (HBr.out.trans (hb.mono HBr.out.size))
              have HW20 := Lib.hid (HWz.out.trans (hb.mono HWS.out))
              have HNA := Lib.hid hnA.shares
              have c0 := (HSTW.out w20 HB20.out).pl.c0
              have c1 := (HSTW.out w20 HB20.out).pl.c1
              have c2 := (HSTW.out w20 HB20.out).pl.c2
              clear hnA hb HA1
              go_wp2_with fail
              refine (HA2.out w20 HB20.out).mono ?_
              rintro e w21 ⟨vB, rfl, hnB, hb⟩
              have HB21 := Lib.hid (HB20.out.trans (hb.mono HB20.out.size))
              have HW21 := Lib.hid (HW20.out.trans (hb.mono HW20.out.size))
              have HNA := Lib.hid (HNA.out.below (Nat.le_refl _) hb)
              have HNB := Lib.hid hnB.shares
              have c0 := (HSTW.out w21 HB21.out).pl.c0
              have c1 := (HSTW.out w21 HB21.out).pl.c1
              have c2 := (HSTW.out w21 HB21.out).pl.c2
              have hal : Below w21.heap.size w21 (w21.alloc (.cells #[.slice ax nX cx, .slice az nZ cz, .slice aZ N cZ] 23)) := (Below.refl _ _).alloc (Nat.le_refl _) _
              have HBa := Lib.hid (HB21.out.trans (hal.mono HB21.out.size))
              have HS1 := Lib.hid (HSP.out _ _ [X, Z, Z0] HBa.out (lists_three (HX.out w21 HB21.out) (HZ.out w21 HB21.out) (HZ0.out.below (Nat.le_refl _) HB21.out) rfl))
              have HALa := Lib.hid hal
              obtain ⟨ES, hES⟩ : ∃ E, (sumR p ((K : Int) + 1) (N : Int) [X, Z, Z0]).1 = E := ⟨_, rfl⟩
              obtain ⟨DS, hDS⟩ : ∃ D, (sumR p ((K : Int) + 1) (N : Int) [X, Z, Z0]).2 = D := ⟨_, rfl⟩
              have HS2 := Lib.hid (fun W (b : Below wL.heap.size wL W) => HSR.out (W.alloc (.cells #[.slice ax nX cx, .slice az nZ cz, .slice aZ N cZ] 23)) _ [X, Z, Z0] (b.trans (((Below.refl W.heap.size W).alloc (Nat.le_refl _) _).mono b.size)) (lists_three (HX.out W b) (HZ.out W b) (HZ0.out.below (Nat.le_refl _) b) rfl) (by have := HXL3.out; show X.length < 1000; omega))
              rw [hES, hDS] at HS1 HS2
              have e2 : (ES != ES) = false := by simp
              clear hnB hb HA2 hal hES hDS
              go_wp2_with fail
              refine HS1.out.mono ?_
              rintro e w22 ⟨vC, rfl, hnC, hb⟩
              have hb2 := HALa.out.trans (hb.mono (by simp))
              have HB22 := Lib.hid (HB21.out.trans (hb2.mono HB21.out.size))
              have HW22 := Lib.hid (HW21.out.trans (hb2.mono HW21.out.size))
              have HNA := Lib.hid (HNA.out.below (Nat.le_refl _) hb2)
              have HNB := Lib.hid (HNB.out.below (Nat.le_refl _) hb2)
              have HNC := Lib.hid hnC.shares
              have c0 := (HSTW.out w22 HB22.out).pl.c0
              have c1 := (HSTW.out w22 HB22.out).pl.c1
              have c2 := (HSTW.out w22 HB22.out).pl.c2
              have HALb : Hid (Below w22.heap.size w22 (w22.alloc (.cells #[.slice ax nX cx, .slice az nZ cz, .slice aZ N cZ] 23))) := (Below.refl _ _).alloc (Nat.le_refl _) _
              have HS3 := Lib.hid (HS2.out w22 HB22.out)
              clear hnC hb hb2 HS1 HS2 HALa HBa
              go_wp2_with fail
              refine HS3.out.mono ?_
              rintro e w23 ⟨vD, rfl, hnD, hb⟩
              have hb2 := HALb.out.trans (hb.mono (by simp))
              have HB23 := Lib.hid (HB22.out.trans (hb2.mono HB22.out.size))
              have HW23 := Lib.hid (HW22.out.trans (hb2.mono HW22.out.size))
              have HNA := Lib.hid (HNA.out.below (Nat.le_refl _) hb2)
              have HNB := Lib.hid (HNB.out.below (Nat.le_refl _) hb2)
              have HNC := Lib.hid (HNC.out.below (Nat.le_refl _) hb2)
              have HND := Lib.hid hnD.shares
              obtain ⟨ck, hck⟩ : ∃ b, chkB p ((K : Int) + 1) (N : Int) Z = b := ⟨_, rfl⟩
              have HC1 := Lib.hid (fun W (b : Below wL.heap.size wL W) => HCP.out W _ Z b (HZ.out W b))
              have HC2 := Lib.hid (fun W (b : Below wL.heap.size wL W) => HCR.out W _ Z (HZ.out W b))
              rw [hck] at HC1 HC2
              have e3 : (ck != ck) = false := by simp
              have HBD : Hid (Below wL.heap.size wL w23.drew) := HB23.out.trans (((Below.refl w23.heap.size w23).drew).mono HB23.out.size)
              have HWD : Hid (Below wz.heap.size wz w23.drew) := HW23.out.trans (((Below.refl w23.heap.size w23).drew).mono HW23.out.size)
              have HCE : Hid (∀ W, Below wL.heap.size wL W → W.cell? ⟨gp, 0, none⟩ = some (.int .i64 p) ∧ W.cell? ⟨gp, 1, none⟩ = some (.int .i64 ((K : Int) + 1)) ∧ W.cell? ⟨gp, 2, none⟩ = some (.int .i64 (N : Int))) := fun W b => ⟨(HSTW.out W b).pl.c0, (HSTW.out W b).pl.c1, (HSTW.out W b).pl.c2⟩
              have HSM1 : Hid (Calls Tryd.prog 20 #[vA, vB] w23.drew fun e w' => e = .returned (.bool true) ∧ Below w23.drew.heap.size w23.drew w') := sameS_yes vA vB DA w23.drew HNA.out HNB.out
              have HSM2 : Hid (∀ W, Below w23.drew.heap.size w23.drew W → Calls Tryd.prog 20 #[vC, vD] W fun e w' => e = .returned (.bool true) ∧ Below W.heap.size W w') := fun W b => sameS_yes vC vD DS W ((show Shares w23.drew vC DS from HNC.out).below (Nat.le_refl _) b) ((show Shares w23.drew vD DS from HND.out).below (Nat.le_refl _) b)
              clear hnD hb hb2 HS3 HALb hck c0 c1 c2 HNA HNB HNC HND
              have c0 := (HCE.out w23 HB23.out).1
              have c1 := (HCE.out w23 HB23.out).2.1
              have c2 := (HCE.out w23 HB23.out).2.2
              go_wp2_with fail
              clear c0 c1 c2
              have HSK := HCE.out w23.drew HBD.out
              go_region_held3 (fun W' => W'.cell? ⟨gp, 0, none⟩ = some (.int .i64 p) ∧ W'.cell? ⟨gp, 1, none⟩ = some (.int .i64 ((K : Int) + 1)) ∧ W'.cell? ⟨gp, 2, none⟩ = some (.int .i64 (N : Int))) (first | go_keep | exact HSK)
                (first
                  | (go_at_call 20; with_reducible refine HSM1.out.mono ?_; rintro e w24 ⟨rfl, hb⟩; have HB24 := Lib.hid (HBD.out.trans (hb.mono HBD.out.size)); have HW24 := Lib.hid (HWD.out.trans (hb.mono HWD.out.size)); have HV24 := Lib.hid hb; have HSK := HCE.out w24 HB24.out; clear hb)
                  | (go_at_call 20; with_reducible refine (HSM2.out w24 HV24.out).mono ?_; rintro e w25 ⟨rfl, hb⟩; have HB25 := Lib.hid (HB24.out.trans (hb.mono HB24.out.size)); have HW25 := Lib.hid (HW24.out.trans (hb.mono HW24.out.size)); have HSK := HCE.out w25 HB25.out; clear hb)
                  | (go_at_call 27; refine (HC1.out w25 HB25.out).mono ?_; rintro e w26 ⟨rfl, hb⟩; have HB26 := Lib.hid (HB25.out.trans (hb.mono HB25.out.size)); have HW26 := Lib.hid (HW25.out.trans (hb.mono HW25.out.size)); have HSK := HCE.out w26 HB26.out; clear hb)
                  | (go_at_call 28; refine (HC2.out w26 HB26.out).mono ?_; rintro e w27 ⟨rfl, hb⟩; have HW27 := Lib.hid (HW26.out.trans (hb.mono HW26.out.size)); have HB27 := Lib.hid (HB26.out.trans (hb.mono HB26.out.size)); have HSK := HCE.out w27 HB27.out; clear hb))
              all_goals
                clear HSK
                go_wp2_with fail
                go_roundw
                case rel => exact ⟨t + 1, by omega, by go_num, HW27⟩
                case measure => simp [intOf]; omega
            · obtain rfl : t = 5 := by omega
              obtain ⟨c0, c1, c2⟩ : wr.cell? ⟨gp, 0, none⟩ = some (.int .i64 p) ∧ wr.cell? ⟨gp, 1, none⟩ = some (.int .i64 ((K : Int) + 1)) ∧ wr.cell? ⟨gp, 2, none⟩ = some (.int .i64 (N : Int)) := ⟨(HSTW.out wr HBr.out).pl.c0, (HSTW.out wr HBr.out).pl.c1, (HSTW.out wr HBr.out).pl.c2⟩
              have hal : Below wr.heap.size wr (wr.alloc (.cells #[.slice ax nX cx] 23)) := (Below.refl _ _).alloc (Nat.le_refl _) _
              have HBa := Lib.hid (HBr.out.trans (hal.mono HBr.out.size))
              have HS1 := Lib.hid (HSP.out _ _ [X] HBa.out (lists_one (HX.out wr HBr.out) rfl))
              have HALa := Lib.hid hal
              obtain ⟨ES, hES⟩ : ∃ E, (sumR p ((K : Int) + 1) (N : Int) [X]).1 = E := ⟨_, rfl⟩
              obtain ⟨DS, hDS⟩ : ∃ D, (sumR p ((K : Int) + 1) (N : Int) [X]).2 = D := ⟨_, rfl⟩
              have HS2 := Lib.hid (fun W (b : Below wL.heap.size wL W) => HSR.out (W.alloc (.cells #[.slice ax nX cx] 23)) _ [X] (b.trans (((Below.refl W.heap.size W).alloc (Nat.le_refl _) _).mono b.size)) (lists_one (HX.out W b) rfl) (by have := HXL3.out; show X.length < 1000; omega))
              rw [hES, hDS] at HS1 HS2
              have e2 : (ES != ES) = false := by simp
              clear hal hES hDS HWz
              go_wp2_with fail
              refine HS1.out.mono ?_
              rintro e w22 ⟨vC, rfl, hnC, hb⟩
              have hb2 := HALa.out.trans (hb.mono (by simp))
              have HB22 := Lib.hid (HBr.out.trans (hb2.mono HBr.out.size))
              have HNC := Lib.hid hnC.shares
              have c0 := (HSTW.out w22 HB22.out).pl.c0
              have c1 := (HSTW.out w22 HB22.out).pl.c1
              have c2 := (HSTW.out w22 HB22.out).pl.c2
              have HALb : Hid (Below w22.heap.size w22 (w22.alloc (.cells #[.slice ax nX cx] 23))) := (Below.refl _ _).alloc (Nat.le_refl _) _
              have HS3 := Lib.hid (HS2.out w22 HB22.out)
              clear hnC hb hb2 HS1 HS2 HALa HBa
              go_wp2_with fail
              refine HS3.out.mono ?_
              rintro e w23 ⟨vD, rfl, hnD, hb⟩
              have hb2 := HALb.out.trans (hb.mono (by simp))
              have HB23 := Lib.hid (HB22.out.trans (hb2.mono HB22.out.size))
              have HNC := Lib.hid (HNC.out.below (Nat.le_refl _) hb2)
              have HND := Lib.hid hnD.shares
              clear hnD hb hb2 HS3 HALb c0 c1 c2
              go_wp2_with fail
              refine (sameS_yes vC vD DS w23 HNC.out HND.out).mono ?_
              rintro e w24 ⟨rfl, hb⟩
              have HB24 := Lib.hid (HB23.out.trans (hb.mono HB23.out.size))
              clear hb
              go_wp2_with fail
              go_roundw
              case rel => exact ⟨j + 1, by omega, by go_num, HB24⟩
              case measure => simp [intOf]; omega
        · obtain rfl : j = 5 := by omega
          obtain ⟨c0, c1, c2⟩ : wo.cell? ⟨gp, 0, none⟩ = some (.int .i64 p) ∧ wo.cell? ⟨gp, 1, none⟩ = some (.int .i64 ((K : Int) + 1)) ∧ wo.cell? ⟨gp, 2, none⟩ = some (.int .i64 (N : Int)) := ⟨(HSTW.out wo HB.out).pl.c0, (HSTW.out wo HB.out).pl.c1, (HSTW.out wo HB.out).pl.c2⟩
          have HS1 := Lib.hid (HSP.out wo _ [] HB.out (lists_nil wo))
          rw [show (sumR p ((K : Int) + 1) (N : Int) []).1 = 5 from rfl] at HS1
          go_wp2_with fail
          refine HS1.out.mono ?_
          rintro e w22 ⟨vC, rfl, hnC, hb⟩
          have HB22 := Lib.hid (HB.out.trans (hb.mono HB.out.size))
          clear hnC hb HS1 c0 c1 c2
          go_wp2_with fail
          refine (awake8_any w22 (HSTW.out w22 HB22.out).wh).mono ?_
          rintro e w23 ⟨rfl, hb⟩
          have HB23 := Lib.hid (HB22.out.trans (hb.mono HB22.out.size))
          have HBF := Lib.hid (HB1.out.trans ((HSTW.out w23 HB23.out).be.mono HGG.out))
          clear hb
          go_wp2
          go_ret
          exact ⟨rfl, HBF.out⟩
end Go.Proofs.YtgdclefnfjbbdaaDoor
