
/- The walk through RefreshKeeps. -/
import Derived.Test.YtgdclefnfjbbdaaDoorJKm
import Derived.Deep.RegionHeld3
namespace Go.Proofs.YtgdclefnfjbbdaaDoor
open Go.RowKit Go.Sort
open Num
set_option linter.unusedVariables false

theorem Lw.sub {w0 W : World} {b gp : Nat} {s : Value} {l : List Int} {p k n : Int} {G G' : List (Value × List Int)} {M M' : List (Value × List Shr)} (h : Lw w0 W b gp s l p k n G M) (hG : ∀ x ∈ G', x ∈ G) (hM : ∀ x ∈ M', x ∈ M) : Lw w0 W b gp s l p k n G' M' :=
  ⟨h.st, fun x hx => h.g x (hG x hx), fun x hx => h.m x (hM x hx)⟩
theorem SecV.fit {p k n : Int} {K N : Nat} {S : List Int} {f : Nat → List Int} {V : Int → List Int} (h : SecV p K S f V) (hp : planB p k n = true) (hk : k = (K : Int)) (hn : n = (N : Int)) (hm : S.length ≤ 2048) : fitB p k n (rowL N V) = true :=
  fitB_on hp hk hn h.gd hm h.on
set_option maxRecDepth 100000 in
set_option maxHeartbeats 16000000 in
theorem refreshKeeps_walk (s : Value) (l : List Int) (w : World) (hw : Wheel w) (hs : Ints w s l) :
    Calls Tryd.prog 4 #[s] w fun e w' => e = .returned (.bool true) ∧ Below w.heap.size w w' := by
  have HL := Lib.hid (light_any s l w hs)
  have HAW := Lib.hid (awake8_any w hw)
  obtain ⟨g, hg⟩ : ∃ g, w.heap.size = g := ⟨_, rfl⟩
  have hd0 := dice_new hs
  have hta : 0 < g := by rw [← hg]; exact hw.size
  obtain ⟨bl, hbl⟩ : ∃ b, decide ((l.length : Int) ≤ 500) = b := ⟨_, rfl⟩
  rw [hbl] at HL
  have HR := Lib.hid (roll_any s w (by obtain ⟨a, c, h, _⟩ := hs; exact ⟨a, _, c, h⟩))
  rw [hg] at HR hd0
  rw [hg]
  have HW0 := Lib.hid (hw.below hw.size ((Below.refl w.heap.size w).alloc (Nat.le_refl _) (.cells #[s, .int .i64 0] 59)))
  have HB0 : Hid (Below g w (w.alloc (.cells #[s, .int .i64 0] 59))) := by rw [← hg]; exact (Below.refl _ _).alloc (Nat.le_refl _) _
  have HD0 := Lib.hid hd0
  clear hd0 hw hs hbl
  cases bl with
  | false =>
    go_enter Tryd.func4, Tryd.ntmps4
    go_wp2_with fail
    refine HL.out.mono ?_
    rintro e w' ⟨rfl, rfl⟩
    go_wp2_with fail
    refine HAW.out.mono ?_
    rintro e w' ⟨rfl, hb⟩
    rw [hg] at hb
    have HB := Lib.hid hb
    clear hb
    go_wp2
    go_ret
    exact ⟨rfl, HB.out⟩
  | true =>
    go_enter Tryd.func4, Tryd.ntmps4
    go_wp2_with fail
    refine HL.out.mono ?_
    rintro e w' ⟨rfl, rfl⟩
    go_wp2_with fail
    refine HR.out.mono ?_
    rintro e w1 ⟨rfl, rfl⟩
    generalize w.alloc (.cells #[s, .int .i64 0] 59) = w1 at *
    go_wp2_with fail
    refine (prime_any g s l w1 HD0.out).mono ?_
    rintro e w2 ⟨p, hprm, hp2, rfl, hd2, hb2⟩
    have HPRM := Lib.hid hprm
    have hpp : 2 ≤ p := by have := hprm.1; omega
    have HP2 := Lib.hid hp2
    have HD2 := Lib.hid hd2
    have HB2 := Lib.hid (HB0.out.trans (hb2.below (Nat.le_refl _) (Nat.le_of_lt HD0.out.size)))
    have HW2 := Lib.hid (HW0.out.below hta (hb2.below (Nat.le_refl _) (Nat.le_of_lt HD0.out.size)))
    clear hb2 hd2 hprm HD0 HB0 HW0 HL HR
    go_wp2_with fail
    refine (plan_any g s l p w2 HD2.out hpp (by omega)).mono ?_
    rintro e w3 ⟨k, n, rfl, hk1, hkn, hn7, hnp, hd3, hb3⟩
    have hplb : planB p k n = true := planB_of HPRM.out (by have := HP2.out; omega) hk1 hkn (by omega) hnp
    obtain ⟨K, hK⟩ := Int.eq_ofNat_of_zero_le (show 0 ≤ k - 1 by omega)
    obtain ⟨N, rfl⟩ := Int.eq_ofNat_of_zero_le (show 0 ≤ n by omega)
    obtain rfl : k = (K : Int) + 1 := by omega
    have HQ : Hid (Pf p K N) := ⟨HPRM.out, by have := HP2.out; omega, hplb, ⟨by omega, by omega⟩, hnp⟩
    have hb3' := hb3.below (Nat.le_refl _) (Nat.le_of_lt HD2.out.size)
    have hg3 : g < w3.heap.size := hd3.size
    have hST : StL w (w3.alloc (.cells #[.int .i64 p, .int .i64 ((K : Int) + 1), .int .i64 (N : Int)] 30)) g w3.heap.size s l p ((K : Int) + 1) (N : Int) := by
      have hal : Below w3.heap.size w3 (w3.alloc (.cells #[.int .i64 p, .int .i64 ((K : Int) + 1), .int .i64 (N : Int)] 30)) := (Below.refl _ _).alloc (Nat.le_refl _) _
      exact ⟨hd3.below hal hg3, planAt_new _ _ _ _ _, (HW2.out.below hta hb3').below (by omega) hal, (HB2.out.trans hb3').trans (hal.mono (by omega)), hg3, by simp, hta⟩
    have HST := Lib.hid hST
    clear hST hb3 hb3' hg3 hd3 HB2 HW2 HD2 hK hk1 hkn hn7 hnp hp2 hplb HPRM HP2 hpp
    unfold planV
    go_wp2_with fail
    obtain ⟨gp, hgp⟩ : ∃ gp, w3.heap.size = gp := ⟨_, rfl⟩
    rw [hgp] at HST ⊢
    generalize w3.alloc (.cells #[.int .i64 p, .int .i64 ((K : Int) + 1), .int .i64 (N : Int)] 30) = w4 at *
    clear hgp
    have HX4 : Hid (Lw w w4 g gp s l p ((K : Int) + 1) (N : Int) [] []) := ⟨HST.out, fun x hx => by simp at hx, fun x hx => by simp at hx⟩
    have c0 := HST.out.pl.c0
    have c1 := HST.out.pl.c1
    have c2 := HST.out.pl.c2
    have HDE := Lib.hid (HX4.out.dealt HQ.out 2 (by omega))
    clear HST
    go_wp2_with fail
    refine HDE.out.mono ?_
    rintro e w5 ⟨v1, v2, S, R, rfl, hS1, hS3, hSE, hX5⟩
    have HX5 := Lib.hid hX5
    have HSS : Hid (1 ≤ S.length ∧ S.length ≤ 2) := ⟨hS1, hS3⟩
    have HSE := Lib.hid hSE
    have HSVL := Lib.hid (secV_deal (K := K) (r := R) HQ.out.p1 hSE)
    have hg5 := hX5.getG (v := v1) (z := S) (by simp)
    have hn5 := hX5.getM (v := v2) (L := rowL N (dealV p K S R)) (by simp)
    obtain ⟨aS, cS, rfl⟩ := hg5.shape
    obtain ⟨aL, cL, rfl, _, _⟩ := hn5.shape
    rw [rowL_len] at HX5 ⊢
    obtain ⟨c, hc⟩ : ∃ c, S.length = c := ⟨_, rfl⟩
    have HCC := Lib.hid hc
    rw [hc] at HX5 ⊢
    obtain ⟨c0, c1, c2⟩ := HX5.out.cells
    clear hX5 hS1 hS3 hSE hg5 hn5 hc HDE HX4
    obtain ⟨Z, hZ⟩ : ∃ Z, c * K = Z := ⟨_, rfl⟩
    have hc2 : c ≤ 2 := by rw [← HCC.out]; exact HSS.out.2
    have hzb : Z ≤ 1000000 := by
      have h1 : c * K ≤ 2 * 7 := Nat.mul_le_mul hc2 (by have := HQ.out.kn; omega)
      omega
    have HTL : Hid ((List.replicate c (0 : Int)).length = c) := by show _ = _; rw [List.length_replicate]
    have HRN : Hid (∀ W, Calls Tryd.prog 17 #[.agg #[.int .i64 p, .int .i64 ((K : Int) + 1), .int .i64 (N : Int)], .int .i64 (c : Int)] W fun e w' => e = .returned (.int .i64 (Z : Int)) ∧ Below W.heap.size W w') := fun W => by
      have hr := ref6_random p ((K : Int) + 1) (N : Int) c W (by omega) (by have := HQ.out.kn; omega) (by omega)
      rw [show (c : Int) * ((K : Int) + 1 - 1) = (Z : Int) by rw [← hZ, Int.add_sub_cancel]; push_cast; rfl] at hr
      exact hr
    have HZR : Hid (∀ W vr R, Wheel W → Slc W vr R → R.length = Z → Els p R → Calls Tryd.prog 19 #[.agg #[.int .i64 p, .int .i64 ((K : Int) + 1), .int .i64 (N : Int)], .int .i64 (c : Int), vr] W fun e w' => ∃ v, e = .returned (.tuple #[v, .int .i64 0]) ∧ SharesN w' W.heap.size v (rowL N (dealV p K (List.replicate c 0) R)) ∧ Below W.heap.size W w') := fun W vr R hW hr hR hE => by
      have hx := refresh_zero p ((K : Int) + 1) (N : Int) (c : Int) vr R W hW HQ.out.wf (by omega) hr (by omega)
      have hk := zero_ok (p := p) (k := (K : Int) + 1) (n := (N : Int)) (c := (c : Int)) (K := K) (N := N) (C := c) (r := R) HQ.out.pl (by omega) rfl rfl (by omega) hE (by rw [hR, hZ])
      rw [hk.1, hk.2] at hx
      exact hx
    have HCK : Hid (∀ W z U, Wheel W → Shares W z (rowL N U) → Zer p (K + 1) c U → Calls Tryd.prog 27 #[.agg #[.int .i64 p, .int .i64 ((K : Int) + 1), .int .i64 (N : Int)], z] W fun e w' => e = .returned (.bool true) ∧ Below W.heap.size W w') := fun W z U hW hz hu => by
      obtain ⟨f, hf⟩ := hu
      have hx := refresh_checks p ((K : Int) + 1) (N : Int) z _ W hW HQ.out.wf hz
      rw [chk_row (K := K + 1) HQ.out.pl (by push_cast; rfl) rfl hf (by rw [HTL.out]; omega), show (List.replicate c (0 : Int)).all (· == 0) = true from List.all_eq_true.2 fun x hx => by rw [List.eq_of_mem_replicate hx]; rfl] at hx
      exact hx
    have HDZ : Hid (∀ R, Zer p (K + 1) c (dealV p K (List.replicate c 0) R)) := fun R => ⟨_, secV_deal (K := K) (r := R) HQ.out.p1 (els_zeroL HQ.out.p1 c)⟩
    clear hZ
    go_wp2_with fail
    refine (HX5.out.next 3 (by omega) (by omega)).mono ?_
    rintro e w6 ⟨r, r0, r1, rfl, hX6⟩
    obtain ⟨T, hT⟩ := Int.eq_ofNat_of_zero_le (show 0 ≤ 1 + r by omega)
    have hwr : IntKind.i64.wrap (1 + r) = (T : Int) := by rw [IntKind.wrap_i64]; omega
    have hT3 : T ≤ 3 := by omega
    have HI0 : Hid (∃ f V, SecV p (K + 1) S f V ∧ Lw w w6 g gp s l p ((K : Int) + 1) (N : Int) [(.slice aS c cS, S)] [(.slice aL N cL, rowL N V)]) := ⟨_, _, HSVL.out, hX6⟩
    clear hX6 HX5 c0 c1 c2 r0 r1 hT
    go_wp2_with fail
    clear hwr
    go_loopw [6, 7, 8, 9, 10, 11, 12, 13, 35] (fun v _ _ _ _ _ _ _ i wr => ∃ t : Nat, t ≤ T ∧ i = .int .i64 t ∧ Hid (∃ f V, SecV p (K + 1) S f V ∧ Lw w wr g gp s l p ((K : Int) + 1) (N : Int) [(.slice aS c cS, S)] [(v, rowL N V)])) (fun _ _ _ _ _ _ _ _ i _ => T - (intOf i).toNat)
    case atStart => exact ⟨0, Nat.zero_le _, rfl, HI0⟩
    case round =>
      obtain ⟨t, ht, rfl, HI⟩ := hrel
      clear HI0
      obtain ⟨f, V, hsv, hx⟩ := HI.out
      obtain ⟨aV, cV, rfl, _, _⟩ := (hx.getM (v := u6) (L := rowL N V) (by simp)).shape
      rw [rowL_len] at hx ⊢
      have HSV := Lib.hid hsv
      have HX := Lib.hid hx
      clear hsv hx HI
      obtain ⟨wo, hwo⟩ : ∃ wo, wo = wr := ⟨_, rfl⟩
      subst hwo
      by_cases hlt : t < T
      · go_wp2_with fail
        refine (next_any g s l 3 wo HX.out.st.di (by omega) (by omega)).mono ?_
        rintro e w8 ⟨r2, r20, r21, rfl, hd8, hb8⟩
        obtain ⟨T2, hT2⟩ := Int.eq_ofNat_of_zero_le (show 0 ≤ 1 + r2 by omega)
        have hwr : IntKind.i64.wrap (1 + r2) = (T2 : Int) := by rw [IntKind.wrap_i64]; omega
        have hT23 : 1 ≤ T2 ∧ T2 ≤ 3 := by omega
        have HK0 : Hid (Kw wo w8 g s l (.slice none 0 0) (([] : List (Int → List Int)).map (rowL N))) := ⟨hb8, hd8, gathL_nil _ _⟩
        have HGO : Hid (g < wo.heap.size) := HX.out.st.di.size
        have HLW : Hid (∀ W u LL, Kw wo W g s l u LL → Lw w W g gp s l p ((K : Int) + 1) (N : Int) [(.slice aS c cS, S)] [(.slice aV N cV, rowL N V)]) := fun W u LL h => HX.out.but h.but h.di
        have HZE : Hid (∀ U ∈ ([] : List (Int → List Int)), Zer p (K + 1) c U) := fun U hU => by simp at hU
        clear hd8 hb8 r20 r21 hT2
        go_wp2_with fail
        clear hwr
        go_loopw [7, 8, 9, 40] (fun u _ _ i wq => ∃ (j : Nat) (Us : List (Int → List Int)), j ≤ T2 ∧ i = .int .i64 j ∧ Hid (Us.length = j) ∧ Hid (∀ U ∈ Us, Zer p (K + 1) c U) ∧ Hid (Kw wo wq g s l u (Us.map (rowL N)))) (fun _ _ _ i _ => T2 - (intOf i).toNat)
        case atStart => exact ⟨0, [], Nat.zero_le _, rfl, rfl, HZE, HK0⟩
        case round =>
          obtain ⟨j, Us, hj, rfl, HUL, HZU, HK⟩ := hrel
          clear HK0 HZE
          by_cases hlt2 : j < T2
          · have HKD : Hid (Kw wo wr.drew g s l u7 (Us.map (rowL N))) := HK.out.below (Below.refl _ _).drew
            obtain ⟨c0, c1, c2⟩ := (HLW.out _ _ _ HK.out).cells
            go_wp2_with fail
            clear c0 c1 c2
            have HSK := (HLW.out _ _ _ HKD.out).cells
            go_region_held3 (fun W' => W'.cell? ⟨gp, 0, none⟩ = some (.int .i64 p) ∧ W'.cell? ⟨gp, 1, none⟩ = some (.int .i64 ((K : Int) + 1)) ∧ W'.cell? ⟨gp, 2, none⟩ = some (.int .i64 (N : Int))) (first | go_keep | exact HSK)
              (first
                | (go_at_call 17; refine (HRN.out wr.drew).mono ?_; rintro e w11 ⟨rfl, hb⟩; have HK11 := Lib.hid (HKD.out.below hb); have HSK := (HLW.out _ _ _ HK11.out).cells; clear hb)
                | (go_at_call 16; refine (dice_elements g s l p Z w11 HK11.out.di HQ.out.p1 HQ.out.p2 hzb).mono ?_; rintro e w12 ⟨v12, R2, rfl, hrl, hre, hrg, hd, hb⟩; have HK12 := Lib.hid (HK11.out.buts HGO.out hb hd); have HSK := (HLW.out _ _ _ HK12.out).cells; have HRL := Lib.hid hrl; have HRE := Lib.hid hre; have HRG := Lib.hid (hrg.slc (by omega)); clear hd hb hrl hre hrg)
                | (go_at_call 19; refine (HZR.out w12 v12 R2 (HLW.out _ _ _ HK12.out).st.wh HRG.out HRL.out HRE.out).mono ?_; rintro e w13 ⟨v13, rfl, hn, hb⟩; have HK13 := Lib.hid (HK12.out.below hb); have HSK := (HLW.out _ _ _ HK13.out).cells; have HN13 := Lib.hid hn; clear hn hb))
            obtain ⟨aZ, cZ, rfl, _, _⟩ := HN13.out.shape
            rw [rowL_len] at HN13 ⊢
            have HLT := Lib.hid (HK12.out.gl.lt)
            have HOB : Hid (wo.heap.size ≤ w12.heap.size) := HK12.out.but.size
            obtain ⟨c0, c1, c2⟩ := (HLW.out _ _ _ HK13.out).cells
            obtain ⟨U, hU⟩ : ∃ U, dealV p K (List.replicate c 0) R2 = U := ⟨_, rfl⟩
            have HUZ : Hid (Zer p (K + 1) c U) := by have := HDZ.out R2; rw [hU] at this; exact this
            rw [hU] at HN13
            clear HSK HKD HK11 HK12 HK HRG hU
            go_wp2_with fail
            refine (HCK.out w13 _ U (HLW.out _ _ _ HK13.out).st.wh HN13.out.shares HUZ.out).mono ?_
            rintro e w14 ⟨rfl, hb⟩
            have HK14 := Lib.hid (HK13.out.below hb)
            have HN14 := Lib.hid (HN13.out.below hb (Nat.le_refl _))
            have hal : Below w14.heap.size w14 (w14.alloc (.cells #[.slice aZ N cZ] 23)) := (Below.refl _ _).alloc (Nat.le_refl _) _
            have HK15 := Lib.hid (HK14.out.below hal)
            have HP15 : Hid (SharesP (w14.alloc (.cells #[.slice aZ N cZ] 23)) (fun q => wo.heap.size ≤ q ∧ u7.ownBlock ≠ some q) (.slice aZ N cZ) (rowL N U)) :=
              (HN14.out.below hal (Nat.le_refl _)).toP fun q h1 h2 => ⟨by have := HOB.out; omega, fun e => by have := (HLT.out q e).2; omega⟩
            have HC15 := Lib.hid (cell_alloc_new w14 (.slice aZ N cZ) 23 _ rfl)
            have HW15 : Hid (wo.heap.size ≤ (w14.alloc (.cells #[.slice aZ N cZ] 23)).heap.size) := HK15.out.but.size
            clear hb hal HK13 HN13 HN14 c0 c1 c2
            go_wp2_with (at_builtin; refine append_lists _ rfl _ _ rfl wo.heap.size u7 (Us.map (rowL N)) (.slice aZ N cZ) (rowL N U) rfl HK15.out.gl w14.heap.size rfl HC15.out HP15.out ?c1 HW15.out ?_)
            case c1 => rw [List.length_map, HUL.out]; omega
            intro v' w' hg hb
            have HK16 : Hid (Kw wo w' g s l v' ((Us ++ [U]).map (rowL N))) := ⟨HK15.out.but.above hb (Nat.le_refl _), HK15.out.di.below hb HGO.out, by rw [List.map_append]; exact hg⟩
            have HZ16 : Hid (∀ X ∈ Us ++ [U], Zer p (K + 1) c X) := fun X hX => by
              rcases List.mem_append.1 hX with h | h
              · exact HZU.out X h
              · rw [List.mem_singleton.1 h]; exact HUZ.out
            have HL16 : Hid ((Us ++ [U]).length = j + 1) := by show _ = _; rw [List.length_append, HUL.out]; rfl
            clear hg hb HK15 HK14 HP15 HC15 HW15
            go_wp2
            go_roundw
            case rel => exact ⟨j + 1, Us ++ [U], by omega, by go_num, HL16, HZ16, HK16⟩
            case measure => simp [intOf]; omega
          · obtain rfl : j = T2 := by omega
            obtain ⟨U', hsum, hzer⟩ := sum_many (p := p) (k := (K : Int) + 1) (n := (N : Int)) (N := N) HQ.out.pl rfl (by omega) Us (fun e => by have := HUL.out; rw [e] at this; simp at this; omega) HZU.out
            have HXS := Lib.hid (HLW.out _ _ _ HK.out)
            have HLS := Lib.hid (HK.out.gl.lists (by rw [List.length_map, HUL.out]; omega))
            have HSM := Lib.hid hsum
            have HZE := Lib.hid hzer
            obtain ⟨c0, c1, c2⟩ := HXS.out.cells
            obtain ⟨aU, cU, rfl⟩ := HK.out.gl.shape
            generalize (Us.map (rowL N)).length = nU at *
            clear hsum hzer HK HLW
            go_wp2_with fail
            refine (HXS.out.sum HQ.out HLS.out HSM.out).mono ?_
            rintro e w16 ⟨v16, rfl, hX⟩
            have HX16 := Lib.hid hX
            obtain ⟨aC, cC, rfl, _, _⟩ := (hX.getM (v := v16) (L := rowL N U') (by simp)).shape
            rw [rowL_len] at HX16 ⊢
            obtain ⟨c0, c1, c2⟩ := HX16.out.cells
            obtain ⟨gz, hgz⟩ := HZE.out
            have HGZ := Lib.hid hgz
            have hadd := HSV.out.add HQ.out.p1 hgz (by rw [HTL.out, HCC.out])
            rw [lin_zero HQ.out.p1 HSE.out (by rw [HTL.out, HCC.out]) (fun x hx => List.eq_of_mem_replicate hx)] at hadd
            have HADD := Lib.hid hadd
            clear hX hgz hadd HXS HLS
            go_wp2_with fail
            refine (HX16.out.apply HQ.out (v := .slice aV N cV) (z := .slice aC N cC) (V := V) (U := U') (by simp) (by simp) HSV.out HGZ.out (by rw [HTL.out, HCC.out]) (by rw [HCC.out]; omega)).mono ?_
            rintro e w17 ⟨v17, rfl, hX⟩
            have HX17 := Lib.hid hX
            obtain ⟨aD, cD, rfl, _, _⟩ := (hX.getM (v := v17) (L := rowL N (addV p V U')) (by simp)).shape
            rw [rowL_len] at HX17 ⊢
            obtain ⟨c0, c1, c2⟩ := HX17.out.cells
            have hall : (List.replicate c (0 : Int)).all (· == 0) = true := List.all_eq_true.2 fun x hx => by rw [List.eq_of_mem_replicate hx]; rfl
            have HALL := Lib.hid hall
            clear hX HX16 hall
            go_wp2_with fail
            refine (HX17.out.checks HQ.out (z := .slice aC N cC) (U := U') (by simp) HGZ.out (by rw [HTL.out]; omega) HALL.out).mono ?_
            rintro e w18 ⟨rfl, hX⟩
            have HX18 := Lib.hid hX
            obtain ⟨c0, c1, c2⟩ := hX.cells
            clear hX HX17
            go_wp2_with fail
            refine (HX18.out.fits HQ.out (z := .slice aD N cD) (L := rowL N (addV p V U')) (by simp) (HADD.out.fit (k := (K : Int) + 1) (n := (N : Int)) HQ.out.pl (by push_cast; rfl) rfl (by rw [HCC.out]; omega))).mono ?_
            rintro e w19 ⟨rfl, hX⟩
            have HI9 : Hid (∃ f V, SecV p (K + 1) S f V ∧ Lw w w19 g gp s l p ((K : Int) + 1) (N : Int) [(.slice aS c cS, S)] [(.slice aD N cD, rowL N V)]) := ⟨_, _, HADD.out, hX.sub (fun x hx => by simpa using hx) (fun x hx => by simp at hx; simp [hx])⟩
            clear hX HX18 c0 c1 c2
            go_wp2_with fail
            go_roundw
            case rel => exact ⟨t + 1, by omega, by go_num, HI9⟩
            case measure => simp [intOf]; omega
      · obtain rfl : t = T := by omega
        have HXD := Lib.hid HX.out.drew
        obtain ⟨c0, c1, c2⟩ := HX.out.cells
        have HTU := Lib.hid (HXD.out.turn HQ.out (z := .slice aV N cV) (V := V) (by simp) (fun x => by rw [HSV.out.siz, HCC.out]; omega) (K + 1) (by have := HQ.out.kn; omega))
        rw [show ((K + 1 : Nat) : Int) = (K : Int) + 1 by push_cast; rfl] at HTU
        clear HRN HZR HCK HDZ
        go_wp2_with fail
        clear c0 c1 c2
        have HSK := HXD.out.cells
        go_region_held3 (fun W' => W'.cell? ⟨gp, 0, none⟩ = some (.int .i64 p) ∧ W'.cell? ⟨gp, 1, none⟩ = some (.int .i64 ((K : Int) + 1)) ∧ W'.cell? ⟨gp, 2, none⟩ = some (.int .i64 (N : Int))) (first | go_keep | exact HSK)
          (first
            | (go_at_call 22; refine HTU.out.mono ?_; rintro e w20 ⟨v20, L2, m, rfl, hpm, hm1, hm2, hX⟩; have HX20 := Lib.hid hX; have HSK := hX.cells; have HCB := Lib.hid (HSV.out.turn (p := p) (k := (K : Int) + 1) (n := (N : Int)) HQ.out.pl (by push_cast; rfl) rfl (by rw [HCC.out]; omega) hpm (show K + 1 ≤ m by have := HQ.out.kn; omega) hm2); clear hX hpm hm1 hm2)
            | (go_at_call 31; refine (HX20.out.combine HQ.out (z := v20) (L := L2.take m) (S := S) (by simp) HCB.out).mono ?_; rintro e w21 ⟨v21, rfl, hX⟩; have HX21 := Lib.hid hX; have HSK := hX.cells; clear hX))
        obtain ⟨aE, cE, rfl⟩ := (HX21.out.getG (v := v21) (z := S) (by simp)).shape
        rw [HCC.out] at HX21 ⊢
        clear HSK HX20 HXD HTU HX
        go_wp2_with fail
        refine (HX21.out.same (va := .slice aE c cE) (vb := .slice aS c cS) (A := S) (by simp) (by simp) (by rw [HCC.out]; omega)).mono ?_
        rintro e w22 ⟨rfl, rfl⟩
        go_wp2_with fail
        refine HX21.out.awake.mono ?_
        rintro e w23 ⟨rfl, hb⟩
        have HB := Lib.hid hb
        clear hb
        go_wp2
        go_ret
        exact ⟨rfl, HB.out⟩
end Go.Proofs.YtgdclefnfjbbdaaDoor
