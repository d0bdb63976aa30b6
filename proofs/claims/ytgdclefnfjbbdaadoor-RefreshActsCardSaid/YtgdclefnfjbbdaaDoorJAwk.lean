
/- The statements' sanity check: zeros are added, and the secret stays. -/
import Derived.Test.YtgdclefnfjbbdaaDoorJPr4
namespace Go.Proofs.YtgdclefnfjbbdaaDoor
open Go.RowKit Go.Sort
open Num
set_option linter.unusedVariables false

/-- A plan of the call's own, the table, and what was there before. -/
structure StP (w0 W : World) (g gp : Nat) (p k n : Int) : Prop where
  pl : PlanAt W gp p k n
  wh : Wheel W
  be : Below g w0 W
  lt : g ≤ gp
  sz : gp < W.heap.size
  ta : 0 < g
theorem StP.below {w0 W W' : World} {g gp : Nat} {p k n : Int} (h : StP w0 W g gp p k n) (b : Below W.heap.size W W') : StP w0 W' g gp p k n := by
  have h1 := h.lt
  have h2 := h.sz
  have h3 := h.ta
  exact ⟨h.pl.below h2 b, h.wh.below (by omega) b, h.be.trans (b.mono (by omega)), h.lt, Nat.lt_of_lt_of_le h2 b.size, h.ta⟩
theorem els_lit1 {p x : Int} (h : 0 ≤ x) (h2 : x < p) : Els p [x] := fun y hy => by
  simp at hy; subst hy; exact ⟨h, h2⟩
set_option maxRecDepth 100000 in
set_option maxHeartbeats 8000000 in
theorem awake8_any (w : World) (hw : Wheel w) : Calls Tryd.prog 10 #[] w fun e w' => e = .returned (.bool true) ∧ Below w.heap.size w w' := by
  obtain ⟨g, hg⟩ : ∃ g, w.heap.size = g := ⟨_, rfl⟩
  have hal : ∀ (W : World) (o : Obj), Below W.heap.size W (W.alloc o) := fun W o => (Below.refl _ _).alloc (Nat.le_refl _) o
  have hb1 : Below g w (w.alloc (.cells #[.int .i64 7, .int .i64 2, .int .i64 3] 30)) := by rw [← hg]; exact hal _ _
  have HS1 : Hid (StP w (w.alloc (.cells #[.int .i64 7, .int .i64 2, .int .i64 3] 30)) g g 7 2 3) := by
    refine ⟨by rw [← hg]; exact planAt_new _ _ _ _ _, hw.below (by rw [← hg]; exact hw.size) hb1, hb1, Nat.le_refl _, by simp; omega, by rw [← hg]; exact hw.size⟩
  have hpl : planB 7 2 3 = true := planB_of prm_7 (by omega) (by omega) (by omega) (by omega) (by omega)
  have hsvL : SecV 7 2 [3] (polyL 1 [3] [1]) (dealV 7 1 [3] [1]) := secV_deal (K := 1) (by omega) (els_lit1 (by omega) (by omega))
  have hsvZ : SecV 7 2 [0] (polyL 1 [0] [2]) (dealV 7 1 [0] [2]) := secV_deal (K := 1) (by omega) (els_lit1 (by omega) (by omega))
  have hzo := zero_ok (p := 7) (k := 2) (n := 3) (c := 1) (K := 1) (N := 3) (C := 1) (r := [2]) hpl rfl rfl rfl (by omega) (els_lit1 (by omega) (by omega)) rfl
  have hap := ap_row (p := 7) (k := 2) (n := 3) (K := 2) (N := 3) hpl rfl hsvL hsvZ rfl (by simp)
  have hadd := hsvL.add (by omega) hsvZ rfl
  have hlin : linF 7 [3] [0] 1 = [3] := by decide
  rw [hlin] at hadd
  have hcm := hadd.comb (k := 2) (n := 3) (N := 3) hpl rfl rfl (by simp)
  have hck := chk_row (k := 2) (n := 3) (N := 3) hpl rfl rfl hsvZ (by simp)
  rw [show ([0] : List Int).all (· == 0) = true by decide] at hck
  rw [show List.replicate 1 (0 : Int) = [0] from rfl, dealF_row] at hzo
  have HZO := Lib.hid hzo
  have HAP := Lib.hid hap
  have HCM := Lib.hid hcm
  have HCK := Lib.hid hck
  have HPL := Lib.hid hpl
  have HAL := Lib.hid hal
  rw [hg]
  clear hb1 hpl hsvL hsvZ hzo hap hadd hlin hcm hck hal hw
  go_enter Tryd.func10, Tryd.ntmps10
  go_upto_region 2 with (fail)
  generalize w.alloc (.cells #[.int .i64 7, .int .i64 2, .int .i64 3] 30) = w1 at *
  clear hg
  have c0 := HS1.out.pl.c0
  have c1 := HS1.out.pl.c1
  have c2 := HS1.out.pl.c2
  have HZ : Hid (Calls Tryd.prog 19 #[.agg #[.int .i64 7, .int .i64 2, .int .i64 3], .int .i64 1, .slice (some ⟨w1.heap.size, 0, none⟩) 1 1] (w1.alloc (.cells #[.int .i64 2] 3)) fun e w' => ∃ v, e = .returned (.tuple #[v, .int .i64 0]) ∧ SharesN w' w1.heap.size v (rowL 3 (dealV 7 1 [0] [2])) ∧ Below w1.heap.size w1 w') := by
    have h := refresh_zero 7 2 3 1 (.slice (some ⟨w1.heap.size, 0, none⟩) 1 1) [2] (w1.alloc (.cells #[.int .i64 2] 3)) (HS1.out.below (HAL.out _ _)).wh (by decide) (by omega) (slc_lit w1 2) (by simp)
    rw [HZO.out.1, HZO.out.2] at h
    exact h.mono fun e w' ⟨v, h1, h2, h3⟩ => ⟨v, h1, h2.mono (by simp), (HAL.out w1 _).trans (h3.mono (by simp))⟩
  go_wp2_with fail
  refine HZ.out.mono ?_
  rintro e w2 ⟨v2, rfl, hn2, hb2⟩
  obtain ⟨a2, d2, rfl, _⟩ := hn2.shape
  have HN2 := Lib.hid hn2
  have HS2 := Lib.hid (HS1.out.below hb2)
  have c0 := HS2.out.pl.c0
  have c1 := HS2.out.pl.c1
  have c2 := HS2.out.pl.c2
  clear hn2 hb2 HZ
  go_upto_region 3 with (fail)
  have HD : Hid (Calls Tryd.prog 33 #[.agg #[.int .i64 7, .int .i64 2, .int .i64 3], .slice (some ⟨w2.heap.size, 0, none⟩) 1 1, .slice (some ⟨w2.heap.size + 1, 0, none⟩) 1 1] ((w2.alloc (.cells #[.int .i64 3] 3)).alloc (.cells #[.int .i64 1] 3)) fun e w' => ∃ v, e = .returned (.tuple #[v, .int .i64 0]) ∧ SharesN w' w2.heap.size v (rowL 3 (dealV 7 1 [3] [1])) ∧ Below w2.heap.size w2 w') := by
    have hs1 : (w2.alloc (.cells #[.int .i64 3] 3)).heap.size = w2.heap.size + 1 := by simp
    have hl := slc_lit (w2.alloc (.cells #[.int .i64 3] 3)) 1
    rw [hs1] at hl
    have h := ref6_deal_ok 7 2 1 3 (some ⟨w2.heap.size, 0, none⟩) 1 1 [3] [1] (.slice (some ⟨w2.heap.size + 1, 0, none⟩) 1 1) ((w2.alloc (.cells #[.int .i64 3] 3)).alloc (.cells #[.int .i64 1] 3)) (by decide) rfl HPL.out ((slc_lit w2 3).ints.below (Nat.le_refl _) (HAL.out _ _)) rfl hl (by omega) (elB_of prm_7 (by omega) (els_lit1 (by omega) (by omega))) (elB_of prm_7 (by omega) (els_lit1 (by omega) (by omega))) rfl
    exact h.mono fun e w' ⟨v, h1, h2, h3⟩ => ⟨v, h1, (h2.sharesN (by rw [dealF_len]; omega)).mono (by simp; omega), ((HAL.out w2 _).trans ((HAL.out _ _).mono (by simp))).trans (h3.mono (by simp; omega))⟩
  go_wp2_with fail
  refine HD.out.mono ?_
  rintro e w3 ⟨v3, rfl, hn3, hb3⟩
  obtain ⟨a3, d3, rfl, _⟩ := hn3.shape
  have HN3 := Lib.hid hn3
  have HN2 := Lib.hid (HN2.out.below hb3 (Nat.le_refl _))
  have HS3 := Lib.hid (HS2.out.below hb3)
  have c0 := HS3.out.pl.c0
  have c1 := HS3.out.pl.c1
  have c2 := HS3.out.pl.c2
  have hA := refresh_apply 7 2 3 _ _ _ _ w3 HS3.out.wh (by decide) HN3.out.shares HN2.out.shares
  rw [HAP.out.1, HAP.out.2] at hA
  have HA := Lib.hid hA
  clear hn3 hb3 HD hA HS2
  go_wp2_with fail
  refine HA.out.mono ?_
  rintro e w4 ⟨v4, rfl, hn4, hb4⟩
  obtain ⟨a4, d4, rfl, _⟩ := hn4.shape
  have HN4 := Lib.hid hn4
  have HN2 := Lib.hid (HN2.out.below hb4 (Nat.le_refl _))
  have HS4 := Lib.hid (HS3.out.below hb4)
  have c0 := HS4.out.pl.c0
  have c1 := HS4.out.pl.c1
  have c2 := HS4.out.pl.c2
  have hC := ref6_combine_any 7 2 3 _ _ w4 (by decide) HN4.out.shares
  rw [HCM.out.1, HCM.out.2] at hC
  have HC := Lib.hid hC
  clear hn4 hb4 HA hC HS3
  go_wp2_with fail
  refine HC.out.mono ?_
  rintro e w5 ⟨v5, rfl, hg5, hb5⟩
  have hi5 := hg5.reads (by simp)
  obtain ⟨a5, d5, rfl⟩ := hi5.shape
  obtain ⟨q5, o5, rfl, x5⟩ := hi5.pos (k := 0) (by simp)
  have x5' : w5.cell? ⟨q5, o5, none⟩ = some (.int .i64 3) := x5
  have HN2 := Lib.hid (HN2.out.below hb5 (Nat.le_refl _))
  have HS5 := Lib.hid (HS4.out.below hb5)
  have c0 := HS5.out.pl.c0
  have c1 := HS5.out.pl.c1
  have c2 := HS5.out.pl.c2
  have hK := refresh_checks 7 2 3 _ _ w5 HS5.out.wh (by decide) HN2.out.shares
  rw [HCK.out] at hK
  have HK := Lib.hid hK
  have hq5 := cell_lt x5'
  have HX5 : Hid (∀ W, Below w5.heap.size w5 W → W.cell? ⟨q5, o5, none⟩ = some (.int .i64 3)) := fun W b => by rw [b.cell (p := ⟨q5, o5, none⟩) hq5]; exact x5'
  clear hg5 hi5 hb5 x5 x5' hq5 HC hK HS4
  go_wp2_with fail
  refine HK.out.mono ?_
  rintro e w6 ⟨rfl, hb6⟩
  have x6 := HX5.out w6 hb6
  have HS6 := Lib.hid (HS5.out.below hb6)
  clear hb6 c0 c1 c2
  go_wp2
  go_ret
  exact ⟨rfl, HS6.out.be⟩
end Go.Proofs.YtgdclefnfjbbdaaDoor
