
/- The walk through ShareDeals. -/
import Derived.Test.YtbfkkdbniallnaaDoorHAny
namespace Go.Proofs.YtbfkkdbniallnaaDoor
open Go.RowKit Go.Sort
open Num
set_option linter.unusedVariables false

theorem Wheel.but {w w' : World} {b : Nat} (h : Wheel w) (k : But b w w') (hb : 0 < b) (hs : b ≤ w.heap.size) : Wheel w' := h.below hb (k.below (Nat.le_refl _) hs)
theorem But.lower {b : Nat} {w w' : World} (h : But b w w') : Below b w w' ∨ w.heap.size < b := by
  by_cases hb : b ≤ w.heap.size
  · exact .inl (h.below (Nat.le_refl _) hb)
  · exact .inr (by omega)
theorem dealR_len (p k n : Int) (s r : List Int) : (dealR p k n s r).length ≤ 16 := by
  unfold dealR
  by_cases h : dealE p k n s r = 0
  · rw [if_pos h, dealF_len]
    unfold dealE at h
    by_cases h2 : planB p k n = true
    · obtain ⟨_, _, _, _, h5, _⟩ := planB_parts h2
      omega
    · rw [if_neg h2] at h; cases h
  · rw [if_neg h]; simp
/-- What ShareDeals keeps. -/
structure DlA (w0 W : World) (g0 g : Nat) (s : Value) (l : List Int) (p0 k0 n0 : Int) (vs vr : Value) (S R : List Int) : Prop where
  di : DiceAt W g s l
  pl : PlanR W g0 p0 k0 n0
  wh : Wheel W
  be : Below g0 w0 W
  lt : g0 < g
  ta : 0 < g0
  hs : Slc W vs S
  hr : Slc W vr R
  ns : ∀ q, vs.ownBlock = some q → q ≠ g
  nr : ∀ q, vr.ownBlock = some q → q ≠ g
theorem DlA.but {w0 W W' : World} {g0 g : Nat} {s : Value} {l : List Int} {p k n : Int} {vs vr : Value} {S R : List Int} (h : DlA w0 W g0 g s l p k n vs vr S R) (b : But g W W') (hd : DiceAt W' g s l) : DlA w0 W' g0 g s l p k n vs vr S R := by
  have h1 := h.di.size
  have h2 := h.lt
  have h3 := h.ta
  have hb : Below g W W' := b.below (Nat.le_refl _) (Nat.le_of_lt h1)
  exact ⟨hd, h.pl.but b (by omega), h.wh.below (by omega) hb, h.be.trans (hb.mono (by omega)), h.lt, h.ta, h.hs.but b h.ns, h.hr.but b h.nr, h.ns, h.nr⟩
theorem DlA.below {w0 W W' : World} {g0 g : Nat} {s : Value} {l : List Int} {p k n : Int} {vs vr : Value} {S R : List Int} (h : DlA w0 W g0 g s l p k n vs vr S R) (b : Below W.heap.size W W') : DlA w0 W' g0 g s l p k n vs vr S R :=
  h.but (But.of_below b (Nat.le_refl _)) (h.di.below b h.di.size)
theorem DlA.alloc {w0 W : World} {g0 g : Nat} {s : Value} {l : List Int} {p k n : Int} {vs vr : Value} {S R : List Int} (h : DlA w0 W g0 g s l p k n vs vr S R) (o : Obj) : DlA w0 (W.alloc o) g0 g s l p k n vs vr S R :=
  h.below ((Below.refl _ _).alloc (Nat.le_refl _) o)

set_option maxRecDepth 100000 in
set_option maxHeartbeats 8000000 in
theorem shareDeals_walkF (F : Sh) (s : Value) (l : List Int) (p0 k0 n0 : Int) (vs vr : Value) (S R : List Int) (w : World) (hw : Wheel w) (hs : Ints w s l) (hp0 : (Lit.int .i64 p0).wf = true) (hvs : Slc w vs S) (hvr : Slc w vr R) (hbs : ∀ q, vs.ownBlock = some q → q < w.heap.size) (hbr : ∀ q, vr.ownBlock = some q → q < w.heap.size) :
    Calls Tryd.prog 3 #[s, planV p0 k0 n0, vs, vr] w fun e w' => e = .returned (.bool true) ∧ Below w.heap.size w w' := by
  obtain ⟨g0, hg0⟩ : ∃ g, w.heap.size = g := ⟨_, rfl⟩
  obtain ⟨aS, cS, rfl, hcS, hcS2, hiS⟩ := id hvs
  obtain ⟨aR, cR, rfl, hcR, hcR2, hiR⟩ := id hvr
  obtain ⟨nS, hnS⟩ : ∃ nS, S.length = nS := ⟨_, rfl⟩
  obtain ⟨nR, hnR⟩ : ∃ nR, R.length = nR := ⟨_, rfl⟩
  have hmS : nS ≤ 140737488355328 := by rw [← hnS]; obtain ⟨_, _, _, h, _⟩ := hiS; exact h
  have hmR : nR ≤ 140737488355328 := by rw [← hnR]; obtain ⟨_, _, _, h, _⟩ := hiR; exact h
  rw [hnS] at hvs hbs ⊢
  rw [hnR] at hvr hbr ⊢
  unfold planV
  obtain ⟨w1, hw1⟩ : ∃ w1, w.alloc (Obj.cells #[Value.int IntKind.i64 p0, Value.int IntKind.i64 k0, Value.int IntKind.i64 n0] 24) = w1 := ⟨_, rfl⟩
  have hb1 : Below g0 w w1 := by rw [← hw1, ← hg0]; exact (Below.refl _ _).alloc (Nat.le_refl _) _
  have hP0 : PlanR w1 g0 p0 k0 n0 := by rw [← hw1, ← hg0]; exact planR_new w p0 k0 n0 _
  have hz1 : w1.heap.size = g0 + 1 := by rw [← hw1, ← hg0]; simp
  have hta : 0 < g0 := by rw [← hg0]; exact hw.size
  have hwx : Wheel w1 := hw.below (B := g0) hta hb1
  have HW1 := Lib.hid hwx
  have hs1 := hs.below (Nat.le_of_eq hg0) hb1
  have HL := Lib.hid (light_any s l w1 hs1)
  have HAW := Lib.hid (awake6_any F w1 HW1.out)
  obtain ⟨bl, hbl⟩ : ∃ b, decide ((l.length : Int) ≤ 500) = b := ⟨_, rfl⟩
  rw [hbl] at HL
  have hr := roll_any s w1 (by obtain ⟨a, c, h, _⟩ := hs1; exact ⟨a, _, c, h⟩)
  rw [hz1] at hr
  obtain ⟨g, hg⟩ : ∃ g, g0 + 1 = g := ⟨_, rfl⟩
  rw [hg] at hr
  have HR := Lib.hid hr
  have HD0 : Hid (DiceAt (w1.alloc (.cells #[s, .int .i64 0] 69)) g s l) := by rw [← hg, ← hz1]; exact dice_new hs1
  have HB1 := Lib.hid hb1
  have HP0 := Lib.hid hP0
  have HPW := Lib.hid hp0
  have HVS := Lib.hid (hvs.below (Nat.le_of_eq hg0) hb1)
  have HVR := Lib.hid (hvr.below (Nat.le_of_eq hg0) hb1)
  have HBS := Lib.hid hbs
  have HBR := Lib.hid hbr
  have HZ1 := Lib.hid hz1
  have HGG := Lib.hid hg
  have HNS := Lib.hid hnS
  have HNR := Lib.hid hnR
  rw [hg0]
  clear hw hs hs1 hbl hb1 hP0 hz1 hp0 hvs hvr hbs hbr hiS hiR hr hwx hg
  by_cases hbad : bl = true ∧ nS ≤ 20 ∧ nR ≤ 60
  · obtain ⟨rfl, h20, h60⟩ := hbad
    have q1 : decide ((20 : Int) < (nS : Int)) = false := decide_eq_false (by omega)
    have q2 : decide ((60 : Int) < (nR : Int)) = false := decide_eq_false (by omega)
    go_enter Tryd.func3, Tryd.ntmps3
    go_wp2_with fail
    refine HL.out.mono ?_
    rintro e w' ⟨rfl, rfl⟩
    go_wp2_with fail
    refine HR.out.mono ?_
    rintro e w2 ⟨rfl, rfl⟩
    clear HL HR
    have HB2 : Hid (Below g0 w (w1.alloc (.cells #[s, .int .i64 0] 69))) := HB1.out.alloc (by have := HZ1.out; omega) _
    have HAL : Hid (Below w1.heap.size w1 (w1.alloc (.cells #[s, .int .i64 0] 69))) := (Below.refl _ _).alloc (Nat.le_refl _) _
    generalize w1.alloc (.cells #[s, .int .i64 0] 69) = w2 at *
    have hgg : g0 < g := by have := HGG.out; omega
    have hz1g : w1.heap.size = g := by have := HZ1.out; have := HGG.out; omega
    have HW2 : Hid (Wheel w2) := HW1.out.below (B := g) (by omega) (by rw [hz1g] at HAL; exact HAL.out)
    have HP2 : Hid (PlanR w2 g0 p0 k0 n0) := HP0.out.below (B := g) (by rw [hz1g] at HAL; exact HAL.out) hgg
    have HVS2 := Lib.hid (HVS.out.below (Nat.le_refl _) HAL.out)
    have HVR2 := Lib.hid (HVR.out.below (Nat.le_refl _) HAL.out)
    have HA2 : Hid (DlA w w2 g0 g s l p0 k0 n0 (.slice aS nS cS) (.slice aR nR cR) S R) := ⟨HD0.out, HP2.out, HW2.out, HB2.out, hgg, hta, HVS2.out, HVR2.out, fun q hq => by have := HBS.out q hq; omega, fun q hq => by have := HBR.out q hq; omega⟩
    clear HAL hw1 HP0 HVS HVR HB1 hz1g HD0 HP2 HW2 HB2 HVS2 HVR2 HBS HBR HW1
    go_wp2_with fail
    refine (anyPlan_any g s l w2 HA2.out.di).mono ?_
    rintro e w3 ⟨pA, kA, nA, rfl, hpA, hd3, hb3⟩
    have HA3 := Lib.hid (HA2.out.but hb3 hd3)
    have HPA := Lib.hid hpA
    unfold planV
    obtain ⟨qA, hqA⟩ : ∃ q, w3.heap.size = q := ⟨_, rfl⟩
    have HA4 := Lib.hid (HA3.out.alloc (.cells #[.int .i64 pA, .int .i64 kA, .int .i64 nA] 24))
    have HQA : Hid (PlanR (w3.alloc (.cells #[.int .i64 pA, .int .i64 kA, .int .i64 nA] 24)) qA pA kA nA) := by rw [← hqA]; exact planR_new w3 pA kA nA _
    have HGA : Hid (g < qA) := by rw [← hqA]; exact HA3.out.di.size
    clear hd3 hb3 HA2 HA3 hpA
    go_wp2_with fail
    clear hqA
    generalize w3.alloc (.cells #[.int .i64 pA, .int .i64 kA, .int .i64 nA] 24) = w4 at *
    refine (prime_any g s l w4 HA4.out.di).mono ?_
    rintro e w5 ⟨p, hprm, hp2, rfl, hd5, hb5⟩
    have HA5 := Lib.hid (HA4.out.but hb5 hd5)
    have HQA5 := Lib.hid (HQA.out.but hb5 (by have := HGA.out; omega))
    have HPRM := Lib.hid hprm
    have hpp : 2 ≤ p := by have := hprm.1; omega
    have HP2 := Lib.hid hp2
    clear hd5 hb5 hprm hp2 HA4 HQA
    go_wp2_with fail
    refine (plan_any g s l p w5 HA5.out.di hpp (by have := HP2.out; omega)).mono ?_
    rintro e w6 ⟨k, n, rfl, hk1, hkn, hn7, hnp, hd6, hb6⟩
    have HA6 := Lib.hid (HA5.out.but hb6 hd6)
    have HQA6 := Lib.hid (HQA5.out.but hb6 (by have := HGA.out; omega))
    have HKN := Lib.hid (show 1 ≤ k ∧ k ≤ n ∧ n ≤ 7 ∧ n < p from ⟨hk1, hkn, hn7, hnp⟩)
    unfold planV
    obtain ⟨qP, hqP⟩ : ∃ q, w6.heap.size = q := ⟨_, rfl⟩
    have HA7 := Lib.hid (HA6.out.alloc (.cells #[.int .i64 p, .int .i64 k, .int .i64 n] 24))
    have HQP7 : Hid (PlanR (w6.alloc (.cells #[.int .i64 p, .int .i64 k, .int .i64 n] 24)) qP p k n) := by rw [← hqP]; exact planR_new w6 p k n _
    have HQA7 : Hid (PlanR (w6.alloc (.cells #[.int .i64 p, .int .i64 k, .int .i64 n] 24)) qA pA kA nA) := HQA6.out.below ((Below.refl w6.heap.size w6).alloc (Nat.le_refl _) _) HQA6.out.lt
    have HGP : Hid (g < qP) := by rw [← hqP]; exact HA6.out.di.size
    clear hd6 hb6 HA5 HA6 HQA5 HQA6 hk1 hkn hn7 hnp
    go_wp2_with fail
    clear hqP
    generalize w6.alloc (.cells #[.int .i64 p, .int .i64 k, .int .i64 n] 24) = w7 at *
    have HAD : Hid (DlA w w7.drew g0 g s l p0 k0 n0 (.slice aS nS cS) (.slice aR nR cR) S R) := HA7.out.below (Below.refl _ _).drew
    have HQPD : Hid (PlanR w7.drew qP p k n) := HQP7.out
    have HQAD : Hid (PlanR w7.drew qA pA kA nA) := HQA7.out
    have c0 := HQP7.out.c0
    have hpm : p ≤ 1073741824 := by have := HP2.out; omega
    have hp1 : 1 ≤ p := by omega
    clear HA7 HQP7 HQA7
    go_region_held3 (fun W' => W'.cell? ⟨qP, 0, none⟩ = some (.int .i64 p)) (first | go_keep | exact HSK)
      (first
        | (go_at_call 17; refine (next_any g s l 5 w7.drew HAD.out.di (by omega) (by omega)).mono ?_; rintro e w8 ⟨r, r0, r1, rfl, hd, hb⟩; obtain ⟨c, rfl⟩ := Int.eq_ofNat_of_zero_le r0; have HA8 := Lib.hid (HAD.out.but hb hd); have HQP8 := Lib.hid (HQPD.out.but hb (by have := HGP.out; omega)); have HQA8 := Lib.hid (HQAD.out.but hb (by have := HGA.out; omega)); have HSK := HQP8.out.c0; have HCC := Lib.hid (show c ≤ 4 by omega); clear hd hb r0 r1)
        | (go_at_call 16; refine (dice_elements g s l p c w8 HA8.out.di hp1 hpm (by have := HCC.out; omega)).mono ?_; rintro e w9 ⟨vG, G, rfl, hgl, hge, hgg9, hd, hb⟩; have HA9 := Lib.hid (HA8.out.but hb hd); have HQP9 := Lib.hid (HQP8.out.but hb (by have := HGP.out; omega)); have HQA9 := Lib.hid (HQA8.out.but hb (by have := HGA.out; omega)); have HSK := HQP9.out.c0; have HGL := Lib.hid hgl; have HGE := Lib.hid hge; have HGT := Lib.hid (hgg9.mono (Nat.succ_le_of_lt HA8.out.di.size)); clear hd hb hgl hge hgg9))
    clear HSK HAD HQPD HQAD HA8 HQP8 HQA8 c0
    have c0 := HQP9.out.c0
    have c1 := HQP9.out.c1
    have c2 := HQP9.out.c2
    have d0 := HQA9.out.c0
    have d1 := HQA9.out.c1
    have d2 := HQA9.out.c2
    have e0 := HA9.out.pl.c0
    have e1 := HA9.out.pl.c1
    have e2 := HA9.out.pl.c2
    go_wp2_with fail
    obtain ⟨aG, cG, rfl⟩ := HGT.out.shape
    rw [HGL.out] at HGT ⊢
    obtain ⟨B7, hB7⟩ : ∃ B7, w9.heap.size = B7 := ⟨_, rfl⟩
    rw [hB7]
    have hal : Below w9.heap.size w9 (w9.alloc (Obj.cells #[.int .i64 pA, .int .i64 kA, .int .i64 nA, .int .i64 p0, .int .i64 k0, .int .i64 n0, .int .i64 p, .int .i64 k, .int .i64 n] 24)) := (Below.refl _ _).alloc (Nat.le_refl _) _
    have HLA := Lib.hid (HA9.out.below hal)
    have HQL := Lib.hid (HQP9.out.below hal HQP9.out.lt)
    have HGLs := Lib.hid (HGT.out.kept hal (Nat.le_refl _))
    have hbg : g < B7 := by rw [← hB7]; exact HA9.out.di.size
    have hPC : ∀ i, i < 3 → ∃ pp kk nn : Int, (Lit.int .i64 pp).wf = true ∧ (w9.alloc (Obj.cells #[.int .i64 pA, .int .i64 kA, .int .i64 nA, .int .i64 p0, .int .i64 k0, .int .i64 n0, .int .i64 p, .int .i64 k, .int .i64 n] 24)).cell? ⟨B7, i * 3, none⟩ = some (.int .i64 pp) ∧ (w9.alloc (Obj.cells #[.int .i64 pA, .int .i64 kA, .int .i64 nA, .int .i64 p0, .int .i64 k0, .int .i64 n0, .int .i64 p, .int .i64 k, .int .i64 n] 24)).cell? ⟨B7, i * 3 + 1, none⟩ = some (.int .i64 kk) ∧ (w9.alloc (Obj.cells #[.int .i64 pA, .int .i64 kA, .int .i64 nA, .int .i64 p0, .int .i64 k0, .int .i64 n0, .int .i64 p, .int .i64 k, .int .i64 n] 24)).cell? ⟨B7, i * 3 + 2, none⟩ = some (.int .i64 nn) := fun i hi => by
      rw [← hB7]
      have : i = 0 ∨ i = 1 ∨ i = 2 := by omega
      rcases this with rfl | rfl | rfl
      · exact ⟨pA, kA, nA, HPA.out, by rw [cell_new]; rfl, by rw [cell_new]; rfl, by rw [cell_new]; rfl⟩
      · exact ⟨p0, k0, n0, HPW.out, by rw [cell_new]; rfl, by rw [cell_new]; rfl, by rw [cell_new]; rfl⟩
      · exact ⟨p, k, n, wf_small hp1 hpm, by rw [cell_new]; rfl, by rw [cell_new]; rfl, by rw [cell_new]; rfl⟩
    have hsL : B7 < (w9.alloc (Obj.cells #[.int .i64 pA, .int .i64 kA, .int .i64 nA, .int .i64 p0, .int .i64 k0, .int .i64 n0, .int .i64 p, .int .i64 k, .int .i64 n] 24)).heap.size := by rw [← hB7]; simp
    clear hal HA9 HQP9 HQA9 HGT c0 c1 c2 d0 d1 d2 e0 e1 e2 hB7
    generalize w9.alloc (Obj.cells #[.int .i64 pA, .int .i64 kA, .int .i64 nA, .int .i64 p0, .int .i64 k0, .int .i64 n0, .int .i64 p, .int .i64 k, .int .i64 n] 24) = wL at *
    have HPC : Hid (∀ W, But g wL W → ∀ i, i < 3 → ∃ pp kk nn : Int, (Lit.int .i64 pp).wf = true ∧ W.cell? ⟨B7, i * 3, none⟩ = some (.int .i64 pp) ∧ W.cell? ⟨B7, i * 3 + 1, none⟩ = some (.int .i64 kk) ∧ W.cell? ⟨B7, i * 3 + 2, none⟩ = some (.int .i64 nn)) := fun W hb i hi => by
      obtain ⟨pp, kk, nn, h1, h2, h3, h4⟩ := hPC i hi
      exact ⟨pp, kk, nn, h1, by rw [hb.cell (p := ⟨B7, i * 3, none⟩) hsL (by show B7 ≠ g; omega)]; exact h2, by rw [hb.cell (p := ⟨B7, i * 3 + 1, none⟩) hsL (by show B7 ≠ g; omega)]; exact h3, by rw [hb.cell (p := ⟨B7, i * 3 + 2, none⟩) hsL (by show B7 ≠ g; omega)]; exact h4⟩
    have HL0 : Hid (But g wL wL) := But.refl _ _
    have HDL := Lib.hid HLA.out.di
    have HGB := Lib.hid hbg
    clear hPC hsL hbg
    go_loopw [14, 16, 18, 19, 20, 21, 22, 56] (fun _ _ _ _ _ _ _ i wr => ∃ j : Nat, j ≤ 3 ∧ i = .int .i64 j ∧ Hid (But g wL wr) ∧ Hid (DiceAt wr g s l)) (fun _ _ _ _ _ _ _ i _ => 3 - (intOf i).toNat)
    case atStart => exact ⟨0, Nat.zero_le _, rfl, HL0, HDL⟩
    case round =>
      obtain ⟨j, hj, rfl, HB, HD⟩ := hrel
      have HAr := Lib.hid (HLA.out.but HB.out HD.out)
      have HQr := Lib.hid (HQL.out.but HB.out (by have := HGP.out; omega))
      have HGr := Lib.hid (HGLs.out.but HB.out (Nat.lt_succ_self g))
      by_cases hlt : j < 3
      · obtain ⟨wo, hwo⟩ : ∃ wo, wo = wr := ⟨_, rfl⟩
        subst hwo
        obtain ⟨pp, kk, nn, hwf, t0, t1, t2⟩ := HPC.out wo HB.out j hlt
        have HWF := Lib.hid hwf
        have hji : (j : Int) < 3 := by omega
        obtain ⟨qB, hqB⟩ : ∃ q, wo.heap.size = q := ⟨_, rfl⟩
        have hQB : PlanR (wo.alloc (.cells #[.int .i64 pp, .int .i64 kk, .int .i64 nn] 24)) qB pp kk nn := by rw [← hqB]; exact planR_new wo pp kk nn _
        have HQB := Lib.hid hQB
        have HA10 := Lib.hid (HAr.out.alloc (.cells #[.int .i64 pp, .int .i64 kk, .int .i64 nn] 24))
        have HB10 : Hid (But g wL (wo.alloc (.cells #[.int .i64 pp, .int .i64 kk, .int .i64 nn] 24))) := HB.out.trans (But.alloc _ _ _)
        have HGQ : Hid (g < qB) := by rw [← hqB]; exact HAr.out.di.size
        have u0 := hQB.c0
        have u1 := hQB.c1
        have u2 := hQB.c2
        clear hwf hQB
        go_wp2_with fail
        clear t0 t1 t2 u0 u1 u2 hqB
        generalize wo.alloc (.cells #[.int .i64 pp, .int .i64 kk, .int .i64 nn] 24) = w10 at *
        obtain ⟨bv, hbv⟩ : ∃ b, planB pp kk nn = b := ⟨_, rfl⟩
        have HV1 : Hid (∀ W, Wheel W → Calls Tryd.prog 18 #[.agg #[.int .i64 pp, .int .i64 kk, .int .i64 nn]] W fun e w' => e = .returned (.bool bv) ∧ Below W.heap.size W w') := fun W hW => by
          have h := F.valid pp kk nn W hW HWF.out
          rw [hbv] at h
          exact h
        have HV2 : Hid (∀ W, Calls Tryd.prog 19 #[.agg #[.int .i64 pp, .int .i64 kk, .int .i64 nn]] W fun e w' => e = .returned (.bool bv) ∧ Below W.heap.size W w') := fun W => by
          have h := ref6_valid pp kk nn W HWF.out
          rw [hbv] at h
          exact h
        clear hbv
        have HAD : Hid (DlA w w10.drew g0 g s l p0 k0 n0 (.slice aS nS cS) (.slice aR nR cR) S R) := HA10.out.below (Below.refl _ _).drew
        have HQD : Hid (PlanR w10.drew qB pp kk nn) := HQB.out
        have HBD : Hid (But g wL w10.drew) := HB10.out.trans (But.of_below (Below.refl _ _).drew (Nat.le_refl _))
        have c0 := HQB.out.c0
        have c1 := HQB.out.c1
        have c2 := HQB.out.c2
        have n1 : (bv != bv) = false := by simp
        clear HA10 HQB HB10
        go_region_held3 (fun W' => W'.cell? ⟨qB, 0, none⟩ = some (.int .i64 pp) ∧ W'.cell? ⟨qB, 1, none⟩ = some (.int .i64 kk) ∧ W'.cell? ⟨qB, 2, none⟩ = some (.int .i64 nn)) (first | go_keep | exact HSK)
          (first
            | (go_at_call 18; refine (HV1.out w10.drew HAD.out.wh).mono ?_; rintro e w11 ⟨rfl, hb⟩; have HA11 := Lib.hid (HAD.out.below hb); have HQ11 := Lib.hid (HQD.out.below hb HQD.out.lt); have HB11 := Lib.hid (HBD.out.trans (But.of_below hb (Nat.le_refl _))); have HSK := And.intro HQ11.out.c0 (And.intro HQ11.out.c1 HQ11.out.c2); clear hb)
            | (go_at_call 19; refine (HV2.out w11).mono ?_; rintro e w12 ⟨rfl, hb⟩; have HA12 := Lib.hid (HA11.out.below hb); have HQ12 := Lib.hid (HQ11.out.below hb HQ11.out.lt); have HB12 := Lib.hid (HB11.out.trans (But.of_below hb (Nat.le_refl _))); have HSK := And.intro HQ12.out.c0 (And.intro HQ12.out.c1 HQ12.out.c2); clear hb))
        clear HSK HV1 HV2 HAD HQD HBD HA11 HQ11 HB11 c0 c1 c2 n1
        go_wp2_with fail
        obtain ⟨B8, hB8⟩ : ∃ B8, w12.heap.size = B8 := ⟨_, rfl⟩
        rw [hB8]
        have hal : Below w12.heap.size w12 (w12.alloc (Obj.cells #[.slice aS nS cS, .slice aG c cG] 22)) := (Below.refl _ _).alloc (Nat.le_refl _) _
        have HAM := Lib.hid (HA12.out.below hal)
        have HQM := Lib.hid (HQ12.out.below hal HQ12.out.lt)
        have HBM := Lib.hid (HB12.out.trans (But.of_below hal (Nat.le_refl _)))
        have hg8 : g < B8 := by rw [← hB8]; exact HA12.out.di.size
        have hs8 : B8 < (w12.alloc (Obj.cells #[.slice aS nS cS, .slice aG c cG] 22)).heap.size := by rw [← hB8]; simp
        have hm0 : (w12.alloc (Obj.cells #[.slice aS nS cS, .slice aG c cG] 22)).cell? ⟨B8, 0, none⟩ = some (.slice aS nS cS) := by rw [← hB8, cell_new]; rfl
        have hm1 : (w12.alloc (Obj.cells #[.slice aS nS cS, .slice aG c cG] 22)).cell? ⟨B8, 1, none⟩ = some (.slice aG c cG) := by rw [← hB8, cell_new]; rfl
        clear hal hB8 HA12 HQ12 HB12
        generalize w12.alloc (Obj.cells #[.slice aS nS cS, .slice aG c cG] 22) = wM at *
        have HEL : Hid (∀ W, But g wM W → DiceAt W g s l → ∀ i, i < 2 → ∃ a n c LL, W.cell? ⟨B8, i, none⟩ = some (.slice a n c) ∧ LL.length = n ∧ n ≤ 20 ∧ ∀ W2, But g W W2 → DiceAt W2 g s l → Slc W2 (.slice a n c) LL) := fun W hb hd i hi => by
          have : i = 0 ∨ i = 1 := by omega
          rcases this with rfl | rfl
          · exact ⟨aS, nS, cS, S, by rw [hb.cell (p := ⟨B8, 0, none⟩) hs8 (by show B8 ≠ g; omega)]; exact hm0, HNS.out, h20, fun W2 hb2 hd2 => ((HAM.out.but hb hd).but hb2 hd2).hs⟩
          · refine ⟨aG, c, cG, G, by rw [hb.cell (p := ⟨B8, 1, none⟩) hs8 (by show B8 ≠ g; omega)]; exact hm1, HGL.out, by have := HCC.out; omega, fun W2 hb2 hd2 => ?_⟩
            have h1 := HGLs.out.but (HBM.out.trans (hb.trans hb2)) (Nat.lt_succ_self g)
            exact h1.slc (by rw [HGL.out]; have := HCC.out; omega)
        have HM0 : Hid (But g wM wM) := But.refl _ _
        have HMD := Lib.hid HAM.out.di
        have HG8 := Lib.hid hg8
        clear hm0 hm1 hs8 hg8
        go_loopw [16, 18, 19, 20, 21, 22, 69] (fun _ _ _ _ _ _ i wr => ∃ t : Nat, t ≤ 2 ∧ i = .int .i64 t ∧ Hid (But g wM wr) ∧ Hid (DiceAt wr g s l)) (fun _ _ _ _ _ _ i _ => 2 - (intOf i).toNat)
        case atStart => exact ⟨0, Nat.zero_le _, rfl, HM0, HMD⟩
        case round =>
          obtain ⟨t, ht, rfl, HBt, HDt⟩ := hrel
          by_cases hlt2 : t < 2
          · obtain ⟨wp, hwp⟩ : ∃ wp, wp = wr := ⟨_, rfl⟩
            subst hwp
            obtain ⟨aX, nX, cX, LX, m0, hlx, hx20, hslx⟩ := HEL.out wp HBt.out HDt.out t hlt2
            have HSLX := Lib.hid hslx
            have HLX := Lib.hid hlx
            have HAt := Lib.hid (HAM.out.but HBt.out HDt.out)
            have HQt := Lib.hid (HQM.out.but HBt.out (by have := HGQ.out; omega))
            have HPt := Lib.hid (HQL.out.but (HBM.out.trans HBt.out) (by have := HGP.out; omega))
            have hti : (t : Int) < 2 := by omega
            obtain ⟨K, hK⟩ := Int.eq_ofNat_of_zero_le (show 0 ≤ k - 1 by have := HKN.out; omega)
            obtain ⟨Z, hZ⟩ : ∃ Z, c * K = Z := ⟨_, rfl⟩
            have hZ2 : Z ≤ 28 := by
              have h1 : c * K ≤ 4 * 7 := Nat.mul_le_mul HCC.out (by have := HKN.out; omega)
              omega
            have hwk : IntKind.i64.wrap (k - 1) = (K : Int) := by rw [IntKind.wrap_i64]; have := HKN.out; omega
            have hwz : IntKind.i64.wrap ((c : Int) * (K : Int)) = (Z : Int) := by rw [show (c : Int) * (K : Int) = (Z : Int) by rw [← hZ]; push_cast; rfl, IntKind.wrap_i64]; omega
            have hz60 : (Z : Int) ≤ 60 := by omega
            have hz0 : (0 : Int) ≤ (Z : Int) := by omega
            have c0 := HPt.out.c0
            have c1 := HPt.out.c1
            have hEM := dice_elements g s l p Z wp HDt.out hp1 hpm (by omega)
            have HEM := Lib.hid hEM
            clear hlx hslx hZ hK hEM
            have HEM0 : Hid (¬ 0 < Z → Calls Tryd.prog 16 #[.pointer (some ⟨g, 0, none⟩), .int .i64 p, .int .i64 0] wp fun e w' => ∃ v zs, e = .returned v ∧ zs.length = Z ∧ (∀ z ∈ zs, Num.El p z) ∧ Gath w' wp.heap.size v zs ∧ DiceAt w' g s l ∧ But g wp w') := fun h => by
              have h1 := HEM.out
              rw [show (Z : Int) = 0 by have h2 := h; clear hwk hwz h1; omega] at h1
              exact h1
            by_cases hpos : 0 < Z
            all_goals
              go_wp2_with fail
              first
                | with_reducible refine HEM.out.mono ?_
                | with_reducible refine (HEM0.out hpos).mono ?_
              rintro e w13 ⟨vE, E, rfl, hel, hee, heg, hd, hb⟩
              clear hwk hwz hz60 hz0 c0 c1
              have HA13 := Lib.hid (HAt.out.but hb hd)
              have HQ13 := Lib.hid (HQt.out.but hb (by have := HGQ.out; omega))
              have HB13 := Lib.hid (HBt.out.trans hb)
              have HB13x := Lib.hid hb
              have HX13 := Lib.hid (HSLX.out w13 hb hd)
              have hES := heg.slc (by omega)
              obtain ⟨aE, cE, rfl, hcE, hcE2, hiE⟩ := hES
              have HEN : Hid (∀ q, (Value.slice aE E.length cE).ownBlock = some q → q ≠ g) := fun q hq => by have h1 := World.ownsRow.lt heg q hq; have h2 := HAt.out.di.size; omega
              have HE13 : Hid (Slc w13 (.slice aE E.length cE) E) := heg.slc (by omega)
              have HEL2 := Lib.hid hel
              rw [hel] at HEN HE13 ⊢
              clear hel hee heg hd hb hcE hcE2 hiE HEM HEM0
              obtain ⟨B9, hB9⟩ : ∃ B9, w13.heap.size = B9 := ⟨_, rfl⟩
              go_wp2_with fail
              have hal : Below w13.heap.size w13 (w13.alloc (Obj.cells #[.slice aR nR cR, .slice aE Z cE, .slice none 0 0] 22)) := (Below.refl _ _).alloc (Nat.le_refl _) _
              have HAN := Lib.hid (HA13.out.below hal)
              have HQN := Lib.hid (HQ13.out.below hal HQ13.out.lt)
              have HBN := Lib.hid (HB13.out.trans (But.of_below hal (Nat.le_refl _)))
              have HXN := Lib.hid (HX13.out.below (Nat.le_refl _) hal)
              have HENs := Lib.hid (HE13.out.below (Nat.le_refl _) hal)
              have HXB : Hid (But g wp (w13.alloc (Obj.cells #[.slice aR nR cR, .slice aE Z cE, .slice none 0 0] 22))) := HB13x.out.trans (But.of_below hal (Nat.le_refl _))
              have hg9 : g < B9 := by rw [← hB9]; exact HA13.out.di.size
              have hs9 : B9 < (w13.alloc (Obj.cells #[.slice aR nR cR, .slice aE Z cE, .slice none 0 0] 22)).heap.size := by rw [← hB9]; simp
              have hm0 : (w13.alloc (Obj.cells #[.slice aR nR cR, .slice aE Z cE, .slice none 0 0] 22)).cell? ⟨B9, 0, none⟩ = some (.slice aR nR cR) := by rw [← hB9, cell_new]; rfl
              have hm1 : (w13.alloc (Obj.cells #[.slice aR nR cR, .slice aE Z cE, .slice none 0 0] 22)).cell? ⟨B9, 1, none⟩ = some (.slice aE Z cE) := by rw [← hB9, cell_new]; rfl
              have hm2 : (w13.alloc (Obj.cells #[.slice aR nR cR, .slice aE Z cE, .slice none 0 0] 22)).cell? ⟨B9, 2, none⟩ = some (.slice none 0 0) := by rw [← hB9, cell_new]; rfl
              clear hal hB9 HA13 HQ13 HB13 HX13 HE13 HB13x
              generalize w13.alloc (Obj.cells #[.slice aR nR cR, .slice aE Z cE, .slice none 0 0] 22) = wN at *
              have HEL3 : Hid (∀ W, But g wN W → DiceAt W g s l → ∀ i, i < 3 → ∃ a n c RR, W.cell? ⟨B9, i, none⟩ = some (.slice a n c) ∧ RR.length = n ∧ n ≤ 60 ∧ Slc W (.slice a n c) RR) := fun W hb hd i hi => by
                have : i = 0 ∨ i = 1 ∨ i = 2 := by omega
                rcases this with rfl | rfl | rfl
                · exact ⟨aR, nR, cR, R, by rw [hb.cell (p := ⟨B9, 0, none⟩) hs9 (by show B9 ≠ g; omega)]; exact hm0, HNR.out, h60, (HAN.out.but hb hd).hr⟩
                · exact ⟨aE, Z, cE, E, by rw [hb.cell (p := ⟨B9, 1, none⟩) hs9 (by show B9 ≠ g; omega)]; exact hm1, HEL2.out, by omega, HENs.out.but hb HEN.out⟩
                · exact ⟨none, 0, 0, [], by rw [hb.cell (p := ⟨B9, 2, none⟩) hs9 (by show B9 ≠ g; omega)]; exact hm2, rfl, by omega, ⟨none, 0, rfl, by simp, by omega, ints_nil _⟩⟩
              have HN0 : Hid (But g wN wN) := But.refl _ _
              have HND := Lib.hid HAN.out.di
              clear hm0 hm1 hm2 hs9 hg9
              go_loopw [18, 19, 20, 21, 22, 89] (fun _ _ _ _ _ i wr => ∃ y : Nat, y ≤ 3 ∧ i = .int .i64 y ∧ Hid (But g wN wr) ∧ Hid (DiceAt wr g s l)) (fun _ _ _ _ _ i _ => 3 - (intOf i).toNat)
              case atStart => exact ⟨0, Nat.zero_le _, rfl, HN0, HND⟩
              case round =>
                obtain ⟨y, hy, rfl, HBy, HDy⟩ := hrel
                by_cases hlt3 : y < 3
                · obtain ⟨aY, nY, cY, RR, m0, hly, hy60, hsly⟩ := HEL3.out wr HBy.out HDy.out y hlt3
                  have HAy := Lib.hid (HAN.out.but HBy.out HDy.out)
                  have HQy := Lib.hid (HQN.out.but HBy.out (by have := HGQ.out; omega))
                  have hXy := HSLX.out wr (HXB.out.trans HBy.out) HDy.out
                  have hyi : (y : Int) < 3 := by omega
                  obtain ⟨ee, hee⟩ : ∃ ee, dealE pp kk nn LX RR = ee := ⟨_, rfl⟩
                  obtain ⟨LL, hLL⟩ : ∃ LL, dealR pp kk nn LX RR = LL := ⟨_, rfl⟩
                  have hll : LL.length ≤ 16 := by rw [← hLL]; exact dealR_len _ _ _ _ _
                  have HLL := Lib.hid hll
                  have hD := F.deal pp kk nn (.slice aX nX cX) (.slice aY nY cY) LX RR wr HAy.out.wh HWF.out hXy hsly (by rw [HLX.out]; omega) (by omega)
                  rw [hee, hLL] at hD
                  unfold planV at hD
                  have HDE := Lib.hid hD
                  have HXY := Lib.hid hXy.ints
                  have HSY := Lib.hid hsly
                  have HRD : Hid (∀ W, Below wr.heap.size wr W → Calls Tryd.prog 21 #[.agg #[.int .i64 pp, .int .i64 kk, .int .i64 nn], .slice aX nX cX, .slice aY nY cY] W fun e w' => ∃ v, e = .returned (.tuple #[v, .int .i64 ee]) ∧ GathS w' W.heap.size v LL ∧ Below W.heap.size W w') := fun W hb => by
                    have h := ref6_deal_any pp kk nn aX nX cX LX RR (.slice aY nY cY) W HWF.out (HXY.out.below (Nat.le_refl _) hb) HLX.out (HSY.out.below (Nat.le_refl _) hb) (by omega)
                    rw [hee, hLL] at h
                    exact h
                  have c0 := HQy.out.c0
                  have c1 := HQy.out.c1
                  have c2 := HQy.out.c2
                  have n1 : (ee != ee) = false := by simp
                  clear hXy hsly hly hll hD hee hLL
                  go_wp2_with fail
                  refine HDE.out.mono ?_
                  rintro e w14 ⟨v19, rfl, hn19, hb14⟩
                  have HQ14 := Lib.hid (HQy.out.below hb14 HQy.out.lt)
                  have HB14 := Lib.hid hb14
                  have HN19 := Lib.hid hn19
                  have c0 := HQ14.out.c0
                  have c1 := HQ14.out.c1
                  have c2 := HQ14.out.c2
                  clear hn19 hb14 m0
                  go_wp2_with fail
                  refine (HRD.out w14 HB14.out).mono ?_
                  rintro e w15 ⟨v21, rfl, hn21, hb15⟩
                  have HSM := Lib.hid (sameS_yes v19 v21 LL w15 (HN19.out.shares.below (Nat.le_refl _) hb15) (hn21.shares (by have := HLL.out; omega)))
                  have HB15 : Hid (Below wr.heap.size wr w15) := HB14.out.trans (hb15.mono HB14.out.size)
                  clear hn21 hb15 c0 c1 c2 HRD HDE
                  go_wp2_with fail
                  refine HSM.out.mono ?_
                  rintro e w16 ⟨rfl, hb16⟩
                  have hbx : Below wr.heap.size wr w16 := HB15.out.trans (hb16.mono HB15.out.size)
                  have HD16 := Lib.hid (HDy.out.below hbx HDy.out.size)
                  have HB16 : Hid (But g wN w16) := HBy.out.trans (But.of_below hbx (Nat.le_refl _))
                  clear hb16 hbx HSM
                  go_wp2
                  go_roundw
                  case rel => exact ⟨y + 1, by omega, by go_num, HB16, HD16⟩
                  case measure => simp [intOf]; omega
                · obtain rfl : y = 3 := by omega
                  have HBn : Hid (But g wM wr) := HBN.out.trans HBy.out
                  go_wp2
                  go_roundw
                  case rel => exact ⟨t + 1, by omega, by go_num, HBn, HDy⟩
                  case measure => simp [intOf]; omega
          · obtain rfl : t = 2 := by omega
            have HBn : Hid (But g wL wr) := HBM.out.trans HBt.out
            go_wp2
            go_roundw
            case rel => exact ⟨j + 1, by omega, by go_num, HBn, HDt⟩
            case measure => simp [intOf]; omega
      · obtain rfl : j = 3 := by omega
        obtain ⟨zz, hzz⟩ : ∃ zz, (c : Int) * (k - 1) = zz := ⟨_, rfl⟩
        have HR1 : Hid (∀ W, Wheel W → Calls Tryd.prog 23 #[.agg #[.int .i64 p, .int .i64 k, .int .i64 n], .int .i64 (c : Int)] W fun e w' => e = .returned (.int .i64 zz) ∧ Below W.heap.size W w') := fun W hW => by
          have h := F.random p k n c W hW (by have := HKN.out; omega) (by have := HKN.out; omega) (by have := HCC.out; omega)
          rw [hzz] at h
          exact h
        have HR2 : Hid (∀ W, Calls Tryd.prog 24 #[.agg #[.int .i64 p, .int .i64 k, .int .i64 n], .int .i64 (c : Int)] W fun e w' => e = .returned (.int .i64 zz) ∧ Below W.heap.size W w') := fun W => by
          have h := ref6_random p k n c W (by have := HKN.out; omega) (by have := HKN.out; omega) (by have := HCC.out; omega)
          rw [hzz] at h
          exact h
        obtain ⟨W0, hW0⟩ : ∃ W0, W0 = wr := ⟨_, rfl⟩
        subst hW0
        have HAD : Hid (DlA w W0.drew g0 g s l p0 k0 n0 (.slice aS nS cS) (.slice aR nR cR) S R) := HAr.out.below (Below.refl _ _).drew
        have HQD : Hid (PlanR W0.drew qP p k n) := HQr.out
        have c0 := HQr.out.c0
        have c1 := HQr.out.c1
        have c2 := HQr.out.c2
        have n1 : (zz == zz) = true := by simp
        clear hzz
        go_wp2_with fail
        go_region_held3 (fun W' => W'.cell? ⟨qP, 0, none⟩ = some (.int .i64 p) ∧ W'.cell? ⟨qP, 1, none⟩ = some (.int .i64 k) ∧ W'.cell? ⟨qP, 2, none⟩ = some (.int .i64 n)) (first | go_keep | exact HSK)
          (first
            | (go_at_call 23; refine (HR1.out W0.drew HAD.out.wh).mono ?_; rintro e w11 ⟨rfl, hb⟩; have HA11 := Lib.hid (HAD.out.below hb); have HQ11 := Lib.hid (HQD.out.below hb HQD.out.lt); have HSK := And.intro HQ11.out.c0 (And.intro HQ11.out.c1 HQ11.out.c2); clear hb)
            | (go_at_call 24; refine (HR2.out w11).mono ?_; rintro e w12 ⟨rfl, hb⟩; have HA12 := Lib.hid (HA11.out.below hb); have HQ12 := Lib.hid (HQ11.out.below hb HQ11.out.lt); have HSK := And.intro HQ12.out.c0 (And.intro HQ12.out.c1 HQ12.out.c2); clear hb)
            | (go_at_call 11; refine (awake6_any F w12 HA12.out.wh).mono ?_; rintro e w13 ⟨rfl, hb⟩; have HA13 := Lib.hid (HA12.out.below hb); have HQ13 := Lib.hid (HQ12.out.below hb HQ12.out.lt); have HSK := And.intro HQ13.out.c0 (And.intro HQ13.out.c1 HQ13.out.c2); clear hb))
        have HBF : Hid (Below g0 w w13) := HA13.out.be
        clear HSK
        go_wp2
        go_ret
        exact ⟨rfl, HBF.out⟩
  · have hcase : (bl = false) ∨ (bl = true ∧ decide ((20 : Int) < (nS : Int)) = true) ∨ (bl = true ∧ decide ((20 : Int) < (nS : Int)) = false ∧ decide ((60 : Int) < (nR : Int)) = true) := by
      cases bl with
      | false => exact .inl rfl
      | true =>
        have h2 : ¬ (nS ≤ 20 ∧ nR ≤ 60) := fun h => hbad ⟨rfl, h⟩
        by_cases h3 : 20 < nS
        · exact .inr (.inl ⟨rfl, decide_eq_true (by omega)⟩)
        · exact .inr (.inr ⟨rfl, decide_eq_false (by omega), decide_eq_true (by omega)⟩)
    clear hbad HR HD0 HVS HVR HBS HBR
    rcases hcase with rfl | ⟨rfl, q1⟩ | ⟨rfl, q1, q2⟩
    all_goals
      go_enter Tryd.func3, Tryd.ntmps3
      go_wp2_with fail
      refine HL.out.mono ?_
      rintro e w' ⟨rfl, rfl⟩
      go_wp2_with fail
      refine HAW.out.mono ?_
      rintro e w2 ⟨rfl, hb⟩
      have HBF : Hid (Below g0 w w2) := HB1.out.trans (hb.mono (by have := HZ1.out; omega))
      clear hb
      go_wp2
      go_ret
      exact ⟨rfl, HBF.out⟩
end Go.Proofs.YtbfkkdbniallnaaDoor
