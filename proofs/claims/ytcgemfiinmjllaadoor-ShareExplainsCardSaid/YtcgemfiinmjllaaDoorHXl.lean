
/- The walk of ShareExplains, upon the contracts of both sides' Explain. -/
import Derived.Test.YtcgemfiinmjllaaDoorHCbl
namespace Go.Proofs.YtcgemfiinmjllaaDoor
open Go.RowKit Go.Sort
open Num
set_option linter.unusedVariables false

theorem SharesN.bge {w : World} {base b off n c : Nat} {L : List Shr} (h : SharesN w base (.slice (some ⟨b, off, none⟩) n c) L) (hn : 0 < n) : base ≤ b := by
  obtain ⟨a, c', hv, _, _, _, hx⟩ := h
  simp only [Value.slice.injEq] at hv
  obtain ⟨rfl, rfl, rfl⟩ := hv
  obtain ⟨b', off', e, hge, _⟩ := hx (fun e => by rw [e] at hn; simp at hn)
  simp only [Option.some.injEq, Addr.mk.injEq] at e
  obtain ⟨rfl, _⟩ := e
  exact hge
def lst4 (a b c d : Value) : Nat → Value
  | 0 => a | 1 => b | 2 => c | _ => d
/-- What stands when the lists are laid. -/
structure XpS (w1 W : World) (g gp A : Nat) (s : Value) (l : List Int) (p k n : Int) (v : Value) (Y : List Int) (V : Nat → Value) : Prop where
  st : StL w1 W g gp s l p k n
  ys : Gath W (g + 1) v Y
  ar : ∀ j, j < 4 → W.cell? ⟨A, j, none⟩ = some (V j)
  la : g < A
  sa : A < W.heap.size
  ls : ∀ j, j < 4 → LstK w1 W g (V j)
theorem XpS.but {w1 W W' : World} {g gp A : Nat} {s : Value} {l : List Int} {p k n : Int} {v : Value} {Y : List Int} {V : Nat → Value} (h : XpS w1 W g gp A s l p k n v Y V) (b : But g W W') (hd : DiceAt W' g s l) : XpS w1 W' g gp A s l p k n v Y V := by
  have h2 := h.la
  refine ⟨h.st.but b hd, h.ys.but b (Nat.lt_succ_self g), fun j hj => ?_, h.la, Nat.lt_of_lt_of_le h.sa b.size, fun j hj => (h.ls j hj).but b⟩
  rw [b.cell (p := ⟨A, j, none⟩) h.sa (by show A ≠ g; omega)]
  exact h.ar j hj
theorem region_oneL {P : Program} {id : Nat} {ops : Array Oper} {d : Bool} {Q : Exit → Act → World → Prop} {a : Act} {w : World} (R : Option Addr → Nat → Nat → Nat → World → Prop) (A : Option Addr → Nat → Nat → Nat → Act) (hr : (Code.region id ops d).wp P (fun e a' W => e = .normal ∧ ∃ x n c m, a' = A x n c m ∧ R x n c m W) a w)
    (h : ∀ x n c m W, R x n c m W → Q .normal (A x n c m) W) : (Code.region id ops d).wp P Q a w :=
  Code.wp_mono (fun _ _ _ ⟨h1, x, n, c, m, h2, h3⟩ => by subst h1; subst h2; exact h x n c m _ h3) hr
def ExpP1 : Prop := ∀ (p k n : Int) (vk vs : Value) (L : List Shr) (S : List Int) (w : World), Wheel w → (Lit.int .i64 p).wf = true → Shares w vk L → Ints w vs S →
  Calls Tryd.prog 14 #[planV p k n, vk, vs] w fun e w' => ∃ v, e = .returned (.tuple #[v, .int .i64 (expE p k n L S)]) ∧ SharesN w' w.heap.size v (expR p k n L S) ∧ Below w.heap.size w w'
/-- What the document's Explain is asked: still to be shown. -/
def ExpP2 : Prop := ∀ (p k n : Int) (vk vs : Value) (L : List Shr) (S : List Int) (w : World), (Lit.int .i64 p).wf = true → Shares w vk L → Ints w vs S → S.length ≤ 1000 →
  Calls Tryd.prog 15 #[planV p k n, vk, vs] w fun e w' => ∃ v, e = .returned (.tuple #[v, .int .i64 (expE p k n L S)]) ∧ SharesN w' w.heap.size v (expR p k n L S) ∧ Below w.heap.size w w'
set_option maxRecDepth 100000 in
set_option maxHeartbeats 8000000 in
theorem shareExplains_walkF (FD : ShD) (E1 : ExpP1) (E2 : ExpP2) (s : Value) (l : List Int) (sr : Value) (R : List Shr) (vS : Value) (SS : List Int) (w : World) (hw : Wheel w) (hs : Ints w s l) (hr : SharesU w sr R) (hq : Ints w vS SS) :
    Calls Tryd.prog 3 #[s, sr, vS] w fun e w' => e = .returned (.bool true) ∧ Below w.heap.size w w' := by
  have HL := Lib.hid (light_any s l w hs)
  have HSM := Lib.hid (small_any sr R w hr)
  have HAW := Lib.hid (awake6_any FD w hw)
  obtain ⟨g0, hg0⟩ : ∃ g, w.heap.size = g := ⟨_, rfl⟩
  have hta0 : 0 < g0 := by rw [← hg0]; exact hw.size
  obtain ⟨bl, hbl⟩ : ∃ b, decide ((l.length : Int) ≤ 500) = b := ⟨_, rfl⟩
  rw [hbl] at HL
  rw [hg0] at HSM HAW ⊢
  have HWW := Lib.hid hw
  have HSS := Lib.hid hs
  have HRR := Lib.hid hr
  have HG0 := Lib.hid hg0
  obtain ⟨sra, srn, src, rfl⟩ : ∃ a n c, sr = .slice a n c := by obtain ⟨a, c, h, _⟩ := hr; exact ⟨a, _, c, h⟩
  obtain ⟨qa, qn, qc, rfl⟩ : ∃ a n c, vS = .slice a n c := by obtain ⟨a, c, h, _⟩ := hq; exact ⟨a, _, c, h⟩
  have hqn : SS.length = qn := by obtain ⟨a', c', e1⟩ := hq.shape; simp only [Value.slice.injEq] at e1; exact e1.2.1.symm
  have hqb : qn ≤ 140737488355328 := by rw [← hqn]; obtain ⟨_, _, _, h, _⟩ := hq; exact h
  have HQQ := Lib.hid hq
  have HQN := Lib.hid hqn
  clear hw hs hr hq hqn hbl hg0
  cases bl with
  | false =>
    go_enter Tryd.func3, Tryd.ntmps3
    go_wp2_with fail
    refine HL.out.mono ?_
    rintro e w' ⟨rfl, rfl⟩
    go_wp2_with fail
    refine HAW.out.mono ?_
    rintro e w' ⟨rfl, hb⟩
    have HB := Lib.hid hb
    clear hb
    go_wp2
    go_ret
    exact ⟨rfl, HB.out⟩
  | true =>
    go_enter Tryd.func3, Tryd.ntmps3
    go_wp2_with fail
    refine HL.out.mono ?_
    rintro e w' ⟨rfl, rfl⟩
    go_wp2_with fail
    refine HSM.out.mono ?_
    rintro e w1 ⟨bs, rfl, hbs, hb1⟩
    have HB1 := Lib.hid hb1
    have HW1 := Lib.hid (HWW.out.below HWW.out.size (by rw [HG0.out]; exact hb1))
    clear hb1 HL HSM
    cases bs with
    | false =>
      clear hbs
      go_wp2_with fail
      refine (awake6_any FD w1 HW1.out).mono ?_
      rintro e w' ⟨rfl, hb⟩
      have HB := Lib.hid (HB1.out.trans (hb.mono (by rw [← HG0.out]; exact (HG0.out ▸ HB1.out).size)))
      clear hb
      go_wp2
      go_ret
      exact ⟨rfl, HB.out⟩
    | true =>
      obtain ⟨hr12, hr20⟩ := hbs rfl
      by_cases hq10 : 10 < qn
      · have hq10i : (10 : Int) < (qn : Int) := by omega
        clear hbs
        go_wp2_with fail
        refine (awake6_any FD w1 HW1.out).mono ?_
        rintro e w' ⟨rfl, hb⟩
        have HB := Lib.hid (HB1.out.trans (hb.mono (by rw [← HG0.out]; exact (HG0.out ▸ HB1.out).size)))
        clear hb
        go_wp2
        go_ret
        exact ⟨rfl, HB.out⟩
      have hq10i : ¬ ((10 : Int) < (qn : Int)) := by omega
      have HQ1 := Lib.hid (HQQ.out.below (Nat.le_of_eq HG0.out) HB1.out)
      have HRL := Lib.hid (show R.length ≤ 12 ∧ ∀ x ∈ R, x.2.length ≤ 20 from ⟨hr12, hr20⟩)
      have HR1 := Lib.hid ((HRR.out.below (Nat.le_of_eq HG0.out) HB1.out).few (by omega))
      have hs1 := HSS.out.below (Nat.le_of_eq HG0.out) HB1.out
      have hd0 := dice_new hs1
      have HRO := Lib.hid (roll_any s w1 (by obtain ⟨a, c, h, _⟩ := hs1; exact ⟨a, _, c, h⟩))
      obtain ⟨g, hg⟩ : ∃ g, w1.heap.size = g := ⟨_, rfl⟩
      have hta : 0 < g := by rw [← hg]; exact HW1.out.size
      have HGG : Hid (g0 ≤ g) := by show _ ≤ _; rw [← hg, ← HG0.out]; exact (HG0.out ▸ HB1.out).size
      have HGE := Lib.hid hg
      rw [hg] at HRO hd0
      have HW0 := Lib.hid (HW1.out.below HW1.out.size ((Below.refl w1.heap.size w1).alloc (Nat.le_refl _) (.cells #[s, .int .i64 0] 49)))
      have HB0 : Hid (Below g w1 (w1.alloc (.cells #[s, .int .i64 0] 49))) := by rw [← hg]; exact (Below.refl _ _).alloc (Nat.le_refl _) _
      have HD0 := Lib.hid hd0
      clear hd0 hbs hr12 hr20 hs1 hg
      go_wp2_with fail
      refine HRO.out.mono ?_
      rintro e w2 ⟨rfl, rfl⟩
      generalize w1.alloc (.cells #[s, .int .i64 0] 49) = w2 at *
      go_wp2_with fail
      refine (prime_any g s l w2 HD0.out).mono ?_
      rintro e w3 ⟨p, hprm, hp2, rfl, hd2, hb2⟩
      have HPRM := Lib.hid hprm
      have hpp : 2 ≤ p := by have := hprm.1; omega
      have HP2 := Lib.hid hp2
      have HD2 := Lib.hid hd2
      have HB2 := Lib.hid (HB0.out.trans (hb2.below (Nat.le_refl _) (Nat.le_of_lt HD0.out.size)))
      have HW2 := Lib.hid (HW0.out.below hta (hb2.below (Nat.le_refl _) (Nat.le_of_lt HD0.out.size)))
      clear hb2 hd2 hprm HD0 HB0 HW0 HRO
      go_wp2_with fail
      refine (plan_any g s l p w3 HD2.out hpp (by omega)).mono ?_
      rintro e w4 ⟨k, n, rfl, hk1, hkn, hn7, hnp, hd3, hb3⟩
      have HPB : Hid (planB p k n = true) := planB_of HPRM.out (by have := HP2.out; omega) hk1 hkn (by omega) hnp
      obtain ⟨K, hK⟩ := Int.eq_ofNat_of_zero_le (show 0 ≤ k - 1 by omega)
      obtain ⟨N, rfl⟩ := Int.eq_ofNat_of_zero_le (show 0 ≤ n by omega)
      obtain rfl : k = (K : Int) + 1 := by omega
      have HKN : Hid (K + 1 ≤ N ∧ N ≤ 7) := ⟨by omega, by omega⟩
      have hb3' := hb3.below (Nat.le_refl _) (Nat.le_of_lt HD2.out.size)
      have hg3 : g < w4.heap.size := hd3.size
      have hST : StL w1 (w4.alloc (.cells #[.int .i64 p, .int .i64 ((K : Int) + 1), .int .i64 (N : Int)] 30)) g w4.heap.size s l p ((K : Int) + 1) (N : Int) := by
        have hal : Below w4.heap.size w4 (w4.alloc (.cells #[.int .i64 p, .int .i64 ((K : Int) + 1), .int .i64 (N : Int)] 30)) := (Below.refl _ _).alloc (Nat.le_refl _) _
        exact ⟨hd3.below hal hg3, planAt_new _ _ _ _ _, (HW2.out.below hta hb3').below (by omega) hal, (HB2.out.trans hb3').trans (hal.mono (by omega)), hg3, by simp, hta⟩
      have HST := Lib.hid hST
      unfold planV
      clear hST hb3 hb3' hg3 hd3 HB2 HW2 HD2 hK hk1 hkn hn7 hnp hp2
      go_wp2_with fail
      obtain ⟨gp, hgp⟩ : ∃ gp, w4.heap.size = gp := ⟨_, rfl⟩
      rw [hgp] at HST ⊢
      generalize w4.alloc (.cells #[.int .i64 p, .int .i64 ((K : Int) + 1), .int .i64 (N : Int)] 30) = w5 at *
      clear hgp
      have c0 := HST.out.pl.c0
      have c1 := HST.out.pl.c1
      have c2 := HST.out.pl.c2
      have hpm : p ≤ 1073741824 := by have := HP2.out; omega
      have hp1 : 1 ≤ p := by omega
      have hde := dealt_any g s l p K N 2 w5 HST.out.di HPRM.out hpm HPB.out HKN.out ⟨by omega, by omega⟩
      unfold planV at hde
      rw [show ((2 : Nat) : Int) = 2 from rfl] at hde
      have HDE := Lib.hid hde
      clear hde
      go_wp2_with fail
      refine HDE.out.mono ?_
      rintro e w6 ⟨v1, v2, S, Rr, rfl, hS1, hS3, hn6, hd6, hb6⟩
      obtain ⟨D, hD⟩ : ∃ D, dealF p K N S Rr = D := ⟨_, rfl⟩
      have hDL : D.length = N := by rw [← hD]; exact dealF_len _ _ _ _ _
      have hGD : Gd p N S.length D := by rw [← hD]; exact dealF_gd hp1 K N S Rr
      rw [hD] at hn6
      have HDL := Lib.hid hDL
      have HGD := Lib.hid hGD
      have HDB : Hid (∀ x ∈ D, x.2.length ≤ 100000) := fun x hx => by rw [hGD.len x hx]; omega
      have HDI : Hid (∀ x ∈ D, Els p x.2 ∧ x.2.length ≤ 1000000) := fun x hx => ⟨hGD.els x hx, by rw [hGD.len x hx]; omega⟩
      have HS6 := Lib.hid (HST.out.but hb6 hd6)
      have hn6' := hn6.mono (Nat.succ_le_of_lt (Nat.lt_trans HST.out.lt HST.out.sz))
      obtain ⟨aD, cD, rfl, hcD, hcD2⟩ := hn6.shape
      rw [hDL] at hcD hn6' ⊢
      have HN6 := Lib.hid hn6'
      clear hd6 hb6 hn6 hn6' hD hDL hGD HDE HST c0 c1 c2 hS1
      have c0 := HS6.out.pl.c0
      have c1 := HS6.out.pl.c1
      have c2 := HS6.out.pl.c2
      have hdn : D.length ≤ 7 := by rw [HDL.out]; have := HKN.out; omega
      have HD7 := Lib.hid hdn
      have htu := turn_any g s l (.slice aD N cD) D 0 w6 HS6.out.di HN6.out.shares HDB.out (by omega) (by omega)
      rw [show ((0 : Nat) : Int) = 0 from rfl] at htu
      have HTU := Lib.hid htu
      clear htu hdn
      go_wp2_with fail
      refine HTU.out.mono ?_
      rintro e w7 ⟨x1, L1, m1, rfl, hpm, _, hm1, hn7, hd7, hb7⟩
      have HXB : Hid (∀ x ∈ L1.take m1, x.2.length ≤ 100001) := fun x hx => Nat.le_trans (take_bound hpm HDB.out x hx) (by omega)
      have HXL : Hid ((L1.take m1).length ≤ 7) := Nat.le_trans (take_len hm1) HD7.out
      obtain ⟨T, hT⟩ : ∃ T, L1.take m1 = T := ⟨_, rfl⟩
      rw [hT] at HXB HXL hn7
      obtain ⟨ax, cx, rfl, hcx, hcx2⟩ := hn7.shape
      obtain ⟨n1, hn1⟩ : ∃ n, T.length = n := ⟨_, rfl⟩
      rw [hn1] at hn7 HXL hcx ⊢
      have HT7 := Lib.hid (hn7.mono HS6.out.di.size)
      have HN1 := Lib.hid hn1
      have HS7 := Lib.hid (HS6.out.but hb7 hd7)
      have HD7s := Lib.hid (HN6.out.but hb7 (Nat.lt_succ_self g))
      have hN0 : 0 < N := by have := HKN.out; omega
      obtain ⟨b2, o2, v2, haD, d0, d1, hi2⟩ := HD7s.out.shares.at hN0
      subst haD
      rw [Nat.zero_mul, Nat.add_zero] at d0 d1
      obtain ⟨va2, vc2, rfl⟩ := hi2.shape
      obtain ⟨m2, hm2⟩ : ∃ m, (D.getD 0 (0, [])).2.length = m := ⟨_, rfl⟩
      rw [hm2] at d1
      have hm2b : m2 ≤ 10 := by
        rw [← hm2, HGD.out.len (D.getD 0 (0, [])) (by rw [List.getD_eq_getElem?_getD, List.getElem?_eq_getElem (by rw [HDL.out]; exact hN0)]; exact List.getElem_mem _)]
        omega
      have HSD : Hid (StL w1 w7.drew g gp s l p ((K : Int) + 1) (N : Int)) := HS7.out.below ((Below.refl _ _).drew)
      have HTD : Hid (SharesN w7.drew (g + 1) (.slice ax n1 cx) T) := HT7.out
      have HDD : Hid (SharesN w7.drew (g + 1) (.slice (some ⟨b2, o2, none⟩) N cD) D) := HD7s.out
      have c0 := HS7.out.pl.c0
      have hNi : (0 : Int) < (N : Int) := by omega
      have hbge := HD7s.out.bge hN0
      have HKD : Hid (∀ W, But g w7.drew W → W.cell? ⟨b2, o2 + 1, none⟩ = some (.slice va2 m2 vc2)) := fun W hb => by rw [hb.cell (p := ⟨b2, o2 + 1, none⟩) (by have h := cell_lt d1; exact h) (by show b2 ≠ g; omega)]; exact d1
      clear hpm hm1 hn7 hd7 hb7 hT hn1 hm2 hi2 HTU HS6 HN6 HS7 HT7 HD7s d0
      go_wp2_with fail
      go_region_held3 (fun W' => W'.cell? ⟨gp, 0, none⟩ = some (.int .i64 p) ∧ W'.cell? ⟨b2, o2 + 1, none⟩ = some (.slice va2 m2 vc2)) (first | go_keep | exact HSK)
        (first
          | (go_at_call 12; refine (dice_elements g s l p m2 w7.drew HSD.out.di hp1 hpm (by omega)).mono ?_; rintro e w8 ⟨v8, Y, rfl, hyl, hye, hyg, hd, hb⟩; have HS8 := Lib.hid (HSD.out.but hb hd); have HT8 := Lib.hid (HTD.out.but hb (Nat.lt_succ_self g)); have HD8 := Lib.hid (HDD.out.but hb (Nat.lt_succ_self g)); have HSK : w8.cell? ⟨gp, 0, none⟩ = some (.int .i64 p) ∧ w8.cell? ⟨b2, o2 + 1, none⟩ = some (.slice va2 m2 vc2) := And.intro HS8.out.pl.c0 (HKD.out w8 hb); have HYL := Lib.hid hyl; have HYG := Lib.hid hyg; clear hd hb hyl hye hyg))
      have hmc : m2 = m2 := rfl
      obtain ⟨ay, cy, rfl⟩ := HYG.out.shape
      have HYI : Hid (Ints w8 (.slice ay m2 cy) Y) := by have h := HYG.out.reads (by rw [HYL.out]; omega); rw [HYL.out] at h; exact h
      rw [HYL.out]
      have HYK : Hid (Gath w8 (g + 1) (.slice ay m2 cy) Y) := by have h := HYG.out.mono HSD.out.di.size; rw [HYL.out] at h; exact h
      clear HYG HSK HSD HTD HDD c0 d1 HKD hmc
      have c1 := HS8.out.pl.c1
      obtain ⟨mm, hmm, hmn, hmk⟩ : ∃ mm : Nat, (if (K : Int) < (n1 : Int) then (K : Int) else (n1 : Int)) = (mm : Int) ∧ mm ≤ n1 ∧ mm ≤ K := by
        by_cases h : (K : Int) < (n1 : Int)
        · exact ⟨K, by rw [if_pos h], by omega, by omega⟩
        · exact ⟨n1, by rw [if_neg h], by omega, by omega⟩
      have hmin2 : ∀ (ts : Array TypeId) (t : TypeId) (W : World), (Builtin.min_ ts t #[.int .i64 (n1 : Int), .int .i64 (K : Int)]).run Tryd.prog W = .ok (.int .i64 (mm : Int)) W := fun ts t W => by
        rw [run_min_int2, hmm]
      clear hmm
      have hKw : IntKind.i64.wrap (K : Int) = (K : Int) := by rw [IntKind.wrap_i64]; have := HKN.out; omega
      have hmw : IntKind.i64.wrap (mm : Int) = (mm : Int) := by rw [IntKind.wrap_i64]; have := HKN.out; omega
      have hm0 : (0 : Int) ≤ (mm : Int) := by omega
      have hm1 : (mm : Int) ≤ (cx : Int) := by omega
      have hk0 : (0 : Int) ≤ (K : Int) := by omega
      have hKN1 : (K : Int) ≤ (cD : Int) := by have := HKN.out; omega
      have hod := odd_any g s l (.slice (some ⟨b2, o2, none⟩) K cD) (D.take K) w8.drew HS8.out.di (Shares.take (w := w8.drew) HD8.out.shares K cD (by have := HKN.out; omega) (by omega) hcD2) (fun x hx => HDB.out x (List.mem_of_mem_take hx)) (by rw [List.length_take]; have := HD7.out; omega)
      have HOD := Lib.hid hod
      have HTT := Lib.hid (HT8.out.take mm cx hmn (by omega) hcx2)
      clear hod
      go_wp2_with fail
      have HSD8 : Hid (StL w1 w8.drew g gp s l p ((K : Int) + 1) (N : Int)) := HS8.out.below ((Below.refl _ _).drew)
      have HTD8 : Hid (SharesN w8.drew (g + 1) (.slice ax n1 cx) T) := HT8.out
      have HTT8 : Hid (SharesN w8.drew (g + 1) (.slice ax mm cx) (T.take mm)) := HTT.out
      have HYK8 : Hid (Gath w8.drew (g + 1) (.slice ay m2 cy) Y) := HYK.out
      clear HS8 HT8 HD8 HTT HYI HYK
      have HX0 : Hid (∀ W, SharesN W (g + 1) (.slice ax n1 cx) T → LstK w1 W g (.slice ax n1 cx)) := fun W h => LstK.ofN h (Nat.le_refl _) (by rw [HN1.out]; have := HXL.out; omega) HXB.out
      have HX1 : Hid (∀ W, SharesN W (g + 1) (.slice ax mm cx) (T.take mm) → LstK w1 W g (.slice ax mm cx)) := fun W h => LstK.ofN h (Nat.le_refl _) (by rw [List.length_take, HN1.out]; have := HXL.out; omega) (fun x hx => HXB.out x (List.mem_of_mem_take hx))
      have HX2 : Hid (∀ W, LstK w1 W g (.slice sra srn src)) := fun W => ⟨R, .inl HR1.out, by have := HRL.out.1; omega, fun x hx => by have := HRL.out.2 x hx; omega⟩
      apply region_oneL (fun a3 n3 c3 A W => Hid (XpS w1 W g gp A s l p ((K : Int) + 1) (N : Int) (.slice ay m2 cy) Y (lst4 (.slice ax n1 cx) (.slice ax mm cx) (.slice sra srn src) (.slice a3 n3 c3))))
      case hr =>
        refine wp_region_noPanic ?_
        go_region_held3 (fun W' => W'.cell? ⟨gp, 1, none⟩ = some (.int .i64 ((K : Int) + 1))) (first | go_keep | exact HSK)
          (first
            | (go_at_call 13; refine HOD.out.mono ?_; rintro e w9 ⟨x3, rfl, L3, hn9, hl9, hv9, hd9, hb9⟩; obtain ⟨a3, c3, hx3, hc3, hc3'⟩ := hn9.shape; obtain ⟨n3, hn3⟩ : ∃ n, L3.length = n := ⟨_, rfl⟩; rw [hn3] at hx3 hc3; subst hx3; have HS9 := Lib.hid (HSD8.out.but hb9 hd9); have HSK := HS9.out.pl.c1; have HT9 := Lib.hid (HTD8.out.but hb9 (Nat.lt_succ_self g)); have HTT9 := Lib.hid (HTT8.out.but hb9 (Nat.lt_succ_self g)); have HYK9 := Lib.hid (HYK8.out.but hb9 (Nat.lt_succ_self g)); have HX9 : Hid (LstK w1 w9 g (.slice a3 n3 c3)) := (LstK.ofN hn9 HSD8.out.di.size (by rw [List.length_take] at hl9; have := HD7.out; omega) hv9); clear hn9 hl9 hv9 hd9 hb9 hn3))
        all_goals
          refine NoPanic.normal ?_
          have hal : But g w9 (w9.alloc (Obj.cells #[.slice ax n1 cx, .slice ax mm cx, .slice sra srn src, .slice a3 n3 c3] 23)) := But.alloc _ _ _
          have hxs : XpS w1 (w9.alloc (Obj.cells #[.slice ax n1 cx, .slice ax mm cx, .slice sra srn src, .slice a3 n3 c3] 23)) g gp w9.heap.size s l p ((K : Int) + 1) (N : Int) (.slice ay m2 cy) Y (lst4 (.slice ax n1 cx) (.slice ax mm cx) (.slice sra srn src) (.slice a3 n3 c3)) := by
            refine ⟨HS9.out.below ((Below.refl w9.heap.size w9).alloc (Nat.le_refl _) (Obj.cells #[.slice ax n1 cx, .slice ax mm cx, .slice sra srn src, .slice a3 n3 c3] 23)), HYK9.out.but hal (Nat.lt_succ_self g), fun j hj => ?_, HS9.out.di.size, by simp, fun j hj => ?_⟩
            · rw [cell_new]
              have : j = 0 ∨ j = 1 ∨ j = 2 ∨ j = 3 := by omega
              rcases this with rfl | rfl | rfl | rfl <;> rfl
            · have : j = 0 ∨ j = 1 ∨ j = 2 ∨ j = 3 := by omega
              rcases this with rfl | rfl | rfl | rfl
              · exact (HX0.out _ HT9.out).but hal
              · exact (HX1.out _ HTT9.out).but hal
              · exact HX2.out _
              · exact HX9.out.but hal
          obtain ⟨A, hA⟩ : ∃ A, w9.heap.size = A := ⟨_, rfl⟩
          rw [hA] at hxs ⊢
          exact ⟨rfl, a3, n3, c3, A, rfl, hxs⟩
      rintro a3 n3 c3 A wL HC
      generalize lst4 (.slice ax n1 cx) (.slice ax mm cx) (.slice sra srn src) (.slice a3 n3 c3) = V at *
      clear HSD8 HTD8 HTT8 HYK8 HOD HX0 HX1 HX2 hmin2 hKw hmw c1
      have HL0 : Hid (But g wL wL) := But.refl _ _
      have HDL0 := Lib.hid HC.out.st.di
      go_wp2_with fail
      go_loopw [14, 16, 17, 18, 19, 20, 78] (fun _ _ _ _ _ _ i wr => ∃ j : Nat, j ≤ 4 ∧ i = .int .i64 j ∧ Hid (But g wL wr) ∧ Hid (DiceAt wr g s l)) (fun _ _ _ _ _ _ i _ => 4 - (intOf i).toNat)
      case atStart => exact ⟨0, Nat.zero_le _, rfl, HL0, HDL0⟩
      case round =>
        obtain ⟨j, hj, rfl, HB, HD⟩ := hrel
        have HCr := Lib.hid (HC.out.but HB.out HD.out)
        by_cases hlt : j < 4
        · obtain ⟨wo, hwo⟩ : ∃ wo, wo = wr := ⟨_, rfl⟩
          subst hwo
          obtain ⟨X, hlx, hx100, hxl⟩ := HCr.out.ls j hlt
          have t0 := HCr.out.ar j hlt
          obtain ⟨bx, ex, hvx, hx1000, hxc, hxc2, _⟩ := id (hlx.shares HCr.out.st.be (Nat.le_of_eq HGE.out))
          rw [hvx] at hlx t0
          obtain ⟨nX, hnX⟩ : ∃ n, X.length = n := ⟨_, rfl⟩
          rw [hnX] at hlx t0 hxc hx1000
          have HLX := Lib.hid hlx
          have hjl : (j : Int) < 4 := by omega
          obtain ⟨B7, hB7⟩ : ∃ B7, wo.heap.size = B7 := ⟨_, rfl⟩
          obtain ⟨wM, hwM⟩ : ∃ W, wo.alloc (Obj.cells #[.slice ay m2 cy, .slice qa qn qc] 22) = W := ⟨_, rfl⟩
          have hbal : But g wo wM := by rw [← hwM]; exact But.alloc _ _ _
          have hdM : DiceAt wM g s l := by rw [← hwM]; exact HCr.out.st.di.below ((Below.refl wo.heap.size wo).alloc (Nat.le_refl _) (Obj.cells #[.slice ay m2 cy, .slice qa qn qc] 22)) HCr.out.st.di.size
          have HCM := Lib.hid (HCr.out.but hbal hdM)
          have HLM := Lib.hid (HLX.out.but hbal)
          have HBM := Lib.hid (HB.out.trans hbal)
          have hbg : g < B7 := by rw [← hB7]; exact HCr.out.st.di.size
          have hq0 : wM.cell? ⟨B7, 0, none⟩ = some (.slice ay m2 cy) := by rw [← hwM, ← hB7, cell_new]; rfl
          have hq1 : wM.cell? ⟨B7, 1, none⟩ = some (.slice qa qn qc) := by rw [← hwM, ← hB7, cell_new]; rfl
          have hsL : B7 < wM.heap.size := by rw [← hwM, ← hB7]; simp
          have HIX : Hid (∀ W, But g wM W → DiceAt W g s l → ∀ i, i < 2 → ∃ a n c S, W.cell? ⟨B7, i, none⟩ = some (.slice a n c) ∧ Ints W (.slice a n c) S ∧ S.length ≤ 10) := fun W hb hd i hi => by
            have hC := HCM.out.but hb hd
            have : i = 0 ∨ i = 1 := by omega
            rcases this with rfl | rfl
            · exact ⟨ay, m2, cy, Y, by rw [hb.cell (p := ⟨B7, 0, none⟩) hsL (by show B7 ≠ g; omega)]; exact hq0, hC.ys.reads (by rw [HYL.out]; omega), by rw [HYL.out]; exact hm2b⟩
            · exact ⟨qa, qn, qc, SS, by rw [hb.cell (p := ⟨B7, 1, none⟩) hsL (by show B7 ≠ g; omega)]; exact hq1, HQ1.out.below (Nat.le_of_eq HGE.out) hC.st.be, by rw [HQN.out]; omega⟩
          have HM0 : Hid (But g wM wM) := But.refl _ _
          have HDM := Lib.hid hdM
          clear hvx hlx hnX hxl hx100 HLX HCr HB HD hbal hdM hbg hq0 hq1 hsL
          go_wp2_with fail
          clear t0 hwM hB7
          go_loopw [16, 17, 18, 19, 20, 86] (fun _ _ _ _ _ i wr => ∃ t : Nat, t ≤ 2 ∧ i = .int .i64 t ∧ Hid (But g wM wr) ∧ Hid (DiceAt wr g s l)) (fun _ _ _ _ _ i _ => 2 - (intOf i).toNat)
          case atStart => exact ⟨0, Nat.zero_le _, rfl, HM0, HDM⟩
          case round =>
            obtain ⟨t, ht, rfl, HB2, HD2⟩ := hrel
            by_cases hlt2 : t < 2
            · obtain ⟨wp, hwp⟩ : ∃ wp, wp = wr := ⟨_, rfl⟩
              subst hwp
              have HC2 := Lib.hid (HCM.out.but HB2.out HD2.out)
              have HL2 := Lib.hid (HLM.out.but HB2.out)
              obtain ⟨sA, sn, sc, S, t0, hsi, hs10⟩ := HIX.out wp HB2.out HD2.out t hlt2
              have HSI := Lib.hid hsi
              have hti : (t : Int) < 2 := by omega
              obtain ⟨ee, hee⟩ : ∃ c, expE p ((K : Int) + 1) (N : Int) X S = c := ⟨_, rfl⟩
              obtain ⟨er, her⟩ : ∃ c, expR p ((K : Int) + 1) (N : Int) X S = c := ⟨_, rfl⟩
              have HK1 : Hid (∀ W, Wheel W → Shares W (.slice bx nX ex) X → Ints W (.slice sA sn sc) S → Calls Tryd.prog 14 #[.agg #[.int .i64 p, .int .i64 ((K : Int) + 1), .int .i64 (N : Int)], .slice bx nX ex, .slice sA sn sc] W fun e w' => ∃ v, e = .returned (.tuple #[v, .int .i64 ee]) ∧ SharesN w' W.heap.size v er ∧ Below W.heap.size W w') := fun W q1 q2 q3 => by
                have h := E1 p ((K : Int) + 1) (N : Int) _ _ X S W q1 (wf_small hp1 hpm) q2 q3
                unfold planV at h
                rw [hee, her] at h
                exact h
              have HK2 : Hid (∀ W, Shares W (.slice bx nX ex) X → Ints W (.slice sA sn sc) S → Calls Tryd.prog 15 #[.agg #[.int .i64 p, .int .i64 ((K : Int) + 1), .int .i64 (N : Int)], .slice bx nX ex, .slice sA sn sc] W fun e w' => ∃ v, e = .returned (.tuple #[v, .int .i64 ee]) ∧ SharesN w' W.heap.size v er ∧ Below W.heap.size W w') := fun W q2 q3 => by
                have h := E2 p ((K : Int) + 1) (N : Int) _ _ X S W (wf_small hp1 hpm) q2 q3 (by omega)
                unfold planV at h
                rw [hee, her] at h
                exact h
              have p0 := HC2.out.st.pl.c0
              have p1 := HC2.out.st.pl.c1
              have p2 := HC2.out.st.pl.c2
              clear hsi hs10 hee her HD2
              go_wp2_with fail
              refine (HK1.out wp HC2.out.st.wh (HL2.out.shares HC2.out.st.be (Nat.le_of_eq HGE.out)) HSI.out).mono ?_
              rintro e w13 ⟨va, rfl, hna, hb⟩
              obtain ⟨aa, ac, hva, _, _⟩ := hna.shape
              obtain ⟨ne, hne⟩ : ∃ n, er.length = n := ⟨_, rfl⟩
              rw [hne] at hva
              subst hva
              have hbt := But.of_below (b := g) hb (Nat.le_refl _)
              have HNA := Lib.hid hna
              have HC13 := Lib.hid (HC2.out.but hbt (HC2.out.st.di.below hb HC2.out.st.di.size))
              have HL13 := Lib.hid (HL2.out.but hbt)
              have HI13 := Lib.hid (HSI.out.below (Nat.le_refl _) hb)
              have HB13 := Lib.hid (HB2.out.trans hbt)
              clear hna hb hbt p0 p1 p2 t0 HC2 HL2 HSI HB2 HK1
              have p0 := HC13.out.st.pl.c0
              have p1 := HC13.out.st.pl.c1
              have p2 := HC13.out.st.pl.c2
              go_wp2_with fail
              refine (HK2.out w13 (HL13.out.shares HC13.out.st.be (Nat.le_of_eq HGE.out)) HI13.out).mono ?_
              rintro e w14 ⟨vb, rfl, hnb, hb⟩
              obtain ⟨ba, bc, hvb, _, _⟩ := hnb.shape
              rw [hne] at hvb
              subst hvb
              have hbt := But.of_below (b := g) hb (Nat.le_refl _)
              have HSM2 := Lib.hid (sameS_yes _ _ er w14 (HNA.out.below hb (Nat.le_refl _)).shares hnb.shares)
              have HC14 := Lib.hid (HC13.out.but hbt (HC13.out.st.di.below hb HC13.out.st.di.size))
              have HB14 := Lib.hid (HB13.out.trans hbt)
              clear hnb hb hbt p0 p1 p2 HC13 HL13 HI13 HB13 HK2 HNA hne
              go_wp2_with fail
              refine HSM2.out.mono ?_
              rintro e w15 ⟨rfl, hb⟩
              have HBF := Lib.hid (HB14.out.trans (But.of_below (b := g) hb (Nat.le_refl _)))
              have HDF := Lib.hid (HC14.out.st.di.below hb HC14.out.st.di.size)
              have n1 : (ee != ee) = false := by simp
              clear hb
              go_wp2
              go_roundw
              case rel => exact ⟨t + 1, by omega, by go_num, HBF, HDF⟩
              case measure => simp [intOf]; omega
            · have htt : ¬ ((t : Int) < 2) := by omega
              have hdt : decide ((t : Int) < 2) = false := decide_eq_false htt
              have HBE := Lib.hid (HBM.out.trans HB2.out)
              go_wp2_with fail
              go_roundw
              case rel => exact ⟨j + 1, by omega, by go_num, HBE, HD2⟩
              case measure => simp [intOf]; omega
        · have hjn : ¬ ((j : Int) < 4) := by omega
          have HFB : Hid (Below g0 w wr) := HB1.out.trans (HCr.out.st.be.mono HGG.out)
          go_wp2_with fail
          refine (awake6_any FD wr HCr.out.st.wh).mono ?_
          rintro e w' ⟨rfl, hb⟩
          have HE := Lib.hid (HFB.out.trans (hb.mono (Nat.le_trans HGG.out (Nat.le_of_lt HCr.out.st.di.size))))
          clear hb
          go_wp2
          go_ret
          exact ⟨rfl, HE.out⟩
end Go.Proofs.YtcgemfiinmjllaaDoor
