
/- Plans that may not be valid: kit's AnyPlan. -/
import Derived.Test.YtomnncainedjdaaDoorHULaw
namespace Go.Proofs.YtomnncainedjdaaDoor
open Go.RowKit Go.Sort
open Num
set_option linter.unusedVariables false

def odd3 (n : Int) : Nat → Int
  | 0 => 0 | 1 => -1 | _ => n + 1
def odd4 (p : Int) : Nat → Int
  | 0 => 0 | 1 => 16 | 2 => 17 | _ => p
/-- A region whose orders all end alike, but for three numbers. -/
theorem region_oneJ {P : Program} {id : Nat} {ops : Array Oper} {d : Bool} {Q : Exit → Act → World → Prop} {a : Act} {w : World} (R : Int → World → Prop) (A : Int → Nat → Nat → Act) (hr : (Code.region id ops d).wp P (fun e a' W => e = .normal ∧ ∃ x j m, a' = A x j m ∧ R x W) a w)
    (h : ∀ x j m W, R x W → Q .normal (A x j m) W) : (Code.region id ops d).wp P Q a w :=
  Code.wp_mono (fun _ _ _ ⟨h1, x, j, m, h2, h3⟩ => by subst h1; subst h2; exact h x j m _ h3) hr
def odd8 : Nat → Int
  | 0 => 0 | 1 => 1 | 2 => 4 | 3 => 9 | 4 => -7 | 5 => 1073741824 | 6 => 1073741827 | _ => 500000004
theorem odd8_wf (j : Nat) : -9223372036854775808 ≤ odd8 j ∧ odd8 j ≤ 9223372036854775807 := by unfold odd8; split <;> omega
theorem wf_any {x : Int} (h : -9223372036854775808 ≤ x ∧ x ≤ 9223372036854775807) : (Lit.int .i64 x).wf = true := wf64 h.1 h.2
theorem odd3_le {n : Int} (h : 0 ≤ n ∧ n ≤ 7) (j : Nat) : odd3 n j ≤ 8 := by unfold odd3; split <;> omega
set_option maxRecDepth 100000 in
set_option maxHeartbeats 8000000 in
theorem anyPlan_k (b : Nat) (s : Value) (l : List Int) (w : World) (hd : DiceAt w b s l) :
    Calls Tryd.prog 15 #[.pointer (some ⟨b, 0, none⟩)] w fun e w' => ∃ p k n : Int, e = .returned (planV p k n) ∧ (Lit.int .i64 p).wf = true ∧ DiceAt w' b s l ∧ But b w w' ∧ k ≤ 8 := by
  have hsz := hd.size
  obtain ⟨g, hg⟩ : ∃ g, w.heap.size = g := ⟨_, rfl⟩
  obtain ⟨w1, hw1⟩ : ∃ w1, w.alloc (.cells #[.int .i64 0, .int .i64 0, .int .i64 0] 30) = w1 := ⟨_, rfl⟩
  have hal : Below g w w1 := by rw [← hw1, ← hg]; exact (Below.refl _ _).alloc (Nat.le_refl _) _
  rw [hg] at hsz
  have HD1 : Hid (DiceAt w1 b s l) := hd.below hal hsz
  have HB1 : Hid (But b w w1) := But.of_below hal (Nat.le_of_eq hg)
  have HR1 : Hid (PlanR w1 g 0 0 0) := by rw [← hw1, ← hg]; exact planR_new w 0 0 0 _
  have HGG := Lib.hid hg
  clear hd hal
  go_enter Tryd.func15, Tryd.ntmps15
  go_wp2_with fail
  refine (prime_any b s l w1 HD1.out).mono ?_
  rintro e w2 ⟨p, hprm, hp2, rfl, hd2, hb2⟩
  have hpp : 2 ≤ p := by have := hprm.1; omega
  have HR2 := Lib.hid (HR1.out.but hb2 (by omega))
  have HB2 := Lib.hid (HB1.out.trans hb2)
  have HD2 := Lib.hid hd2
  have HP2 := Lib.hid hp2
  clear hprm hd2 hb2 HR1 HB1 HD1 hw1
  go_wp2_with fail
  refine (plan_any b s l p w2 HD2.out hpp (by omega)).mono ?_
  rintro e w3 ⟨k, n, rfl, hk1, hkn, hn7, hnp, hd3, hb3⟩
  have HR3 := Lib.hid (HR2.out.but hb3 (by omega))
  have HB3 := Lib.hid (HB2.out.trans hb3)
  have hD3 := hd3
  have hlt3 : b < w3.heap.size := hd3.size
  have hgq : g < w3.heap.size := HR3.out.lt
  have HKN := Lib.hid (show 1 ≤ k ∧ k ≤ n ∧ n ≤ 7 from ⟨hk1, hkn, hn7⟩)
  unfold planV
  obtain ⟨q, hq⟩ : ∃ q, w3.heap.size = q := ⟨_, rfl⟩
  have hal : Below q w3 (w3.alloc (.cells #[.int .i64 p, .int .i64 k, .int .i64 n] 30)) := by rw [← hq]; exact (Below.refl _ _).alloc (Nat.le_refl _) _
  have HD4 := Lib.hid (hd3.below hal (by omega))
  have HR4 := Lib.hid (HR3.out.below hal (by omega))
  have HQ4 : Hid (PlanR (w3.alloc (.cells #[.int .i64 p, .int .i64 k, .int .i64 n] 30)) q p k n) := by rw [← hq]; exact planR_new w3 p k n _
  have HB4 : Hid (But b w (w3.alloc (.cells #[.int .i64 p, .int .i64 k, .int .i64 n] 30))) := HB3.out.trans (But.alloc _ _ _)
  have HGQ : Hid (b < g ∧ g < q) := ⟨hsz, by omega⟩
  clear hal hd3 hb3 hD3 HR3 HB3 hlt3 hgq hk1 hkn hn7 hnp HR2 HB2 HD2
  go_wp2_with fail
  clear hq
  generalize w3.alloc (.cells #[.int .i64 p, .int .i64 k, .int .i64 n] 30) = w4 at *
  refine (next_any b s l 12 w4 HD4.out (by omega) (by omega)).mono ?_
  rintro e w5 ⟨r, r0, r1, rfl, hd5, hb5⟩
  have HD5 := Lib.hid hd5
  have HR5 := Lib.hid (HR4.out.but hb5 (by have := HGQ.out; omega))
  have HQ5 := Lib.hid (HQ4.out.but hb5 (by have := HGQ.out; omega))
  have HB5 := Lib.hid (HB4.out.trans hb5)
  clear hd5 hb5 HD4 HR4 HQ4 HB4
  by_cases h1 : r = 1
  · subst h1
    go_wp2_with fail
    have hd' := HD5.out.below ((Below.refl w5.heap.size w5).alloc (Nat.le_refl _) (.cells #[.int .i64 0, .int .i64 1, .int .i64 4, .int .i64 9, .int .i64 (-7), .int .i64 1073741824, .int .i64 1073741827, .int .i64 500000004] 3)) HD5.out.size
    refine (next_any b s l 8 _ hd' (by omega) (by omega)).mono ?_
    rintro e w6 ⟨r2, s0, s1, rfl, hd6, hb6⟩
    obtain ⟨j, rfl⟩ := Int.eq_ofNat_of_zero_le s0
    have hj : j < 8 := by omega
    have hcell : w6.cell? ⟨w5.heap.size, j, none⟩ = some (.int .i64 (odd8 j)) := by
      rw [hb6.cell (p := ⟨w5.heap.size, j, none⟩) (by simp) (by show w5.heap.size ≠ b; have := HD5.out.size; omega), cell_new]
      have : j = 0 ∨ j = 1 ∨ j = 2 ∨ j = 3 ∨ j = 4 ∨ j = 5 ∨ j = 6 ∨ j = 7 := by omega
      rcases this with rfl | rfl | rfl | rfl | rfl | rfl | rfl | rfl <;> rfl
    have HPWx := Lib.hid (odd8_wf j)
    obtain ⟨x, hx⟩ : ∃ x, odd8 j = x := ⟨_, rfl⟩
    rw [hx] at hcell HPWx
    have HPW : Hid ((Lit.int .i64 x).wf = true) := wf_any HPWx.out
    have hal6 : But b w5 w6 := (But.alloc b w5 _).trans hb6
    have HR6 := Lib.hid (HR5.out.but hal6 (by have := HGQ.out; omega))
    have HQ6 := Lib.hid (HQ5.out.but hal6 (by have := HGQ.out; omega))
    have HB6 := Lib.hid (HB5.out.trans hal6)
    have HD6 := Lib.hid hd6
    clear hx hal6 hd6 hb6 hd' s1 HR5 HQ5 HB5 HD5
    have c0 := HQ6.out.c0
    have c1 := HQ6.out.c1
    have c2 := HQ6.out.c2
    have e0 := HQ6.out.fr 0
    have d0 := HR6.out.c0
    have d1 := HR6.out.c1
    have d2 := HR6.out.c2
    have f0 := HR6.out.fr 0
    have f1 := HR6.out.fr 1
    have f2 := HR6.out.fr 2
    have hne : ¬ q = g := by have := HGQ.out; omega
    have hne2 : ¬ g = q := by have := HGQ.out; omega
    go_wp2_with fail
    have HQS := HQ6.out.set0 x
    have hbq : Below q w6 (w6.setCell ⟨q, 0, none⟩ (.int .i64 x)) := set1_below _ _ _ (Nat.le_refl _)
    have HRS := HR6.out.below hbq (by have := HGQ.out; omega)
    have HP3 := ((HRS.set0 x).set1 k).set2 n
    have HB3 : Below g w6 ((((w6.setCell ⟨q, 0, none⟩ (.int .i64 x)).setCell ⟨g, 0, none⟩ (.int .i64 x)).setCell ⟨g, 1, none⟩ (.int .i64 k)).setCell ⟨g, 2, none⟩ (.int .i64 n)) := (hbq.mono (by have := HGQ.out; omega)).trans (set3_below _ _ _ _ (Nat.le_refl _))
    clear c0 c1 c2 d0 d1 d2 f0 f1 f2 e0
    generalize (((w6.setCell ⟨q, 0, none⟩ (.int .i64 x)).setCell ⟨g, 0, none⟩ (.int .i64 x)).setCell ⟨g, 1, none⟩ (.int .i64 k)).setCell ⟨g, 2, none⟩ (.int .i64 n) = W10 at *
    have c0 := HP3.c0
    have c1 := HP3.c1
    have c2 := HP3.c2
    refine bodyPost_ret (v := planV x k n) (by unfold planV; simp [results, Tryd.results15, go_sem, c0, c1, c2]) rfl ?_
    exact ⟨_, _, _, rfl, HPW.out, HD6.out.below HB3 hsz, HB6.out.above HB3 (Nat.le_of_eq HGG.out), by have := HKN.out; omega⟩
  · have x1 : (r == 1) = false := by simp only [beq_eq_false_iff_ne]; exact h1
    by_cases h2 : r = 2
    · subst h2
      have hj0 : True := trivial
      have hwn : IntKind.i64.wrap (n + 1) = n + 1 := by rw [IntKind.wrap_i64]; have := HKN.out; omega
      go_wp2_with fail
      have HSD5 : Hid (DiceAt w5.drew b s l) := HD5.out
      have HAL5 : Hid (DiceAt (w5.alloc (.cells #[.int .i64 0, .int .i64 (-1), .int .i64 (n + 1)] 3)).drew b s l) := HD5.out.below (((Below.refl w5.heap.size w5).alloc (Nat.le_refl _) (.cells #[.int .i64 0, .int .i64 (-1), .int .i64 (n + 1)] 3)).drew) HD5.out.size
      have HBD5 : Hid (But b w5 w5.drew) := But.of_below ((Below.refl _ _).drew) (Nat.le_refl _)
      have HBA5 : Hid (But b w5 (w5.alloc (.cells #[.int .i64 0, .int .i64 (-1), .int .i64 (n + 1)] 3)).drew) := But.of_below (((Below.refl w5.heap.size w5).alloc (Nat.le_refl _) (.cells #[.int .i64 0, .int .i64 (-1), .int .i64 (n + 1)] 3)).drew) (Nat.le_refl _)
      have HCN : Hid (∀ (W : World) (j : Nat), j < 3 → (W.alloc (.cells #[.int .i64 0, .int .i64 (-1), .int .i64 (n + 1)] 3)).cell? ⟨W.heap.size, j, none⟩ = some (.int .i64 ((odd3 n) j))) := fun W j hj => by
        rw [cell_new]
        have : j = 0 ∨ j = 1 ∨ j = 2 := by omega
        rcases this with rfl | rfl | rfl <;> rfl
      have HZ5 := Lib.hid HD5.out.size
      have HCNd : Hid (∀ j, j < 3 → (w5.alloc (.cells #[.int .i64 0, .int .i64 (-1), .int .i64 (n + 1)] 3)).drew.cell? ⟨w5.heap.size, j, none⟩ = some (.int .i64 ((odd3 n) j))) := fun j hj => HCN.out w5 j hj
      have HFA : Hid (∀ W, But b w5 W → PlanR W q p k n ∧ PlanR W g 0 0 0 ∧ But b w W) := fun W hb => ⟨HQ5.out.but hb (by have := HGQ.out; omega), HR5.out.but hb (by have := HGQ.out; omega), HB5.out.trans hb⟩
      have c0 := HQ5.out.c0
      have c1 := HQ5.out.c1
      have c2 := HQ5.out.c2
      have HEND : Hid (∀ (W : World), PlanR W q p k n → PlanR W g 0 0 0 → DiceAt W b s l → But b w W → ∀ x : Int, (PlanR (W.setCell ⟨q, 1, none⟩ (.int .i64 x)) q p x n ∧ PlanR (W.setCell ⟨q, 1, none⟩ (.int .i64 x)) g 0 0 0 ∧ DiceAt (W.setCell ⟨q, 1, none⟩ (.int .i64 x)) b s l ∧ But b w (W.setCell ⟨q, 1, none⟩ (.int .i64 x)))) := fun W h1 h2 h3 h4 x => by
        have hb : Below q W (W.setCell ⟨q, 1, none⟩ (.int .i64 x)) := set1_below _ _ _ (Nat.le_refl _)
        have hgq := HGQ.out
        exact ⟨h1.set1 x, h2.below hb hgq.2, h3.below hb (by omega), h4.above hb (by have := HGG.out; omega)⟩
      apply region_oneJ (fun x W => Hid (PlanR W q p x n) ∧ Hid (PlanR W g 0 0 0) ∧ Hid (DiceAt W b s l) ∧ Hid (But b w W) ∧ Hid (x ≤ 8))
      case hr =>
        refine wp_region_noPanic ?_
        go_region_law
          (first
            | (go_simp; go_at_call 14; with_reducible refine (next_any b s l 3 w5.drew HSD5.out (by omega) (by omega)).mono ?_; rintro e w6 ⟨r2, s0, s1, rfl, hd6, hb6⟩; obtain ⟨j, rfl⟩ := Int.eq_ofNat_of_zero_le s0; have hj : j < 3 := (by omega); have hji : (j : Int) < 3 := (by omega); have HB6 := Lib.hid (HBD5.out.trans hb6); have hA := HFA.out w6 HB6.out; have HSK := hA.1.c2; have HA6 := Lib.hid hA; have HD6 := Lib.hid hd6; have a0 := (hA.1.below ((Below.refl w6.heap.size w6).alloc (Nat.le_refl _) (.cells #[.int .i64 0, .int .i64 (-1), .int .i64 (n + 1)] 3)) hA.1.lt).c1; have a1 := (hA.1.below ((Below.refl w6.heap.size w6).alloc (Nat.le_refl _) (.cells #[.int .i64 0, .int .i64 (-1), .int .i64 (n + 1)] 3)) hA.1.lt).fr 1; have a2 := HCN.out w6 j hj; clear hd6 hb6 s1 hA)
            | (go_simp; go_at_call 14; with_reducible refine (next_any b s l 3 (w5.alloc (.cells #[.int .i64 0, .int .i64 (-1), .int .i64 (n + 1)] 3)).drew HAL5.out (by omega) (by omega)).mono ?_; rintro e w6 ⟨r2, s0, s1, rfl, hd6, hb6⟩; obtain ⟨j, rfl⟩ := Int.eq_ofNat_of_zero_le s0; have hj : j < 3 := (by omega); have hji : (j : Int) < 3 := (by omega); have HB6 := Lib.hid (HBA5.out.trans hb6); have hA := HFA.out w6 HB6.out; have HSK := hA.1.c2; have HA6 := Lib.hid hA; have HD6 := Lib.hid hd6; have a0 := hA.1.c1; have a1 := hA.1.fr 1; have a2 : w6.cell? ⟨w5.heap.size, j, none⟩ = some (.int .i64 ((odd3 n) j)) := (by rw [hb6.cell (p := ⟨w5.heap.size, j, none⟩) (by simp [World.drew]) (by show w5.heap.size ≠ b; have := HZ5.out; omega)]; exact HCNd.out j hj); clear hd6 hb6 s1 hA))
        all_goals
          refine NoPanic.normal ?_
          obtain ⟨q1, q2, q3⟩ := HA6.out
          have q4 := HD6.out
          first
            | (have hq := HEND.out w6 q1 q2 q4 q3 ((odd3 n) j)
               obtain ⟨k1, k2, k3, k4⟩ := hq
               obtain ⟨x, hx⟩ : ∃ x, (odd3 n) j = x := ⟨_, rfl⟩
               rw [hx] at k1 k2 k3 k4 ⊢
               obtain ⟨ad, had⟩ : ∃ ad, w5.heap.size = ad := ⟨_, rfl⟩
               rw [had]
               exact ⟨rfl, x, j, ad, rfl, k1, k2, k3, k4, by show _ ≤ _; rw [← hx]; exact odd3_le (by have := HKN.out; omega) j⟩)
            | (have hq := HEND.out (w6.alloc (.cells #[.int .i64 0, .int .i64 (-1), .int .i64 (n + 1)] 3)) (q1.below ((Below.refl w6.heap.size w6).alloc (Nat.le_refl _) (.cells #[.int .i64 0, .int .i64 (-1), .int .i64 (n + 1)] 3)) q1.lt) (q2.below ((Below.refl w6.heap.size w6).alloc (Nat.le_refl _) (.cells #[.int .i64 0, .int .i64 (-1), .int .i64 (n + 1)] 3)) q2.lt) (q4.below ((Below.refl w6.heap.size w6).alloc (Nat.le_refl _) (.cells #[.int .i64 0, .int .i64 (-1), .int .i64 (n + 1)] 3)) q4.size) (q3.trans (But.alloc _ _ _)) ((odd3 n) j)
               obtain ⟨k1, k2, k3, k4⟩ := hq
               obtain ⟨x, hx⟩ : ∃ x, (odd3 n) j = x := ⟨_, rfl⟩
               rw [hx] at k1 k2 k3 k4 ⊢
               obtain ⟨ad, had⟩ : ∃ ad, w6.heap.size = ad := ⟨_, rfl⟩
               rw [had]
               exact ⟨rfl, x, j, ad, rfl, k1, k2, k3, k4, by show _ ≤ _; rw [← hx]; exact odd3_le (by have := HKN.out; omega) j⟩)
      rintro x jx mx W ⟨HQ9, HR9, HD9, HB9, HX8⟩
      have HPW : Hid ((Lit.int .i64 p).wf = true) := wf_any ⟨by omega, by have := HP2.out; omega⟩
      clear HCN HCNd HFA c0 c1 c2 HSD5 HAL5 HBD5 HBA5
      have c0 := HQ9.out.c0
      have c1 := HQ9.out.c1
      have c2 := HQ9.out.c2
      have d0 := HR9.out.c0
      have d1 := HR9.out.c1
      have d2 := HR9.out.c2
      have f0 := HR9.out.fr 0
      have f1 := HR9.out.fr 1
      have f2 := HR9.out.fr 2
      go_wp2_with fail
      have HP3 := ((HR9.out.set0 p).set1 x).set2 n
      have HB3 : Below g W (((W.setCell ⟨g, 0, none⟩ (.int .i64 p)).setCell ⟨g, 1, none⟩ (.int .i64 x)).setCell ⟨g, 2, none⟩ (.int .i64 n)) := set3_below _ _ _ _ (Nat.le_refl _)
      clear c0 c1 c2 d0 d1 d2 f0 f1 f2
      generalize ((W.setCell ⟨g, 0, none⟩ (.int .i64 p)).setCell ⟨g, 1, none⟩ (.int .i64 x)).setCell ⟨g, 2, none⟩ (.int .i64 n) = W10 at *
      have c0 := HP3.c0
      have c1 := HP3.c1
      have c2 := HP3.c2
      refine bodyPost_ret (v := planV p x n) (by unfold planV; simp [results, Tryd.results15, go_sem, c0, c1, c2]) rfl ?_
      exact ⟨_, _, _, rfl, HPW.out, HD9.out.below HB3 hsz, HB9.out.above HB3 (Nat.le_of_eq HGG.out), HX8.out⟩
    · have x2 : (r == 2) = false := by simp only [beq_eq_false_iff_ne]; exact h2
      by_cases h3 : r = 3
      · subst h3
        have hj0 : True := trivial
        go_wp2_with fail
        have HSD5 : Hid (DiceAt w5.drew b s l) := HD5.out
        have HAL5 : Hid (DiceAt (w5.alloc (.cells #[.int .i64 0, .int .i64 16, .int .i64 17, .int .i64 p] 3)).drew b s l) := HD5.out.below (((Below.refl w5.heap.size w5).alloc (Nat.le_refl _) (.cells #[.int .i64 0, .int .i64 16, .int .i64 17, .int .i64 p] 3)).drew) HD5.out.size
        have HBD5 : Hid (But b w5 w5.drew) := But.of_below ((Below.refl _ _).drew) (Nat.le_refl _)
        have HBA5 : Hid (But b w5 (w5.alloc (.cells #[.int .i64 0, .int .i64 16, .int .i64 17, .int .i64 p] 3)).drew) := But.of_below (((Below.refl w5.heap.size w5).alloc (Nat.le_refl _) (.cells #[.int .i64 0, .int .i64 16, .int .i64 17, .int .i64 p] 3)).drew) (Nat.le_refl _)
        have HCN : Hid (∀ (W : World) (j : Nat), j < 4 → (W.alloc (.cells #[.int .i64 0, .int .i64 16, .int .i64 17, .int .i64 p] 3)).cell? ⟨W.heap.size, j, none⟩ = some (.int .i64 ((odd4 p) j))) := fun W j hj => by
          rw [cell_new]
          have : j = 0 ∨ j = 1 ∨ j = 2 ∨ j = 3 := by omega
          rcases this with rfl | rfl | rfl | rfl <;> rfl
        have HZ5 := Lib.hid HD5.out.size
        have HCNd : Hid (∀ j, j < 4 → (w5.alloc (.cells #[.int .i64 0, .int .i64 16, .int .i64 17, .int .i64 p] 3)).drew.cell? ⟨w5.heap.size, j, none⟩ = some (.int .i64 ((odd4 p) j))) := fun j hj => HCN.out w5 j hj
        have HFA : Hid (∀ W, But b w5 W → PlanR W q p k n ∧ PlanR W g 0 0 0 ∧ But b w W) := fun W hb => ⟨HQ5.out.but hb (by have := HGQ.out; omega), HR5.out.but hb (by have := HGQ.out; omega), HB5.out.trans hb⟩
        have c0 := HQ5.out.c0
        have c1 := HQ5.out.c1
        have c2 := HQ5.out.c2
        have HEND : Hid (∀ (W : World), PlanR W q p k n → PlanR W g 0 0 0 → DiceAt W b s l → But b w W → ∀ x : Int, (PlanR (W.setCell ⟨q, 2, none⟩ (.int .i64 x)) q p k x ∧ PlanR (W.setCell ⟨q, 2, none⟩ (.int .i64 x)) g 0 0 0 ∧ DiceAt (W.setCell ⟨q, 2, none⟩ (.int .i64 x)) b s l ∧ But b w (W.setCell ⟨q, 2, none⟩ (.int .i64 x)))) := fun W h1 h2 h3 h4 x => by
          have hb : Below q W (W.setCell ⟨q, 2, none⟩ (.int .i64 x)) := set1_below _ _ _ (Nat.le_refl _)
          have hgq := HGQ.out
          exact ⟨h1.set2 x, h2.below hb hgq.2, h3.below hb (by omega), h4.above hb (by have := HGG.out; omega)⟩
        apply region_oneJ (fun x W => Hid (PlanR W q p k x) ∧ Hid (PlanR W g 0 0 0) ∧ Hid (DiceAt W b s l) ∧ Hid (But b w W))
        case hr =>
          refine wp_region_noPanic ?_
          go_region_law
            (first
              | (go_simp; go_at_call 14; with_reducible refine (next_any b s l 4 w5.drew HSD5.out (by omega) (by omega)).mono ?_; rintro e w6 ⟨r2, s0, s1, rfl, hd6, hb6⟩; obtain ⟨j, rfl⟩ := Int.eq_ofNat_of_zero_le s0; have hj : j < 4 := (by omega); have hji : (j : Int) < 4 := (by omega); have HB6 := Lib.hid (HBD5.out.trans hb6); have hA := HFA.out w6 HB6.out; have HSK := hA.1.c0; have HA6 := Lib.hid hA; have HD6 := Lib.hid hd6; have a0 := (hA.1.below ((Below.refl w6.heap.size w6).alloc (Nat.le_refl _) (.cells #[.int .i64 0, .int .i64 16, .int .i64 17, .int .i64 p] 3)) hA.1.lt).c2; have a1 := (hA.1.below ((Below.refl w6.heap.size w6).alloc (Nat.le_refl _) (.cells #[.int .i64 0, .int .i64 16, .int .i64 17, .int .i64 p] 3)) hA.1.lt).fr 2; have a2 := HCN.out w6 j hj; clear hd6 hb6 s1 hA)
              | (go_simp; go_at_call 14; with_reducible refine (next_any b s l 4 (w5.alloc (.cells #[.int .i64 0, .int .i64 16, .int .i64 17, .int .i64 p] 3)).drew HAL5.out (by omega) (by omega)).mono ?_; rintro e w6 ⟨r2, s0, s1, rfl, hd6, hb6⟩; obtain ⟨j, rfl⟩ := Int.eq_ofNat_of_zero_le s0; have hj : j < 4 := (by omega); have hji : (j : Int) < 4 := (by omega); have HB6 := Lib.hid (HBA5.out.trans hb6); have hA := HFA.out w6 HB6.out; have HSK := hA.1.c0; have HA6 := Lib.hid hA; have HD6 := Lib.hid hd6; have a0 := hA.1.c2; have a1 := hA.1.fr 2; have a2 : w6.cell? ⟨w5.heap.size, j, none⟩ = some (.int .i64 ((odd4 p) j)) := (by rw [hb6.cell (p := ⟨w5.heap.size, j, none⟩) (by simp [World.drew]) (by show w5.heap.size ≠ b; have := HZ5.out; omega)]; exact HCNd.out j hj); clear hd6 hb6 s1 hA))
          all_goals
            refine NoPanic.normal ?_
            obtain ⟨q1, q2, q3⟩ := HA6.out
            have q4 := HD6.out
            first
              | (have hq := HEND.out w6 q1 q2 q4 q3 ((odd4 p) j)
                 obtain ⟨k1, k2, k3, k4⟩ := hq
                 obtain ⟨x, hx⟩ : ∃ x, (odd4 p) j = x := ⟨_, rfl⟩
                 rw [hx] at k1 k2 k3 k4 ⊢
                 obtain ⟨ad, had⟩ : ∃ ad, w5.heap.size = ad := ⟨_, rfl⟩
                 rw [had]
                 exact ⟨rfl, x, j, ad, rfl, k1, k2, k3, k4⟩)
              | (have hq := HEND.out (w6.alloc (.cells #[.int .i64 0, .int .i64 16, .int .i64 17, .int .i64 p] 3)) (q1.below ((Below.refl w6.heap.size w6).alloc (Nat.le_refl _) (.cells #[.int .i64 0, .int .i64 16, .int .i64 17, .int .i64 p] 3)) q1.lt) (q2.below ((Below.refl w6.heap.size w6).alloc (Nat.le_refl _) (.cells #[.int .i64 0, .int .i64 16, .int .i64 17, .int .i64 p] 3)) q2.lt) (q4.below ((Below.refl w6.heap.size w6).alloc (Nat.le_refl _) (.cells #[.int .i64 0, .int .i64 16, .int .i64 17, .int .i64 p] 3)) q4.size) (q3.trans (But.alloc _ _ _)) ((odd4 p) j)
                 obtain ⟨k1, k2, k3, k4⟩ := hq
                 obtain ⟨x, hx⟩ : ∃ x, (odd4 p) j = x := ⟨_, rfl⟩
                 rw [hx] at k1 k2 k3 k4 ⊢
                 obtain ⟨ad, had⟩ : ∃ ad, w6.heap.size = ad := ⟨_, rfl⟩
                 rw [had]
                 exact ⟨rfl, x, j, ad, rfl, k1, k2, k3, k4⟩)
        rintro x jx mx W ⟨HQ9, HR9, HD9, HB9⟩
        have HPW : Hid ((Lit.int .i64 p).wf = true) := wf_any ⟨by omega, by have := HP2.out; omega⟩
        clear HCN HCNd HFA c0 c1 c2 HSD5 HAL5 HBD5 HBA5
        have c0 := HQ9.out.c0
        have c1 := HQ9.out.c1
        have c2 := HQ9.out.c2
        have d0 := HR9.out.c0
        have d1 := HR9.out.c1
        have d2 := HR9.out.c2
        have f0 := HR9.out.fr 0
        have f1 := HR9.out.fr 1
        have f2 := HR9.out.fr 2
        go_wp2_with fail
        have HP3 := ((HR9.out.set0 p).set1 k).set2 x
        have HB3 : Below g W (((W.setCell ⟨g, 0, none⟩ (.int .i64 p)).setCell ⟨g, 1, none⟩ (.int .i64 k)).setCell ⟨g, 2, none⟩ (.int .i64 x)) := set3_below _ _ _ _ (Nat.le_refl _)
        clear c0 c1 c2 d0 d1 d2 f0 f1 f2
        generalize ((W.setCell ⟨g, 0, none⟩ (.int .i64 p)).setCell ⟨g, 1, none⟩ (.int .i64 k)).setCell ⟨g, 2, none⟩ (.int .i64 x) = W10 at *
        have c0 := HP3.c0
        have c1 := HP3.c1
        have c2 := HP3.c2
        refine bodyPost_ret (v := planV p k x) (by unfold planV; simp [results, Tryd.results15, go_sem, c0, c1, c2]) rfl ?_
        exact ⟨_, _, _, rfl, HPW.out, HD9.out.below HB3 hsz, HB9.out.above HB3 (Nat.le_of_eq HGG.out), by have := HKN.out; omega⟩
      · have x3 : (r == 3) = false := by simp only [beq_eq_false_iff_ne]; exact h3
        have HPW : Hid ((Lit.int .i64 p).wf = true) := wf_any ⟨by omega, by have := HP2.out; omega⟩
        have HD9 := HD5
        have HR9 := HR5
        have HQ9 := HQ5
        have HB9 := HB5
        clear h1 h2 h3
        have c0 := HQ9.out.c0
        have c1 := HQ9.out.c1
        have c2 := HQ9.out.c2
        have d0 := HR9.out.c0
        have d1 := HR9.out.c1
        have d2 := HR9.out.c2
        have f0 := HR9.out.fr 0
        have f1 := HR9.out.fr 1
        have f2 := HR9.out.fr 2
        go_wp2_with fail
        have HP3 := ((HR9.out.set0 p).set1 k).set2 n
        have HB3 : Below g w5 (((w5.setCell ⟨g, 0, none⟩ (.int .i64 p)).setCell ⟨g, 1, none⟩ (.int .i64 k)).setCell ⟨g, 2, none⟩ (.int .i64 n)) := set3_below _ _ _ _ (Nat.le_refl _)
        clear c0 c1 c2 d0 d1 d2 f0 f1 f2
        generalize ((w5.setCell ⟨g, 0, none⟩ (.int .i64 p)).setCell ⟨g, 1, none⟩ (.int .i64 k)).setCell ⟨g, 2, none⟩ (.int .i64 n) = W10 at *
        have c0 := HP3.c0
        have c1 := HP3.c1
        have c2 := HP3.c2
        refine bodyPost_ret (v := planV p k n) (by unfold planV; simp [results, Tryd.results15, go_sem, c0, c1, c2]) rfl ?_
        exact ⟨_, _, _, rfl, HPW.out, HD9.out.below HB3 hsz, HB9.out.above HB3 (Nat.le_of_eq HGG.out), by have := HKN.out; omega⟩
theorem anyPlan_any (b : Nat) (s : Value) (l : List Int) (w : World) (hd : DiceAt w b s l) :
    Calls Tryd.prog 15 #[.pointer (some ⟨b, 0, none⟩)] w fun e w' => ∃ p k n : Int, e = .returned (planV p k n) ∧ (Lit.int .i64 p).wf = true ∧ DiceAt w' b s l ∧ But b w w' :=
  (anyPlan_k b s l w hd).mono fun e w' ⟨p, k, n, h1, h2, h3, h4, _⟩ => ⟨p, k, n, h1, h2, h3, h4⟩
end Go.Proofs.YtomnncainedjdaaDoor
