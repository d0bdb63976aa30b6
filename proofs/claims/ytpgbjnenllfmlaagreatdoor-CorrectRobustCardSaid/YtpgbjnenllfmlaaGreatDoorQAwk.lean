
/- The statements' sanity check: seven shares bear two lies. -/
import Derived.Test.YtpgbjnenllfmlaaGreatDoorQBea
import Derived.Test.YtpgbjnenllfmlaaGreatDoorHSh
import Derived.StillTailTactics
import Derived.BigRegion
import Derived.RegionTactic
import Derived.ChangeAlike
import Derived.Deep.DeepCutAuto
namespace Go.Proofs.YtpgbjnenllfmlaaGreatDoor
open Go.RowKit Go.Sort
open Num
set_option linter.unusedVariables false

def awkL : List Shr := [(1, [7]), (2, [5]), (3, [0]), (4, [6]), (5, [0]), (6, [4]), (7, [1])]
def awkD : List Shr := [(1, [7]), (2, [4]), (3, [0]), (4, [6]), (5, [0]), (6, [4]), (7, [7])]
theorem awk_deal : dealF 11 2 7 [9] [4, 5] = awkD := by decide
theorem awk_gd : Gd 11 7 1 awkL := ⟨by decide, by
  intro s hs x hx
  have h : awkL.all (fun s => s.2.all fun x => decide (0 ≤ x) && decide (x < 11)) = true := by decide
  have h2 := List.all_eq_true.1 (List.all_eq_true.1 h s hs) x hx
  simpa [El] using h2, by decide, by decide⟩
theorem awk_bad (x : Int) : x ∈ [2, 7] ↔ ∃ j, j < awkL.length ∧ (awkL.getD j (0, [])).1 = x ∧ ∃ i, i < 1 ∧ E ((fun _ => [9, 4, 5]) i) x % 11 ≠ (awkL.getD j (0, [])).2.getD i 0 := by
  constructor
  · intro h
    have h2 : x = 2 ∨ x = 7 := by simpa using h
    rcases h2 with rfl | rfl
    · exact ⟨1, by decide, rfl, 0, by omega, by decide⟩
    · exact ⟨6, by decide, rfl, 0, by omega, by decide⟩
  · rintro ⟨j, hj, h1, i, hi, h2⟩
    obtain rfl : i = 0 := by omega
    have hj7 : j < 7 := hj
    have h3 : j = 0 ∨ j = 1 ∨ j = 2 ∨ j = 3 ∨ j = 4 ∨ j = 5 ∨ j = 6 := by omega
    rcases h3 with rfl | rfl | rfl | rfl | rfl | rfl | rfl <;> (subst h1; revert h2; decide)
theorem awk_rob {S W : List Int} {c : Int} (h : RobR 11 3 1 awkL S W c) : c = 0 ∧ S = [9] ∧ W = [2, 7] := by
  obtain ⟨h1, h2, h3⟩ := robR_bears prm_11 (by decide) awk_gd h (by decide) (fun _ => [9, 4, 5]) (fun _ => by decide) [2, 7] (by decide) awk_bad (by decide)
  exact ⟨h1, by rw [h2]; decide, h3⟩
set_option maxRecDepth 100000 in
set_option maxHeartbeats 16000000 in
theorem awake7_any (w : World) (hw : Wheel w) : Calls Tryz.prog 6 #[] w fun e w' => e = .returned (.bool true) ∧ Below w.heap.size w w' := by
  obtain ⟨g, hg⟩ : ∃ g, w.heap.size = g := ⟨_, rfl⟩
  have hal : ∀ (W : World) (o : Obj), Below W.heap.size W (W.alloc o) := fun W o => (Below.refl _ _).alloc (Nat.le_refl _) o
  obtain ⟨w1, hw1⟩ : ∃ w1, w.alloc (.cells #[.int .i64 11, .int .i64 3, .int .i64 7] 31) = w1 := ⟨_, rfl⟩
  have hp1 : PlanAt w1 g 11 3 7 := by rw [← hw1, ← hg]; exact planAt_new _ _ _ _ _
  have hb1 : Below g w w1 := by rw [← hw1, ← hg]; exact hal _ _
  have hs1 : w1.heap.size = g + 1 := by rw [← hw1, ← hg]; simp
  obtain ⟨w3, hw3⟩ : ∃ w3, (w1.alloc (.cells #[.int .i64 9] 3)).alloc (.cells #[.int .i64 4, .int .i64 5] 3) = w3 := ⟨_, rfl⟩
  have hb3 : Below (g + 1) w1 w3 := by rw [← hw3, ← hs1]; exact (hal _ _).trans ((hal _ _).mono (by simp))
  have hs3 : w3.heap.size = g + 3 := by rw [← hw3]; simp [hs1]
  have hi1 : Ints w3 (.slice (some ⟨g + 1, 0, none⟩) 1 1) [9] := by rw [← hw3, ← hs1]; exact (ints_one w1 9 3).below (Nat.le_refl _) (hal _ _)
  have hi2 : Slc w3 (.slice (some ⟨g + 2, 0, none⟩) 2 2) [4, 5] := by
    have h := ints_two (w1.alloc (.cells #[.int .i64 9] 3)) 4 5 3
    rw [hw3] at h
    have e : (w1.alloc (.cells #[.int .i64 9] 3)).heap.size = g + 2 := by simp [hs1]
    rw [e] at h
    exact ⟨_, 2, rfl, by simp, by omega, h⟩
  have hpl : planB 11 3 7 = true := planB_of prm_11 (by omega) (by omega) (by omega) (by omega) (by omega)
  have HDE := Lib.hid (ref6_deal_apart 11 3 2 7 (some ⟨g + 1, 0, none⟩) 1 1 [9] [4, 5] (.slice (some ⟨g + 2, 0, none⟩) 2 2) w3 (by decide) (by omega) hpl hi1 rfl hi2 (by omega) (elB_of prm_11 (by omega) (by intro x hx; simp at hx; subst hx; exact ⟨by omega, by omega⟩)) (elB_of prm_11 (by omega) (by intro x hx; simp at hx; rcases hx with rfl | rfl <;> exact ⟨by omega, by omega⟩)) rfl)
  have HW3 : Hid (Wheel w3) := (hw.below (by rw [← hg]; exact hw.size) hb1).below (by have := hw.size; omega) hb3
  have HB3 : Hid (Below g w w3) := hb1.trans (hb3.mono (Nat.le_succ g))
  have HP3 := Lib.hid (hp1.below (Nat.lt_succ_self g) hb3)
  have HS3 := Lib.hid hs3
  have c0 := hp1.c0
  have c1 := hp1.c1
  have c2 := hp1.c2
  have e1 : (w1.alloc (.cells #[.int .i64 9] 3)).heap.size = g + 2 := by simp [hs1]
  rw [awk_deal, hs3] at HDE
  unfold planV at HDE
  have HPL := Lib.hid hpl
  rw [hg]
  clear hi1 hi2 hpl hal hb1 hb3 hp1 hs3
  go_enter Tryz.func6, Tryz.ntmps6
  go_wp2_with fail
  refine HDE.out.mono ?_
  rintro e w4 ⟨v4, rfl, hT4, hb4⟩
  have HB4 := Lib.hid (HB3.out.trans (hb4.mono (by omega)))
  have HP4 := Lib.hid (HP3.out.below (show g < g + 3 by omega) hb4)
  have HW4 := Lib.hid (HW3.out.below (by have := HS3.out; have := HW3.out.size; omega) hb4)
  obtain ⟨_, _, ⟨_, hsh⟩, _⟩ := id hT4
  have hshp : ∃ q c, v4 = .slice (some ⟨q, 0, none⟩) 7 c ∧ 7 ≤ c ∧ c ≤ 9223372036854775807 := by
    rcases hsh with ⟨_, h0⟩ | ⟨q, c, cur, e1, _, _, h3, h4, _⟩
    · exact absurd h0 (by decide)
    · exact ⟨q, c, e1, h3, by unfold maxLen at h4; omega⟩
  obtain ⟨q, c4, rfl, hc4, hc4b⟩ := hshp
  obtain ⟨q', Z, hqq, HO⟩ := hT4.odd (by omega)
  have hqe : q = q' := by simpa using hqq
  subst hqe
  have hgath : ∀ i, i < 7 → ∃ gi ci, (Z i).2 = .slice (some ⟨gi, 0, none⟩) 1 ci ∧ w4.cell? ⟨gi, 0, none⟩ = some (.int .i64 ((awkD.getD i (0, [])).2.getD 0 0)) ∧ w4.frozen? ⟨gi, 0, none⟩ = false ∧ g + 3 ≤ gi := fun i hi => by
    have hl : (awkD.getD i (0, [])).2.length = 1 := by
      have h3 : i = 0 ∨ i = 1 ∨ i = 2 ∨ i = 3 ∨ i = 4 ∨ i = 5 ∨ i = 6 := by omega
      rcases h3 with rfl | rfl | rfl | rfl | rfl | rfl | rfl <;> rfl
    have hv := HO.val i hi
    obtain ⟨gi, ci, e, h1, h2⟩ := hv.head (by rw [hl]; omega)
    rw [e] at hv
    rw [hl] at e hv
    exact ⟨gi, ci, e, hv.cell (i := 0) (by rw [hl]; omega), hv.frozen 0, h1⟩
  obtain ⟨g1, cc1, hz1, k1, f1, hg1⟩ := hgath 1 (by omega)
  obtain ⟨g6, cc6, hz6, k6, f6, hg6⟩ := hgath 6 (by omega)
  have hne : g1 ≠ g6 := fun e => HO.apart 1 6 (by omega) (by omega) (by omega) g1 (by rw [hz1]; rfl) (by rw [hz6, e]; rfl)
  obtain ⟨_, r1, _, _⟩ := HO.row 1 (by omega)
  obtain ⟨_, r6, _, _⟩ := HO.row 6 (by omega)
  rw [hz1] at r1
  rw [hz6] at r6
  have k1' : w4.cell? ⟨g1, 0, none⟩ = some (.int .i64 4) := k1
  have k6' : w4.cell? ⟨g6, 0, none⟩ = some (.int .i64 7) := k6
  have r1' : w4.cell? ⟨q, 3, none⟩ = some (.slice (some ⟨g1, 0, none⟩) 1 cc1) := r1
  have r6' : w4.cell? ⟨q, 13, none⟩ = some (.slice (some ⟨g6, 0, none⟩) 1 cc6) := r6
  have HNEW : Hid (Shares ((w4.setCell ⟨g1, 0, none⟩ (.int .i64 5)).setCell ⟨g6, 0, none⟩ (.int .i64 1)).drew (.slice (some ⟨q, 0, none⟩) 7 c4) awkL) := by
    have h1 := (HO.put (i := 1) (by omega) hz1 0 5).put (i := 6) (by omega) hz6 0 1
    exact (h1.plain (by omega) hc4 hc4b (by decide)).shares.below (Nat.le_refl _) ((Below.refl _ _).drew)
  have hbst : Below (g + 3) w4 ((w4.setCell ⟨g1, 0, none⟩ (.int .i64 5)).setCell ⟨g6, 0, none⟩ (.int .i64 1)).drew := ((set1_below w4 0 (.int .i64 5) hg1).trans (set1_below _ 0 (.int .i64 1) hg6)).trans ((Below.refl _ _).drew)
  have HBN : Hid (Below g w ((w4.setCell ⟨g1, 0, none⟩ (.int .i64 5)).setCell ⟨g6, 0, none⟩ (.int .i64 1)).drew) := HB4.out.trans (hbst.mono (by omega))
  have HPN : Hid (PlanAt ((w4.setCell ⟨g1, 0, none⟩ (.int .i64 5)).setCell ⟨g6, 0, none⟩ (.int .i64 1)).drew g 11 3 7) := HP4.out.below (show g < g + 3 by omega) hbst
  have HWN : Hid (Wheel ((w4.setCell ⟨g1, 0, none⟩ (.int .i64 5)).setCell ⟨g6, 0, none⟩ (.int .i64 1)).drew) := HW4.out.below (B := g + 3) (by have := HS3.out; have := HW3.out.size; omega) hbst
  have HNE := Lib.hid hne
  have k6n : (w4.setCell ⟨g1, 0, none⟩ (.int .i64 5)).cell? ⟨g6, 0, none⟩ = some (.int .i64 7) := by rw [World.cell?_setCell_other _ _ _ _ (by intro e; have h := congrArg Addr.block e; simp at h; omega)]; exact k6'
  clear hbst hT4 hsh hb4 hgath hz1 hz6 k1 k6 r1 r6 HDE HO hqq hw1 hw3 c0 c1 c2 e1 hs1 hg
  have m1 : IntKind.i64.wrap 5 = 5 := by decide
  have m2 : (5 : Int).tmod 11 = 5 := by decide
  have m3 : IntKind.i64.wrap 12 = 12 := by decide
  have m4 : (12 : Int).tmod 11 = 1 := by decide
  go_upto_region 3 with fail
  go_cut [2] (fun v W => v = .slice (some ⟨q, 0, none⟩) 7 c4 ∧ W = ((w4.setCell ⟨g1, 0, none⟩ (.int .i64 5)).setCell ⟨g6, 0, none⟩ (.int .i64 1)).drew)
  case first =>
    clear HNEW HBN HPN HWN HNE HB4 HP4 HW4 HW3 HB3 HP3 HS3 HPL hw hg1 hg6
    go_region
    all_goals (go_wp2_with fail; go_meet; exact ⟨rfl, rfl⟩)
  case rest =>
    obtain ⟨hv, hwc⟩ := hcut
    subst hv
    rw [← hwc] at HNEW HBN HPN HWN
    clear k1' k6' r1' r6' k6n f1 f6 m1 m2 m3 m4 hwc
    obtain ⟨w5, hw5⟩ : ∃ w5, w5 = wc := ⟨_, rfl⟩
    subst hw5
    have c0 := HPN.out.c0
    have c1 := HPN.out.c1
    have c2 := HPN.out.c2
    go_wp2_with fail
    have HRO : Hid (Calls Tryz.prog 16 #[.agg #[.int .i64 11, .int .i64 3, .int .i64 7], .slice (some ⟨q, 0, none⟩) 7 c4] w5 fun e w' => ∃ v1 v2 S W c, e = .returned (.tuple #[v1, v2, .int .i64 c]) ∧ RobR 11 3 1 awkL S W c ∧ Ints w' v1 S ∧ Ints w' v2 W ∧ Below w5.heap.size w5 w') :=
      robust_ok 11 3 7 (.slice (some ⟨q, 0, none⟩) 7 c4) awkL w5 HWN.out (by decide) HPL.out (goodB_of_gd prm_11 (by omega) awk_gd (by omega)) (by decide) HNEW.out
    refine HRO.out.mono ?_
    rintro e w6 ⟨v1, v2, S, W, c, rfl, hr, hi1, hi2, hb6⟩
    obtain ⟨rfl, rfl, rfl⟩ := awk_rob hr
    have HB6 : Hid (Below g w w6) := HBN.out.trans (hb6.mono (Nat.le_of_lt HPN.out.lt))
    have HP6 := Lib.hid (HPN.out.below HPN.out.lt hb6)
    obtain ⟨a1, x1, rfl⟩ := hi1.shape
    obtain ⟨a2, x2, rfl⟩ := hi2.shape
    obtain ⟨b1, o1, rfl, k1⟩ := hi1.pos (k := 0) (by decide)
    obtain ⟨b2, o2, rfl, k2⟩ := hi2.pos (k := 0) (by decide)
    obtain ⟨b3, o3, e3, k3⟩ := hi2.pos (k := 1) (by decide)
    simp only [Option.some.injEq, Addr.mk.injEq, and_true] at e3
    obtain ⟨rfl, rfl⟩ := e3
    clear c0 c1 c2
    have HI1 := Lib.hid hi1
    have HI2 := Lib.hid hi2
    have HK1 : Hid (∀ W, Below w6.heap.size w6 W → W.cell? ⟨b1, o1, none⟩ = some (.int .i64 9) ∧ W.cell? ⟨b2, o2, none⟩ = some (.int .i64 2) ∧ W.cell? ⟨b2, o2 + 1, none⟩ = some (.int .i64 7)) := fun W hW =>
      ⟨(hW.cell (p := ⟨b1, o1, none⟩) (cell_lt k1)).trans k1, (hW.cell (p := ⟨b2, o2, none⟩) (cell_lt k2)).trans k2, (hW.cell (p := ⟨b2, o2 + 1, none⟩) (cell_lt k3)).trans k3⟩
    have d0 := HP6.out.c0
    have d1 := HP6.out.c1
    have d2 := HP6.out.c2
    have HRM : Hid (∀ W, Calls Tryz.prog 24 #[.agg #[.int .i64 11, .int .i64 3, .int .i64 7], .int .i64 7] W fun e w' => e = .returned (.int .i64 2) ∧ Below W.heap.size W w') := fun W => room_any 11 3 7 7 W (by omega) (by decide) (by decide)
    clear hr hi1 hi2 hb6 k1 k2 k3 HRO HNEW
    go_wp2_with fail
    refine (HRM.out _).mono ?_
    rintro e w7 ⟨rfl, hb7⟩
    have HB7 := Lib.hid (HB6.out.trans (hb7.mono (Nat.le_of_lt HP6.out.lt)))
    obtain ⟨k1, k2, k3⟩ := HK1.out w7 hb7
    clear hb7 d0 d1 d2 HK1
    go_wp2
    go_ret
    exact ⟨rfl, HB7.out⟩
end Go.Proofs.YtpgbjnenllfmlaaGreatDoor
