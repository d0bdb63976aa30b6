
/- What the program's Explain checks. -/
import Derived.Test.YtcgemfiinmjllaaDoorHXm
namespace Go.Proofs.YtcgemfiinmjllaaDoor
open Go.RowKit Go.Sort
open Num
set_option linter.unusedVariables false

/-- The error of Explain. -/
noncomputable def expE (p k n : Int) (L : List Shr) (S : List Int) : Int := if planB p k n = true ∧ goodB p n L = true ∧ (0 < L.length → (L.getD 0 (0, [])).2.length = S.length) then (if elB p S = true then (if k ≤ (L.length : Int) ∨ 2048 < S.length then 3 else 0) else 2) else 1
theorem expE_one {p k n : Int} {L : List Shr} {S : List Int} (h : ¬ (planB p k n = true ∧ goodB p n L = true ∧ (0 < L.length → (L.getD 0 (0, [])).2.length = S.length))) : expE p k n L S = 1 := by unfold expE; rw [if_neg h]
theorem expE_two {p k n : Int} {L : List Shr} {S : List Int} (h : planB p k n = true ∧ goodB p n L = true ∧ (0 < L.length → (L.getD 0 (0, [])).2.length = S.length)) (h2 : elB p S = false) : expE p k n L S = 2 := by unfold expE; rw [if_pos h, if_neg (by rw [h2]; simp)]
theorem expE_three {p k n : Int} {L : List Shr} {S : List Int} (h : planB p k n = true ∧ goodB p n L = true ∧ (0 < L.length → (L.getD 0 (0, [])).2.length = S.length)) (h2 : elB p S = true) (h3 : k ≤ (L.length : Int) ∨ 2048 < S.length) : expE p k n L S = 3 := by unfold expE; rw [if_pos h, if_pos h2, if_pos h3]
theorem expE_ok {p k n : Int} {L : List Shr} {S : List Int} (h : planB p k n = true ∧ goodB p n L = true ∧ (0 < L.length → (L.getD 0 (0, [])).2.length = S.length)) (h2 : elB p S = true) (h3 : ¬ (k ≤ (L.length : Int) ∨ 2048 < S.length)) : expE p k n L S = 0 := by unfold expE; rw [if_pos h, if_pos h2, if_neg h3]

set_option maxRecDepth 100000 in
set_option maxHeartbeats 8000000 in
theorem checkExplain_any (p k n : Int) (vk vs : Value) (L : List Shr) (S : List Int) (w : World) (hw : Wheel w) (hp : (Lit.int .i64 p).wf = true) (hk : Shares w vk L) (hs : Ints w vs S) :
    Calls Tryd.prog 23 #[planV p k n, vk, vs] w fun e w' => e = .returned (.int .i64 (expE p k n L S)) ∧ Below w.heap.size w w' := by
  unfold planV
  obtain ⟨a1, d1, rfl, hl, hld1, hd1, _⟩ := id hk
  obtain ⟨sa, sc, rfl⟩ := hs.shape
  obtain ⟨SL, hSL⟩ : ∃ SL, S.length = SL := ⟨_, rfl⟩
  have hSb : SL ≤ 140737488355328 := by rw [← hSL]; obtain ⟨_, _, _, h, _⟩ := hs; exact h
  obtain ⟨N, hN⟩ : ∃ N, L.length = N := ⟨_, rfl⟩
  rw [hN] at hk hl hld1 ⊢
  rw [hSL] at hs ⊢
  obtain ⟨g, hg⟩ : ∃ g, w.heap.size = g := ⟨_, rfl⟩
  obtain ⟨w1, hw1⟩ : ∃ w1, w.alloc (Obj.cells #[Value.int IntKind.i64 p, Value.int IntKind.i64 k, Value.int IntKind.i64 n] 30) = w1 := ⟨_, rfl⟩
  have hb1 : Below g w w1 := by rw [← hw1, ← hg]; exact (Below.refl _ _).alloc (Nat.le_refl _) _
  have hp1 : PlanAt w1 g p k n := by rw [← hw1, ← hg]; exact planAt_new _ _ _ _ _
  have hs1 : w1.heap.size = g + 1 := by rw [← hw1, ← hg]; simp
  have HV := Lib.hid (share_valid p k n w1 (hw.below (by rw [← hg]; exact hw.size) hb1) hp)
  unfold planV at HV
  obtain ⟨bp, hbp⟩ : ∃ b, planB p k n = b := ⟨_, rfl⟩
  rw [hbp] at HV
  have HGG := Lib.hid hg
  have HKI := Lib.hid (fun W (hb : Below g w W) => hk.below (Nat.le_of_eq hg) hb)
  have HSI := Lib.hid (fun W (hb : Below g w W) => hs.below (Nat.le_of_eq hg) hb)
  have HB1 := Lib.hid hb1
  have HP1 := Lib.hid hp1
  have HZ1 := Lib.hid hs1
  have HNN := Lib.hid hN
  have HSS := Lib.hid hSL
  have d0' := hp1.c0
  have d1' := hp1.c1
  have d2' := hp1.c2
  rw [hg]
  clear hk hs hb1 hp1 hs1 hw hp hN hSL
  cases bp with
  | false =>
    have HE : Hid (expE p k n L S = 1) := expE_one (fun e => by rw [hbp] at e; cases e.1)
    rw [HE.out]
    clear hbp
    go_enter Tryd.func23, Tryd.ntmps23
    go_wp2_with fail
    refine HV.out.mono ?_
    rintro e w2 ⟨rfl, hb2⟩
    have HB2 := Lib.hid (HB1.out.trans (hb2.mono (by have := HZ1.out; omega)))
    clear hb2 HV
    go_wp2
    go_ret
    exact ⟨rfl, HB2.out⟩
  | true =>
    obtain ⟨hprm, hp2, hk1, hkn, hn16, hnp⟩ := planB_parts hbp
    obtain ⟨K, rfl⟩ := Int.eq_ofNat_of_zero_le (show 0 ≤ k by omega)
    have HGO := Lib.hid (fun W (hb : Below g w W) => share_good p (K : Int) n _ L W ⟨hprm, hp2, hn16⟩ (HKI.out W hb))
    unfold planV at HGO
    have HEL := Lib.hid (fun W (hb : Below g w W) => share_elements p (.slice sa SL sc) S W hprm hp2 (HSI.out W hb))
    obtain ⟨bg, hbg⟩ : ∃ b, goodB p n L = b := ⟨_, rfl⟩
    obtain ⟨be, hbe⟩ : ∃ b, elB p S = b := ⟨_, rfl⟩
    rw [hbg] at HGO
    rw [hbe] at HEL
    have HBP := Lib.hid hbp
    have HBG := Lib.hid hbg
    have HBE := Lib.hid hbe
    have hkb : K ≤ 16 := by omega
    clear hbp hbg hbe hprm hp2 hk1 hkn hn16 hnp
    cases bg with
    | false =>
      have HE : Hid (expE p (K : Int) n L S = 1) := expE_one (fun e => by rw [HBG.out] at e; cases e.2.1)
      rw [HE.out]
      clear HBP HBG HBE HE
      go_enter Tryd.func23, Tryd.ntmps23
      go_wp2_with fail
      refine HV.out.mono ?_
      rintro e w2 ⟨rfl, hb2⟩
      have hp3 := HP1.out.below HP1.out.lt hb2
      have HB2 : Hid (Below g w w2) := HB1.out.trans (hb2.mono (by have := HZ1.out; omega))
      have HP2 := Lib.hid hp3
      have c0 := hp3.c0
      have c1 := hp3.c1
      have c2 := hp3.c2
      clear hb2 HV d0' d1' d2' hp3
      go_wp2_with fail
      refine (HGO.out w2 HB2.out).mono ?_
      rintro e w3 ⟨rfl, hb3⟩
      have hp3 := HP2.out.below HP2.out.lt hb3
      have HB3 : Hid (Below g w w3) := HB2.out.trans (hb3.mono (by have := HP2.out.lt; omega))
      have c0 := hp3.c0
      have c1 := hp3.c1
      clear hb3 HGO hp3
      go_wp2
      go_ret
      exact ⟨rfl, HB3.out⟩
    | true =>
      by_cases hN0 : N = 0
      · have HC : Hid (planB p (K : Int) n = true ∧ goodB p n L = true ∧ (0 < L.length → (L.getD 0 (0, [])).2.length = S.length)) := ⟨HBP.out, HBG.out, fun h => by rw [HNN.out] at h; omega⟩
        subst hN0
        cases be with
        | false =>
          have HE := Lib.hid (expE_two HC.out HBE.out)
          rw [HE.out]
          clear HBP HBG HBE HC HE
          go_enter Tryd.func23, Tryd.ntmps23
          go_wp2_with fail
          refine HV.out.mono ?_
          rintro e w2 ⟨rfl, hb2⟩
          have hp3 := HP1.out.below HP1.out.lt hb2
          have HB2 : Hid (Below g w w2) := HB1.out.trans (hb2.mono (by have := HZ1.out; omega))
          have HP2 := Lib.hid hp3
          have c0 := hp3.c0
          have c1 := hp3.c1
          have c2 := hp3.c2
          clear hb2 HV d0' d1' d2' hp3
          go_wp2_with fail
          refine (HGO.out w2 HB2.out).mono ?_
          rintro e w3 ⟨rfl, hb3⟩
          have hp3 := HP2.out.below HP2.out.lt hb3
          have HB3 : Hid (Below g w w3) := HB2.out.trans (hb3.mono (by have := HP2.out.lt; omega))
          have c0 := hp3.c0
          have c1 := hp3.c1
          clear hb3 HGO hp3
          go_wp2_with fail
          refine (HEL.out w3 HB3.out).mono ?_
          rintro e w' ⟨rfl, rfl⟩
          go_wp2
          go_ret
          exact ⟨rfl, HB3.out⟩
        | true =>
          by_cases hKN : K ≤ 0
          · have HE := Lib.hid (expE_three HC.out HBE.out (.inl (by rw [HNN.out]; omega)))
            rw [HE.out]
            have q1 : decide ((K : Int) ≤ (0 : Int)) = true := decide_eq_true (by omega)
            have q1' : decide (K ≤ 0) = true := decide_eq_true (by omega)
            clear HBP HBG HBE HC HE
            go_enter Tryd.func23, Tryd.ntmps23
            go_wp2_with fail
            refine HV.out.mono ?_
            rintro e w2 ⟨rfl, hb2⟩
            have hp3 := HP1.out.below HP1.out.lt hb2
            have HB2 : Hid (Below g w w2) := HB1.out.trans (hb2.mono (by have := HZ1.out; omega))
            have HP2 := Lib.hid hp3
            have c0 := hp3.c0
            have c1 := hp3.c1
            have c2 := hp3.c2
            clear hb2 HV d0' d1' d2' hp3
            go_wp2_with fail
            refine (HGO.out w2 HB2.out).mono ?_
            rintro e w3 ⟨rfl, hb3⟩
            have hp3 := HP2.out.below HP2.out.lt hb3
            have HB3 : Hid (Below g w w3) := HB2.out.trans (hb3.mono (by have := HP2.out.lt; omega))
            have c0 := hp3.c0
            have c1 := hp3.c1
            clear hb3 HGO hp3
            go_wp2_with fail
            refine (HEL.out w3 HB3.out).mono ?_
            rintro e w' ⟨rfl, rfl⟩
            go_wp2
            go_ret
            exact ⟨rfl, HB3.out⟩
          · have q1 : decide ((K : Int) ≤ (0 : Int)) = false := decide_eq_false (by omega)
            have q1' : decide (K ≤ 0) = false := decide_eq_false (by omega)
            by_cases hS : 2048 < SL
            · have HE := Lib.hid (expE_three HC.out HBE.out (.inr (by rw [HSS.out]; exact hS)))
              rw [HE.out]
              have q2 : decide ((2048 : Int) < (SL : Int)) = true := decide_eq_true (by omega)
              clear HBP HBG HBE HC HE
              go_enter Tryd.func23, Tryd.ntmps23
              go_wp2_with fail
              refine HV.out.mono ?_
              rintro e w2 ⟨rfl, hb2⟩
              have hp3 := HP1.out.below HP1.out.lt hb2
              have HB2 : Hid (Below g w w2) := HB1.out.trans (hb2.mono (by have := HZ1.out; omega))
              have HP2 := Lib.hid hp3
              have c0 := hp3.c0
              have c1 := hp3.c1
              have c2 := hp3.c2
              clear hb2 HV d0' d1' d2' hp3
              go_wp2_with fail
              refine (HGO.out w2 HB2.out).mono ?_
              rintro e w3 ⟨rfl, hb3⟩
              have hp3 := HP2.out.below HP2.out.lt hb3
              have HB3 : Hid (Below g w w3) := HB2.out.trans (hb3.mono (by have := HP2.out.lt; omega))
              have c0 := hp3.c0
              have c1 := hp3.c1
              clear hb3 HGO hp3
              go_wp2_with fail
              refine (HEL.out w3 HB3.out).mono ?_
              rintro e w' ⟨rfl, rfl⟩
              go_wp2
              go_ret
              exact ⟨rfl, HB3.out⟩
            · have HE := Lib.hid (expE_ok HC.out HBE.out (by rw [HNN.out, HSS.out]; omega))
              rw [HE.out]
              have q2 : decide ((2048 : Int) < (SL : Int)) = false := decide_eq_false (by omega)
              clear HBP HBG HBE HC HE
              go_enter Tryd.func23, Tryd.ntmps23
              go_wp2_with fail
              refine HV.out.mono ?_
              rintro e w2 ⟨rfl, hb2⟩
              have hp3 := HP1.out.below HP1.out.lt hb2
              have HB2 : Hid (Below g w w2) := HB1.out.trans (hb2.mono (by have := HZ1.out; omega))
              have HP2 := Lib.hid hp3
              have c0 := hp3.c0
              have c1 := hp3.c1
              have c2 := hp3.c2
              clear hb2 HV d0' d1' d2' hp3
              go_wp2_with fail
              refine (HGO.out w2 HB2.out).mono ?_
              rintro e w3 ⟨rfl, hb3⟩
              have hp3 := HP2.out.below HP2.out.lt hb3
              have HB3 : Hid (Below g w w3) := HB2.out.trans (hb3.mono (by have := HP2.out.lt; omega))
              have c0 := hp3.c0
              have c1 := hp3.c1
              clear hb3 HGO hp3
              go_wp2_with fail
              refine (HEL.out w3 HB3.out).mono ?_
              rintro e w' ⟨rfl, rfl⟩
              go_wp2
              go_ret
              exact ⟨rfl, HB3.out⟩
      · obtain ⟨m, hm⟩ : ∃ m, (L.getD 0 (0, [])).2.length = m := ⟨_, rfl⟩
        have x0 : (0 : Int) < (N : Int) := by omega
        have HMM := Lib.hid hm
        have hmb : m ≤ 2048 := by rw [← hm]; exact goodB_big HBG.out (by rw [HNN.out]; omega)
        have HLD : Hid (∀ W, Below g w W → ∃ (b off : Nat) (v0 : Option Addr × Nat), a1 = some ⟨b, off, none⟩ ∧ W.cell? ⟨b, off + 1, none⟩ = some (.slice v0.1 m v0.2)) := fun W hb => by
          obtain ⟨b, off, v, e1, c0, c1, hi⟩ := (HKI.out W hb).at (i := 0) (by omega)
          obtain ⟨va, vc, rfl⟩ := hi.shape
          rw [hm] at c1
          rw [Nat.zero_mul, Nat.add_zero] at c1
          exact ⟨b, off, (va, vc), e1, c1⟩
        clear hm
        by_cases hms : m = SL
        · have HC : Hid (planB p (K : Int) n = true ∧ goodB p n L = true ∧ (0 < L.length → (L.getD 0 (0, [])).2.length = S.length)) := ⟨HBP.out, HBG.out, fun _ => by rw [HMM.out, HSS.out]; exact hms⟩
          subst hms
          have n1 : ((m : Int) != (m : Int)) = false := by simp
          cases be with
          | false =>
            have HE := Lib.hid (expE_two HC.out HBE.out)
            rw [HE.out]
            clear HBP HBG HBE HC HE
            go_enter Tryd.func23, Tryd.ntmps23
            go_wp2_with fail
            refine HV.out.mono ?_
            rintro e w2 ⟨rfl, hb2⟩
            have hp3 := HP1.out.below HP1.out.lt hb2
            have HB2 : Hid (Below g w w2) := HB1.out.trans (hb2.mono (by have := HZ1.out; omega))
            have HP2 := Lib.hid hp3
            have c0 := hp3.c0
            have c1 := hp3.c1
            have c2 := hp3.c2
            clear hb2 HV d0' d1' d2' hp3
            go_wp2_with fail
            refine (HGO.out w2 HB2.out).mono ?_
            rintro e w3 ⟨rfl, hb3⟩
            have hp3 := HP2.out.below HP2.out.lt hb3
            have HB3 : Hid (Below g w w3) := HB2.out.trans (hb3.mono (by have := HP2.out.lt; omega))
            have c0 := hp3.c0
            have c1 := hp3.c1
            clear hb3 HGO hp3
            obtain ⟨b1, o1, v0, rfl, z1⟩ := HLD.out w3 HB3.out
            go_wp2_with fail
            refine (HEL.out w3 HB3.out).mono ?_
            rintro e w' ⟨rfl, rfl⟩
            go_wp2
            go_ret
            exact ⟨rfl, HB3.out⟩
          | true =>
            by_cases hKN : K ≤ N
            · have HE := Lib.hid (expE_three HC.out HBE.out (.inl (by rw [HNN.out]; omega)))
              rw [HE.out]
              have q1 : decide ((K : Int) ≤ (N : Int)) = true := decide_eq_true (by omega)
              have q1' : decide (K ≤ N) = true := decide_eq_true (by omega)
              clear HBP HBG HBE HC HE
              go_enter Tryd.func23, Tryd.ntmps23
              go_wp2_with fail
              refine HV.out.mono ?_
              rintro e w2 ⟨rfl, hb2⟩
              have hp3 := HP1.out.below HP1.out.lt hb2
              have HB2 : Hid (Below g w w2) := HB1.out.trans (hb2.mono (by have := HZ1.out; omega))
              have HP2 := Lib.hid hp3
              have c0 := hp3.c0
              have c1 := hp3.c1
              have c2 := hp3.c2
              clear hb2 HV d0' d1' d2' hp3
              go_wp2_with fail
              refine (HGO.out w2 HB2.out).mono ?_
              rintro e w3 ⟨rfl, hb3⟩
              have hp3 := HP2.out.below HP2.out.lt hb3
              have HB3 : Hid (Below g w w3) := HB2.out.trans (hb3.mono (by have := HP2.out.lt; omega))
              have c0 := hp3.c0
              have c1 := hp3.c1
              clear hb3 HGO hp3
              obtain ⟨b1, o1, v0, rfl, z1⟩ := HLD.out w3 HB3.out
              go_wp2_with fail
              refine (HEL.out w3 HB3.out).mono ?_
              rintro e w' ⟨rfl, rfl⟩
              go_wp2
              go_ret
              exact ⟨rfl, HB3.out⟩
            · have q1 : decide ((K : Int) ≤ (N : Int)) = false := decide_eq_false (by omega)
              have q1' : decide (K ≤ N) = false := decide_eq_false (by omega)
              by_cases hS : 2048 < m
              · exact absurd hS (by omega)
              · have HE := Lib.hid (expE_ok HC.out HBE.out (by rw [HNN.out, HSS.out]; omega))
                rw [HE.out]
                have q2 : decide ((2048 : Int) < (m : Int)) = false := decide_eq_false (by omega)
                clear HBP HBG HBE HC HE
                go_enter Tryd.func23, Tryd.ntmps23
                go_wp2_with fail
                refine HV.out.mono ?_
                rintro e w2 ⟨rfl, hb2⟩
                have hp3 := HP1.out.below HP1.out.lt hb2
                have HB2 : Hid (Below g w w2) := HB1.out.trans (hb2.mono (by have := HZ1.out; omega))
                have HP2 := Lib.hid hp3
                have c0 := hp3.c0
                have c1 := hp3.c1
                have c2 := hp3.c2
                clear hb2 HV d0' d1' d2' hp3
                go_wp2_with fail
                refine (HGO.out w2 HB2.out).mono ?_
                rintro e w3 ⟨rfl, hb3⟩
                have hp3 := HP2.out.below HP2.out.lt hb3
                have HB3 : Hid (Below g w w3) := HB2.out.trans (hb3.mono (by have := HP2.out.lt; omega))
                have c0 := hp3.c0
                have c1 := hp3.c1
                clear hb3 HGO hp3
                obtain ⟨b1, o1, v0, rfl, z1⟩ := HLD.out w3 HB3.out
                go_wp2_with fail
                refine (HEL.out w3 HB3.out).mono ?_
                rintro e w' ⟨rfl, rfl⟩
                go_wp2
                go_ret
                exact ⟨rfl, HB3.out⟩
        · have n1 : ((m : Int) != (SL : Int)) = true := by simp only [bne_iff_ne]; omega
          have HE : Hid (expE p (K : Int) n L S = 1) := expE_one (fun e => by have h := e.2.2 (by rw [HNN.out]; omega); rw [HMM.out, HSS.out] at h; exact hms h)
          rw [HE.out]
          clear HBP HBG HBE HE hms
          go_enter Tryd.func23, Tryd.ntmps23
          go_wp2_with fail
          refine HV.out.mono ?_
          rintro e w2 ⟨rfl, hb2⟩
          have hp3 := HP1.out.below HP1.out.lt hb2
          have HB2 : Hid (Below g w w2) := HB1.out.trans (hb2.mono (by have := HZ1.out; omega))
          have HP2 := Lib.hid hp3
          have c0 := hp3.c0
          have c1 := hp3.c1
          have c2 := hp3.c2
          clear hb2 HV d0' d1' d2' hp3
          go_wp2_with fail
          refine (HGO.out w2 HB2.out).mono ?_
          rintro e w3 ⟨rfl, hb3⟩
          have hp3 := HP2.out.below HP2.out.lt hb3
          have HB3 : Hid (Below g w w3) := HB2.out.trans (hb3.mono (by have := HP2.out.lt; omega))
          have c0 := hp3.c0
          have c1 := hp3.c1
          clear hb3 HGO hp3
          obtain ⟨b1, o1, v0, rfl, z1⟩ := HLD.out w3 HB3.out
          go_wp2
          go_ret
          exact ⟨rfl, HB3.out⟩
end Go.Proofs.YtcgemfiinmjllaaDoor
