
/- The document's Explain: where it gives an error. -/
import Derived.Test.YtcgemfiinmjllaaDoorHXo
namespace Go.Proofs.YtcgemfiinmjllaaDoor
open Go.RowKit Go.Sort
open Num
set_option linter.unusedVariables false

set_option maxRecDepth 100000 in
set_option maxHeartbeats 8000000 in
theorem ref6_explain_err (p k n : Int) (s vs : Value) (L : List Shr) (S : List Int) (w : World) (hp : (Lit.int .i64 p).wf = true) (hs : Shares w s L) (hq : Ints w vs S) (hE : expE p k n L S ≠ 0) :
    Calls Tryd.prog 15 #[planV p k n, s, vs] w fun e w' => ∃ v, e = .returned (.tuple #[v, .int .i64 (expE p k n L S)]) ∧ SharesN w' w.heap.size v (expR p k n L S) ∧ Below w.heap.size w w' := by
  have hL : expR p k n L S = [] := by unfold expR; rw [if_neg hE]
  have HNI : Hid (∀ (W : World) (g : Nat), SharesN W g (.slice none 0 0) []) := fun W g => ⟨none, 0, rfl, by simp, by simp, by omega, fun h => absurd rfl h⟩
  rw [hL]
  unfold planV
  obtain ⟨a1, d1, rfl, hl, hld1, hd1, _⟩ := id hs
  obtain ⟨qa, qc, rfl⟩ := hq.shape
  obtain ⟨N, hN⟩ : ∃ N, L.length = N := ⟨_, rfl⟩
  obtain ⟨M, hM⟩ : ∃ M, S.length = M := ⟨_, rfl⟩
  rw [hN] at hs hl hld1 ⊢
  rw [hM] at hq ⊢
  have hMb : M ≤ 140737488355328 := by rw [← hM]; obtain ⟨_, _, _, h, _⟩ := hq; exact h
  obtain ⟨g, hgw⟩ : ∃ g, w.heap.size = g := ⟨_, rfl⟩
  obtain ⟨w1, hw1⟩ : ∃ w1, w.alloc (Obj.cells #[Value.int IntKind.i64 p, Value.int IntKind.i64 k, Value.int IntKind.i64 n] 30) = w1 := ⟨_, rfl⟩
  have hb1 : Below g w w1 := by rw [← hw1, ← hgw]; exact (Below.refl _ _).alloc (Nat.le_refl _) _
  have hp1 : PlanAt w1 g p k n := by rw [← hw1, ← hgw]; exact planAt_new _ _ _ _ _
  have hs1 : w1.heap.size = g + 1 := by rw [← hw1, ← hgw]; simp
  have HV := Lib.hid (ref6_valid p k n w1 hp)
  have HGO := Lib.hid (fun W (hW : Below (g + 1) w1 W) => ref6_good p k n (.slice a1 N d1) L W hp (hs.below (Nat.le_of_eq hgw) (hb1.trans (hW.mono (Nat.le_succ g)))))
  rw [hs1] at HV
  unfold planV at HV HGO
  obtain ⟨bp, hbp⟩ : ∃ b, planB p k n = b := ⟨_, rfl⟩
  obtain ⟨bg, hbg⟩ : ∃ b, goodB p n L = b := ⟨_, rfl⟩
  rw [hbp] at HV
  rw [hbg] at HGO
  have HB1 := Lib.hid hb1
  have HP1 := Lib.hid hp1
  have HZ1 := Lib.hid hs1
  have HS := Lib.hid hs
  have HQ := Lib.hid hq
  have d0' := hp1.c0
  have d1' := hp1.c1
  have d2' := hp1.c2
  have HGW := Lib.hid hgw
  rw [hgw]
  have HEE : Hid (expE p k n L S = if bp = true ∧ bg = true ∧ (0 < N → (L.getD 0 (0, [])).2.length = M) then (if elB p S = true then (if k ≤ (N : Int) ∨ 2048 < M then 3 else 0) else 2) else 1) := by show _ = _; unfold expE; rw [hbp, hbg, hN, hM]
  rw [HEE.out] at hE ⊢
  have HPW := Lib.hid hp
  clear hs hq hb1 hp1 hN hM hp hs1 hL hbp hbg HEE
  cases bp with
  | false =>
    rw [if_neg (by simp)]
    clear hE
    go_enter Tryd.func15, Tryd.ntmps15
    go_wp2_with fail
    refine HV.out.mono ?_
    rintro e w2 ⟨rfl, hb2⟩
    have HB2 := Lib.hid (HB1.out.trans (hb2.mono (by omega)))
    clear hb2 HV HGO
    go_wp2
    go_ret2
    exact ⟨_, rfl, HNI.out _ _, HB2.out⟩
  | true =>
    cases bg with
    | false =>
      rw [if_neg (by simp)]
      clear hE
      go_enter Tryd.func15, Tryd.ntmps15
      go_wp2_with fail
      refine HV.out.mono ?_
      rintro e w2 ⟨rfl, hb2⟩
      have hp3 := HP1.out.below (Nat.lt_succ_self g) hb2
      have HB2 := Lib.hid hb2
      have c0 := hp3.c0
      have c1 := hp3.c1
      have c2 := hp3.c2
      clear hb2 HV d0' d1' d2' hp3
      go_wp2_with fail
      refine (HGO.out w2 HB2.out).mono ?_
      rintro e w3 ⟨rfl, hb3⟩
      have HB3 : Hid (Below g w w3) := HB1.out.trans ((HB2.out.trans (hb3.mono (by have := HB2.out.size; have := HZ1.out; omega))).mono (by omega))
      clear hb3 HGO
      go_wp2
      go_ret2
      exact ⟨_, rfl, HNI.out _ _, HB3.out⟩
    | true =>
      obtain ⟨be, hel⟩ : ∃ b, elB p S = b := ⟨_, rfl⟩
      rw [hel] at hE ⊢
      by_cases hN0 : 0 < N
      · obtain ⟨bb, oo, vv, ha, _, k1, hi⟩ := HS.out.at hN0
        subst ha
        rw [Nat.zero_mul, Nat.add_zero] at k1
        obtain ⟨va, vc, rfl⟩ := hi.shape
        obtain ⟨m0, hm0⟩ : ∃ m, (L.getD 0 (0, [])).2.length = m := ⟨_, rfl⟩
        rw [hm0] at k1 hE ⊢
        have hN0i : (0 : Int) < (N : Int) := by omega
        clear hi
        by_cases hmm : m0 = M
        · subst hmm
          rw [if_pos ⟨rfl, rfl, fun _ => rfl⟩] at hE ⊢
          cases be with
          | false =>
            rw [if_neg (by simp)]
            clear hE
            go_enter Tryd.func15, Tryd.ntmps15
            go_wp2_with fail
            refine HV.out.mono ?_
            rintro e w2 ⟨rfl, hb2⟩
            have hp3 := HP1.out.below (Nat.lt_succ_self g) hb2
            have HB2 := Lib.hid hb2
            have c0 := hp3.c0
            have c1 := hp3.c1
            have c2 := hp3.c2
            have HP2 := Lib.hid hp3
            have HZ2 : Hid (g + 1 ≤ w2.heap.size) := by have h := hb2.size; have h2 := HZ1.out; show _ ≤ _; omega
            clear hb2 HV d0' d1' d2' hp3
            go_wp2_with fail
            refine (HGO.out w2 HB2.out).mono ?_
            rintro e w3 ⟨rfl, hb3⟩
            have HB3 : Hid (Below g w w3) := HB1.out.trans ((HB2.out.trans (hb3.mono HZ2.out)).mono (by omega))
            have hp4 := HP2.out.below (show g < w2.heap.size by have := HZ2.out; omega) hb3
            have c0 := hp4.c0
            have c1 := hp4.c1
            have c2 := hp4.c2
            clear hb3 HGO hp4
            have v1 : w3.cell? ⟨bb, oo + 1, none⟩ = some (.slice va m0 vc) := by rw [(HB3.out).cell (p := ⟨bb, oo + 1, none⟩) (by rw [← HGW.out]; exact cell_lt k1)]; exact k1
            go_wp2_with fail
            refine (ref_elements p (.slice qa m0 qc) S w3 HPW.out (HQ.out.below (Nat.le_of_eq HGW.out) HB3.out)).mono ?_
            rintro e w4 ⟨rfl, rfl⟩
            rw [hel]
            go_wp2
            go_ret2
            exact ⟨_, rfl, HNI.out _ _, HB3.out⟩
          | true =>
            rw [if_pos rfl] at hE ⊢
            by_cases hk : k ≤ (N : Int)
            · rw [if_pos (Or.inl hk)]
              clear hE
              go_enter Tryd.func15, Tryd.ntmps15
              go_wp2_with fail
              refine HV.out.mono ?_
              rintro e w2 ⟨rfl, hb2⟩
              have hp3 := HP1.out.below (Nat.lt_succ_self g) hb2
              have HB2 := Lib.hid hb2
              have c0 := hp3.c0
              have c1 := hp3.c1
              have c2 := hp3.c2
              have HP2 := Lib.hid hp3
              have HZ2 : Hid (g + 1 ≤ w2.heap.size) := by have h := hb2.size; have h2 := HZ1.out; show _ ≤ _; omega
              clear hb2 HV d0' d1' d2' hp3
              go_wp2_with fail
              refine (HGO.out w2 HB2.out).mono ?_
              rintro e w3 ⟨rfl, hb3⟩
              have HB3 : Hid (Below g w w3) := HB1.out.trans ((HB2.out.trans (hb3.mono HZ2.out)).mono (by omega))
              have hp4 := HP2.out.below (show g < w2.heap.size by have := HZ2.out; omega) hb3
              have c0 := hp4.c0
              have c1 := hp4.c1
              have c2 := hp4.c2
              clear hb3 HGO hp4
              have v1 : w3.cell? ⟨bb, oo + 1, none⟩ = some (.slice va m0 vc) := by rw [(HB3.out).cell (p := ⟨bb, oo + 1, none⟩) (by rw [← HGW.out]; exact cell_lt k1)]; exact k1
              go_wp2_with fail
              refine (ref_elements p (.slice qa m0 qc) S w3 HPW.out (HQ.out.below (Nat.le_of_eq HGW.out) HB3.out)).mono ?_
              rintro e w4 ⟨rfl, rfl⟩
              rw [hel]
              go_wp2
              go_ret2
              exact ⟨_, rfl, HNI.out _ _, HB3.out⟩
            · have hM2 : 2048 < m0 := by
                by_cases h : 2048 < m0
                · exact h
                · rw [if_neg (fun e => by rcases e with e | e; exact hk e; exact h e)] at hE; exact absurd rfl hE
              have hM3 : (2048 : Int) < (m0 : Int) := by omega
              rw [if_pos (Or.inr hM2)]
              clear hE hM2
              go_enter Tryd.func15, Tryd.ntmps15
              go_wp2_with fail
              refine HV.out.mono ?_
              rintro e w2 ⟨rfl, hb2⟩
              have hp3 := HP1.out.below (Nat.lt_succ_self g) hb2
              have HB2 := Lib.hid hb2
              have c0 := hp3.c0
              have c1 := hp3.c1
              have c2 := hp3.c2
              have HP2 := Lib.hid hp3
              have HZ2 : Hid (g + 1 ≤ w2.heap.size) := by have h := hb2.size; have h2 := HZ1.out; show _ ≤ _; omega
              clear hb2 HV d0' d1' d2' hp3
              go_wp2_with fail
              refine (HGO.out w2 HB2.out).mono ?_
              rintro e w3 ⟨rfl, hb3⟩
              have HB3 : Hid (Below g w w3) := HB1.out.trans ((HB2.out.trans (hb3.mono HZ2.out)).mono (by omega))
              have hp4 := HP2.out.below (show g < w2.heap.size by have := HZ2.out; omega) hb3
              have c0 := hp4.c0
              have c1 := hp4.c1
              have c2 := hp4.c2
              clear hb3 HGO hp4
              have v1 : w3.cell? ⟨bb, oo + 1, none⟩ = some (.slice va m0 vc) := by rw [(HB3.out).cell (p := ⟨bb, oo + 1, none⟩) (by rw [← HGW.out]; exact cell_lt k1)]; exact k1
              go_wp2_with fail
              refine (ref_elements p (.slice qa m0 qc) S w3 HPW.out (HQ.out.below (Nat.le_of_eq HGW.out) HB3.out)).mono ?_
              rintro e w4 ⟨rfl, rfl⟩
              rw [hel]
              go_wp2
              go_ret2
              exact ⟨_, rfl, HNI.out _ _, HB3.out⟩
        · rw [if_neg (fun e => hmm (e.2.2 hN0))]
          have hne : ((m0 : Int) != (M : Int)) = true := by simp only [bne_iff_ne, ne_eq]; omega
          clear hE
          go_enter Tryd.func15, Tryd.ntmps15
          go_wp2_with fail
          refine HV.out.mono ?_
          rintro e w2 ⟨rfl, hb2⟩
          have hp3 := HP1.out.below (Nat.lt_succ_self g) hb2
          have HB2 := Lib.hid hb2
          have c0 := hp3.c0
          have c1 := hp3.c1
          have c2 := hp3.c2
          have HP2 := Lib.hid hp3
          have HZ2 : Hid (g + 1 ≤ w2.heap.size) := by have h := hb2.size; have h2 := HZ1.out; show _ ≤ _; omega
          clear hb2 HV d0' d1' d2' hp3
          go_wp2_with fail
          refine (HGO.out w2 HB2.out).mono ?_
          rintro e w3 ⟨rfl, hb3⟩
          have HB3 : Hid (Below g w w3) := HB1.out.trans ((HB2.out.trans (hb3.mono HZ2.out)).mono (by omega))
          have hp4 := HP2.out.below (show g < w2.heap.size by have := HZ2.out; omega) hb3
          have c0 := hp4.c0
          have c1 := hp4.c1
          have c2 := hp4.c2
          clear hb3 HGO hp4
          have v1 : w3.cell? ⟨bb, oo + 1, none⟩ = some (.slice va m0 vc) := by rw [(HB3.out).cell (p := ⟨bb, oo + 1, none⟩) (by rw [← HGW.out]; exact cell_lt k1)]; exact k1
          go_wp2
          go_ret2
          exact ⟨_, rfl, HNI.out _ _, HB3.out⟩
      · obtain rfl : N = 0 := by omega
        rw [if_pos ⟨rfl, rfl, fun h => absurd h hN0⟩] at hE ⊢
        cases be with
        | false =>
          rw [if_neg (by simp)]
          clear hE
          go_enter Tryd.func15, Tryd.ntmps15
          go_wp2_with fail
          refine HV.out.mono ?_
          rintro e w2 ⟨rfl, hb2⟩
          have hp3 := HP1.out.below (Nat.lt_succ_self g) hb2
          have HB2 := Lib.hid hb2
          have c0 := hp3.c0
          have c1 := hp3.c1
          have c2 := hp3.c2
          have HP2 := Lib.hid hp3
          have HZ2 : Hid (g + 1 ≤ w2.heap.size) := by have h := hb2.size; have h2 := HZ1.out; show _ ≤ _; omega
          clear hb2 HV d0' d1' d2' hp3
          go_wp2_with fail
          refine (HGO.out w2 HB2.out).mono ?_
          rintro e w3 ⟨rfl, hb3⟩
          have HB3 : Hid (Below g w w3) := HB1.out.trans ((HB2.out.trans (hb3.mono HZ2.out)).mono (by omega))
          have hp4 := HP2.out.below (show g < w2.heap.size by have := HZ2.out; omega) hb3
          have c0 := hp4.c0
          have c1 := hp4.c1
          have c2 := hp4.c2
          clear hb3 HGO hp4
          go_wp2_with fail
          refine (ref_elements p (.slice qa M qc) S w3 HPW.out (HQ.out.below (Nat.le_of_eq HGW.out) HB3.out)).mono ?_
          rintro e w4 ⟨rfl, rfl⟩
          rw [hel]
          go_wp2
          go_ret2
          exact ⟨_, rfl, HNI.out _ _, HB3.out⟩
        | true =>
          rw [if_pos rfl] at hE ⊢
          by_cases hk : k ≤ ((0 : Nat) : Int)
          · rw [if_pos (Or.inl hk)]
            clear hE
            go_enter Tryd.func15, Tryd.ntmps15
            go_wp2_with fail
            refine HV.out.mono ?_
            rintro e w2 ⟨rfl, hb2⟩
            have hp3 := HP1.out.below (Nat.lt_succ_self g) hb2
            have HB2 := Lib.hid hb2
            have c0 := hp3.c0
            have c1 := hp3.c1
            have c2 := hp3.c2
            have HP2 := Lib.hid hp3
            have HZ2 : Hid (g + 1 ≤ w2.heap.size) := by have h := hb2.size; have h2 := HZ1.out; show _ ≤ _; omega
            clear hb2 HV d0' d1' d2' hp3
            go_wp2_with fail
            refine (HGO.out w2 HB2.out).mono ?_
            rintro e w3 ⟨rfl, hb3⟩
            have HB3 : Hid (Below g w w3) := HB1.out.trans ((HB2.out.trans (hb3.mono HZ2.out)).mono (by omega))
            have hp4 := HP2.out.below (show g < w2.heap.size by have := HZ2.out; omega) hb3
            have c0 := hp4.c0
            have c1 := hp4.c1
            have c2 := hp4.c2
            clear hb3 HGO hp4
            go_wp2_with fail
            refine (ref_elements p (.slice qa M qc) S w3 HPW.out (HQ.out.below (Nat.le_of_eq HGW.out) HB3.out)).mono ?_
            rintro e w4 ⟨rfl, rfl⟩
            rw [hel]
            go_wp2
            go_ret2
            exact ⟨_, rfl, HNI.out _ _, HB3.out⟩
          · have hM2 : 2048 < M := by
              by_cases h : 2048 < M
              · exact h
              · rw [if_neg (fun e => by rcases e with e | e; exact hk e; exact h e)] at hE; exact absurd rfl hE
            have hM3 : (2048 : Int) < (M : Int) := by omega
            rw [if_pos (Or.inr hM2)]
            clear hE hM2
            go_enter Tryd.func15, Tryd.ntmps15
            go_wp2_with fail
            refine HV.out.mono ?_
            rintro e w2 ⟨rfl, hb2⟩
            have hp3 := HP1.out.below (Nat.lt_succ_self g) hb2
            have HB2 := Lib.hid hb2
            have c0 := hp3.c0
            have c1 := hp3.c1
            have c2 := hp3.c2
            have HP2 := Lib.hid hp3
            have HZ2 : Hid (g + 1 ≤ w2.heap.size) := by have h := hb2.size; have h2 := HZ1.out; show _ ≤ _; omega
            clear hb2 HV d0' d1' d2' hp3
            go_wp2_with fail
            refine (HGO.out w2 HB2.out).mono ?_
            rintro e w3 ⟨rfl, hb3⟩
            have HB3 : Hid (Below g w w3) := HB1.out.trans ((HB2.out.trans (hb3.mono HZ2.out)).mono (by omega))
            have hp4 := HP2.out.below (show g < w2.heap.size by have := HZ2.out; omega) hb3
            have c0 := hp4.c0
            have c1 := hp4.c1
            have c2 := hp4.c2
            clear hb3 HGO hp4
            go_wp2_with fail
            refine (ref_elements p (.slice qa M qc) S w3 HPW.out (HQ.out.below (Nat.le_of_eq HGW.out) HB3.out)).mono ?_
            rintro e w4 ⟨rfl, rfl⟩
            rw [hel]
            go_wp2
            go_ret2
            exact ⟨_, rfl, HNI.out _ _, HB3.out⟩
end Go.Proofs.YtcgemfiinmjllaaDoor
