
/- The value through points does not hang on the order of the points. -/
import Derived.Test.YtgenollnnfljkaaDoorHXl
import Derived.Maps.OwnOps
import Derived.Maps.Views
/-! The value through points does not hang on the order of the points. -/
namespace Go.Proofs.YtgenollnnfljkaaDoor
open Go.RowKit Go.Sort
open Num
set_option linter.unusedVariables false

theorem ipv_perm {p : Int} (hp : PrmI p) {Z Z' : List (Int × Int)} (h : Z.Perm Z') (hn : (Z.map (·.1)).Nodup) (he : Els p (Z.map (·.1))) (hy : Els p (Z.map (·.2))) (x : Int) : ipv p (Z.map (·.1)) (Z.map (·.2)) x = ipv p (Z'.map (·.1)) (Z'.map (·.2)) x := by
  have hn' : (Z'.map (·.1)).Nodup := (h.map (·.1)).nodup_iff.1 hn
  have he' : Els p (Z'.map (·.1)) := fun y hm => he y ((h.map (·.1)).mem_iff.2 hm)
  have hll : Z.length = Z'.length := h.length_eq
  rw [ipv_lag p (Z'.map (·.1)) (Z'.map (·.2)) x]
  refine ipv_val hp hn he ?_ (fun j hj => ?_) x
  · have h1 := lag_len p (Z'.map (·.1)) (Z'.map (·.2)) _ (Nat.le_refl _)
    have h2 : (Z'.map (·.1)).length = (Z.map (·.1)).length := by rw [List.length_map, List.length_map, hll]
    exact Nat.le_trans h1 (Nat.le_of_eq h2)
  · rw [List.length_map] at hj
    have hz : Z[j] ∈ Z' := h.mem_iff.1 (List.getElem_mem hj)
    obtain ⟨i, hi, hzi⟩ := List.getElem_of_mem hz
    have e1 : (Z.map (·.1)).getD j 0 = (Z'.map (·.1)).getD i 0 := by simp [List.getD, hj, hi, hzi]
    have e2 : (Z.map (·.2)).getD j 0 = (Z'.map (·.2)).getD i 0 := by simp [List.getD, hj, hi, hzi]
    have hyi : El p ((Z'.map (·.2)).getD i 0) := by
      rw [← e2]
      exact hy _ (by simp only [List.getD_eq_getElem?_getD]; rw [List.getElem?_eq_getElem (by simpa using hj)]; exact List.getElem_mem _)
    have h2 := ipv_at hp hn' he' (j := i) (by simpa using hi) hyi
    rw [ipv_lag] at h2
    rw [e1, e2]
    have h3 : (E (lag p (Z'.map (·.1)) (Z'.map (·.2)) (Z'.map (·.1)).length) ((Z'.map (·.1)).getD i 0)) % p = ((Z'.map (·.2)).getD i 0) % p := by rw [h2, Int.emod_eq_of_lt hyi.1 hyi.2]
    exact Cg.of_mod h3
/-- The document's order of the points: the secret's behind the known ones. -/
theorem ipv_mid {p : Int} (hp : PrmI p) (xs ys fs gs : List Int) (a b : Int) (hl : ys.length = xs.length) (hl2 : gs.length = fs.length) (hn : (a :: (xs ++ fs)).Nodup) (he : Els p (a :: (xs ++ fs))) (hy : Els p (b :: (ys ++ gs))) (x : Int) :
    ipv p (xs ++ [a] ++ fs) (ys ++ [b] ++ gs) x = ipv p (a :: (xs ++ fs)) (b :: (ys ++ gs)) x := by
  have e1 : ∀ (u v : List Int), v.length = u.length → ((u.zip v).map (·.1)) = u := fun u v h => by rw [← List.unzip_fst, List.unzip_zip_left (by omega)]
  have e2 : ∀ (u v : List Int), v.length = u.length → ((u.zip v).map (·.2)) = v := fun u v h => by rw [← List.unzip_snd, List.unzip_zip_right (by omega)]
  have hpm : ((a, b) :: (xs.zip ys ++ fs.zip gs)).Perm (xs.zip ys ++ [(a, b)] ++ fs.zip gs) := by
    have h1 : (xs.zip ys ++ (a, b) :: fs.zip gs).Perm ((a, b) :: (xs.zip ys ++ fs.zip gs)) := List.perm_middle
    rw [List.append_assoc]
    exact h1.symm
  have m1 : ((a, b) :: (xs.zip ys ++ fs.zip gs)).map (·.1) = a :: (xs ++ fs) := by simp only [List.map_cons, List.map_append]; rw [e1 xs ys hl, e1 fs gs hl2]
  have m2 : ((a, b) :: (xs.zip ys ++ fs.zip gs)).map (·.2) = b :: (ys ++ gs) := by simp only [List.map_cons, List.map_append]; rw [e2 xs ys hl, e2 fs gs hl2]
  have m3 : (xs.zip ys ++ [(a, b)] ++ fs.zip gs).map (·.1) = xs ++ [a] ++ fs := by simp only [List.map_cons, List.map_append, List.map_nil]; rw [e1 xs ys hl, e1 fs gs hl2]
  have m4 : (xs.zip ys ++ [(a, b)] ++ fs.zip gs).map (·.2) = ys ++ [b] ++ gs := by simp only [List.map_cons, List.map_append, List.map_nil]; rw [e2 xs ys hl, e2 fs gs hl2]
  have h := ipv_perm hp hpm (by rw [m1]; exact hn) (by rw [m1]; exact he) (by rw [m2]; exact hy) x
  rw [m1, m2, m3, m4] at h
  exact h.symm
end Go.Proofs.YtgenollnnfljkaaDoor
/-! The document's Explain: where it gives an error. -/
namespace Go.Proofs.YtgenollnnfljkaaDoor
open Go.RowKit Go.Sort
open Num
set_option linter.unusedVariables false

set_option maxRecDepth 100000 in
set_option maxHeartbeats 8000000 in
theorem ref6_explain_err (p k n : Int) (s vs : Value) (L : List Shr) (S : List Int) (w : World) (hp : (Lit.int .i64 p).wf = true) (hs : Shares w s L) (hq : Ints w vs S) (hE : expE p k n L S ≠ 0) :
    Calls Tryd.prog 31 #[planV p k n, s, vs] w fun e w' => ∃ v, e = .returned (.tuple #[v, .int .i64 (expE p k n L S)]) ∧ SharesN w' w.heap.size v (expR p k n L S) ∧ Below w.heap.size w w' := by
  have hL : expR p k n L S = [] := by unfold expR; rw [if_neg hE]
  have HNI : Hid (∀ (W : World) (g : Nat), SharesN W g (.slice none 0 0) []) := fun W g => ⟨none, 0, rfl, by simp, by simp, by omega, fun h => absurd rfl h⟩
  rw [hL]
  unfold planV
  obtain ⟨a1, d1, rfl, hl, hld1, hd1, _⟩ := id hs
  obtain ⟨qa, qc, rfl⟩ := hq.shape
  obtain ⟨N, hN⟩ : ∃ N, L.length = N := ⟨_, rfl⟩
  obtain ⟨M, hM⟩ : ∃ M, S.length = M := ⟨_, rfl⟩
  rw [hN] at hs hl hld1 ⊢
  rw [hM] at hq ⊢
  have hMb : M ≤ 140737488355328 := by rw [← hM]; obtain ⟨_, _, _, h, _⟩ := hq; exact h
  obtain ⟨g, hgw⟩ : ∃ g, w.heap.size = g := ⟨_, rfl⟩
  obtain ⟨w1, hw1⟩ : ∃ w1, w.alloc (Obj.cells #[Value.int IntKind.i64 p, Value.int IntKind.i64 k, Value.int IntKind.i64 n] 30) = w1 := ⟨_, rfl⟩
  have hb1 : Below g w w1 := by rw [← hw1, ← hgw]; exact (Below.refl _ _).alloc (Nat.le_refl _) _
  have hp1 : PlanAt w1 g p k n := by rw [← hw1, ← hgw]; exact planAt_new _ _ _ _ _
  have hs1 : w1.heap.size = g + 1 := by rw [← hw1, ← hgw]; simp
  have HV := Lib.hid (ref6_valid p k n w1 hp)
  have HGO := Lib.hid (fun W (hW : Below (g + 1) w1 W) => ref6_good p k n (.slice a1 N d1) L W hp (hs.below (Nat.le_of_eq hgw) (hb1.trans (hW.mono (Nat.le_succ g)))))
  rw [hs1] at HV
  unfold planV at HV HGO
  obtain ⟨bp, hbp⟩ : ∃ b, planB p k n = b := ⟨_, rfl⟩
  obtain ⟨bg, hbg⟩ : ∃ b, goodB p n L = b := ⟨_, rfl⟩
  rw [hbp] at HV
  rw [hbg] at HGO
  have HB1 := Lib.hid hb1
  have HP1 := Lib.hid hp1
  have HZ1 := Lib.hid hs1
  have HS := Lib.hid hs
  have HQ := Lib.hid hq
  have d0' := hp1.c0
  have d1' := hp1.c1
  have d2' := hp1.c2
  have HGW := Lib.hid hgw
  rw [hgw]
  have HEE : Hid (expE p k n L S = if bp = true ∧ bg = true ∧ (0 < N → (L.getD 0 (0, [])).2.length = M) then (if elB p S = true then (if k ≤ (N : Int) ∨ 2048 < M then 3 else 0) else 2) else 1) := by show _ = _; unfold expE; rw [hbp, hbg, hN, hM]
  rw [HEE.out] at hE ⊢
  have HPW := Lib.hid hp
  clear hs hq hb1 hp1 hN hM hp hs1 hL hbp hbg HEE
  cases bp with
  | false =>
    rw [if_neg (by simp)]
    clear hE
    go_enter Tryd.func31, Tryd.ntmps31
    go_wp2_with fail
    refine HV.out.mono ?_
    rintro e w2 ⟨rfl, hb2⟩
    have HB2 := Lib.hid (HB1.out.trans (hb2.mono (by omega)))
    clear hb2 HV HGO
    go_wp2
    go_ret2
    exact ⟨_, rfl, HNI.out _ _, HB2.out⟩
  | true =>
    cases bg with
    | false =>
      rw [if_neg (by simp)]
      clear hE
      go_enter Tryd.func31, Tryd.ntmps31
      go_wp2_with fail
      refine HV.out.mono ?_
      rintro e w2 ⟨rfl, hb2⟩
      have hp3 := HP1.out.below (Nat.lt_succ_self g) hb2
      have HB2 := Lib.hid hb2
      have c0 := hp3.c0
      have c1 := hp3.c1
      have c2 := hp3.c2
      clear hb2 HV d0' d1' d2' hp3
      go_wp2_with fail
      refine (HGO.out w2 HB2.out).mono ?_
      rintro e w3 ⟨rfl, hb3⟩
      have HB3 : Hid (Below g w w3) := HB1.out.trans ((HB2.out.trans (hb3.mono (by have := HB2.out.size; have := HZ1.out; omega))).mono (by omega))
      clear hb3 HGO
      go_wp2
      go_ret2
      exact ⟨_, rfl, HNI.out _ _, HB3.out⟩
    | true =>
      obtain ⟨be, hel⟩ : ∃ b, elB p S = b := ⟨_, rfl⟩
      rw [hel] at hE ⊢
      by_cases hN0 : 0 < N
      · obtain ⟨bb, oo, vv, ha, _, k1, hi⟩ := HS.out.at hN0
        subst ha
        rw [Nat.zero_mul, Nat.add_zero] at k1
        obtain ⟨va, vc, rfl⟩ := hi.shape
        obtain ⟨m0, hm0⟩ : ∃ m, (L.getD 0 (0, [])).2.length = m := ⟨_, rfl⟩
        rw [hm0] at k1 hE ⊢
        have hN0i : (0 : Int) < (N : Int) := by omega
        clear hi
        by_cases hmm : m0 = M
        · subst hmm
          rw [if_pos ⟨rfl, rfl, fun _ => rfl⟩] at hE ⊢
          cases be with
          | false =>
            rw [if_neg (by simp)]
            clear hE
            go_enter Tryd.func31, Tryd.ntmps31
            go_wp2_with fail
            refine HV.out.mono ?_
            rintro e w2 ⟨rfl, hb2⟩
            have hp3 := HP1.out.below (Nat.lt_succ_self g) hb2
            have HB2 := Lib.hid hb2
            have c0 := hp3.c0
            have c1 := hp3.c1
            have c2 := hp3.c2
            have HP2 := Lib.hid hp3
            have HZ2 : Hid (g + 1 ≤ w2.heap.size) := by have h := hb2.size; have h2 := HZ1.out; show _ ≤ _; omega
            clear hb2 HV d0' d1' d2' hp3
            go_wp2_with fail
            refine (HGO.out w2 HB2.out).mono ?_
            rintro e w3 ⟨rfl, hb3⟩
            have HB3 : Hid (Below g w w3) := HB1.out.trans ((HB2.out.trans (hb3.mono HZ2.out)).mono (by omega))
            have hp4 := HP2.out.below (show g < w2.heap.size by have := HZ2.out; omega) hb3
            have c0 := hp4.c0
            have c1 := hp4.c1
            have c2 := hp4.c2
            clear hb3 HGO hp4
            have v1 : w3.cell? ⟨bb, oo + 1, none⟩ = some (.slice va m0 vc) := by rw [(HB3.out).cell (p := ⟨bb, oo + 1, none⟩) (by rw [← HGW.out]; exact cell_lt k1)]; exact k1
            go_wp2_with fail
            refine (ref_elements p (.slice qa m0 qc) S w3 HPW.out (HQ.out.below (Nat.le_of_eq HGW.out) HB3.out)).mono ?_
            rintro e w4 ⟨rfl, rfl⟩
            rw [hel]
            go_wp2
            go_ret2
            exact ⟨_, rfl, HNI.out _ _, HB3.out⟩
          | true =>
            rw [if_pos rfl] at hE ⊢
            by_cases hk : k ≤ (N : Int)
            · rw [if_pos (Or.inl hk)]
              clear hE
              go_enter Tryd.func31, Tryd.ntmps31
              go_wp2_with fail
              refine HV.out.mono ?_
              rintro e w2 ⟨rfl, hb2⟩
              have hp3 := HP1.out.below (Nat.lt_succ_self g) hb2
              have HB2 := Lib.hid hb2
              have c0 := hp3.c0
              have c1 := hp3.c1
              have c2 := hp3.c2
              have HP2 := Lib.hid hp3
              have HZ2 : Hid (g + 1 ≤ w2.heap.size) := by have h := hb2.size; have h2 := HZ1.out; show _ ≤ _; omega
              clear hb2 HV d0' d1' d2' hp3
              go_wp2_with fail
              refine (HGO.out w2 HB2.out).mono ?_
              rintro e w3 ⟨rfl, hb3⟩
              have HB3 : Hid (Below g w w3) := HB1.out.trans ((HB2.out.trans (hb3.mono HZ2.out)).mono (by omega))
              have hp4 := HP2.out.below (show g < w2.heap.size by have := HZ2.out; omega) hb3
              have c0 := hp4.c0
              have c1 := hp4.c1
              have c2 := hp4.c2
              clear hb3 HGO hp4
              have v1 : w3.cell? ⟨bb, oo + 1, none⟩ = some (.slice va m0 vc) := by rw [(HB3.out).cell (p := ⟨bb, oo + 1, none⟩) (by rw [← HGW.out]; exact cell_lt k1)]; exact k1
              go_wp2_with fail
              refine (ref_elements p (.slice qa m0 qc) S w3 HPW.out (HQ.out.below (Nat.le_of_eq HGW.out) HB3.out)).mono ?_
              rintro e w4 ⟨rfl, rfl⟩
              rw [hel]
              go_wp2
              go_ret2
              exact ⟨_, rfl, HNI.out _ _, HB3.out⟩
            · have hM2 : 2048 < m0 := by
                by_cases h : 2048 < m0
                · exact h
                · rw [if_neg (fun e => by rcases e with e | e; exact hk e; exact h e)] at hE; exact absurd rfl hE
              have hM3 : (2048 : Int) < (m0 : Int) := by omega
              rw [if_pos (Or.inr hM2)]
              clear hE hM2
              go_enter Tryd.func31, Tryd.ntmps31
              go_wp2_with fail
              refine HV.out.mono ?_
              rintro e w2 ⟨rfl, hb2⟩
              have hp3 := HP1.out.below (Nat.lt_succ_self g) hb2
              have HB2 := Lib.hid hb2
              have c0 := hp3.c0
              have c1 := hp3.c1
              have c2 := hp3.c2
              have HP2 := Lib.hid hp3
              have HZ2 : Hid (g + 1 ≤ w2.heap.size) := by have h := hb2.size; have h2 := HZ1.out; show _ ≤ _; omega
              clear hb2 HV d0' d1' d2' hp3
              go_wp2_with fail
              refine (HGO.out w2 HB2.out).mono ?_
              rintro e w3 ⟨rfl, hb3⟩
              have HB3 : Hid (Below g w w3) := HB1.out.trans ((HB2.out.trans (hb3.mono HZ2.out)).mono (by omega))
              have hp4 := HP2.out.below (show g < w2.heap.size by have := HZ2.out; omega) hb3
              have c0 := hp4.c0
              have c1 := hp4.c1
              have c2 := hp4.c2
              clear hb3 HGO hp4
              have v1 : w3.cell? ⟨bb, oo + 1, none⟩ = some (.slice va m0 vc) := by rw [(HB3.out).cell (p := ⟨bb, oo + 1, none⟩) (by rw [← HGW.out]; exact cell_lt k1)]; exact k1
              go_wp2_with fail
              refine (ref_elements p (.slice qa m0 qc) S w3 HPW.out (HQ.out.below (Nat.le_of_eq HGW.out) HB3.out)).mono ?_
              rintro e w4 ⟨rfl, rfl⟩
              rw [hel]
              go_wp2
              go_ret2
              exact ⟨_, rfl, HNI.out _ _, HB3.out⟩
        · rw [if_neg (fun e => hmm (e.2.2 hN0))]
          have hne : ((m0 : Int) != (M : Int)) = true := by simp only [bne_iff_ne, ne_eq]; omega
          clear hE
          go_enter Tryd.func31, Tryd.ntmps31
          go_wp2_with fail
          refine HV.out.mono ?_
          rintro e w2 ⟨rfl, hb2⟩
          have hp3 := HP1.out.below (Nat.lt_succ_self g) hb2
          have HB2 := Lib.hid hb2
          have c0 := hp3.c0
          have c1 := hp3.c1
          have c2 := hp3.c2
          have HP2 := Lib.hid hp3
          have HZ2 : Hid (g + 1 ≤ w2.heap.size) := by have h := hb2.size; have h2 := HZ1.out; show _ ≤ _; omega
          clear hb2 HV d0' d1' d2' hp3
          go_wp2_with fail
          refine (HGO.out w2 HB2.out).mono ?_
          rintro e w3 ⟨rfl, hb3⟩
          have HB3 : Hid (Below g w w3) := HB1.out.trans ((HB2.out.trans (hb3.mono HZ2.out)).mono (by omega))
          have hp4 := HP2.out.below (show g < w2.heap.size by have := HZ2.out; omega) hb3
          have c0 := hp4.c0
          have c1 := hp4.c1
          have c2 := hp4.c2
          clear hb3 HGO hp4
          have v1 : w3.cell? ⟨bb, oo + 1, none⟩ = some (.slice va m0 vc) := by rw [(HB3.out).cell (p := ⟨bb, oo + 1, none⟩) (by rw [← HGW.out]; exact cell_lt k1)]; exact k1
          go_wp2
          go_ret2
          exact ⟨_, rfl, HNI.out _ _, HB3.out⟩
      · obtain rfl : N = 0 := by omega
        rw [if_pos ⟨rfl, rfl, fun h => absurd h hN0⟩] at hE ⊢
        cases be with
        | false =>
          rw [if_neg (by simp)]
          clear hE
          go_enter Tryd.func31, Tryd.ntmps31
          go_wp2_with fail
          refine HV.out.mono ?_
          rintro e w2 ⟨rfl, hb2⟩
          have hp3 := HP1.out.below (Nat.lt_succ_self g) hb2
          have HB2 := Lib.hid hb2
          have c0 := hp3.c0
          have c1 := hp3.c1
          have c2 := hp3.c2
          have HP2 := Lib.hid hp3
          have HZ2 : Hid (g + 1 ≤ w2.heap.size) := by have h := hb2.size; have h2 := HZ1.out; show _ ≤ _; omega
          clear hb2 HV d0' d1' d2' hp3
          go_wp2_with fail
          refine (HGO.out w2 HB2.out).mono ?_
          rintro e w3 ⟨rfl, hb3⟩
          have HB3 : Hid (Below g w w3) := HB1.out.trans ((HB2.out.trans (hb3.mono HZ2.out)).mono (by omega))
          have hp4 := HP2.out.below (show g < w2.heap.size by have := HZ2.out; omega) hb3
          have c0 := hp4.c0
          have c1 := hp4.c1
          have c2 := hp4.c2
          clear hb3 HGO hp4
          go_wp2_with fail
          refine (ref_elements p (.slice qa M qc) S w3 HPW.out (HQ.out.below (Nat.le_of_eq HGW.out) HB3.out)).mono ?_
          rintro e w4 ⟨rfl, rfl⟩
          rw [hel]
          go_wp2
          go_ret2
          exact ⟨_, rfl, HNI.out _ _, HB3.out⟩
        | true =>
          rw [if_pos rfl] at hE ⊢
          by_cases hk : k ≤ ((0 : Nat) : Int)
          · rw [if_pos (Or.inl hk)]
            clear hE
            go_enter Tryd.func31, Tryd.ntmps31
            go_wp2_with fail
            refine HV.out.mono ?_
            rintro e w2 ⟨rfl, hb2⟩
            have hp3 := HP1.out.below (Nat.lt_succ_self g) hb2
            have HB2 := Lib.hid hb2
            have c0 := hp3.c0
            have c1 := hp3.c1
            have c2 := hp3.c2
            have HP2 := Lib.hid hp3
            have HZ2 : Hid (g + 1 ≤ w2.heap.size) := by have h := hb2.size; have h2 := HZ1.out; show _ ≤ _; omega
            clear hb2 HV d0' d1' d2' hp3
            go_wp2_with fail
            refine (HGO.out w2 HB2.out).mono ?_
            rintro e w3 ⟨rfl, hb3⟩
            have HB3 : Hid (Below g w w3) := HB1.out.trans ((HB2.out.trans (hb3.mono HZ2.out)).mono (by omega))
            have hp4 := HP2.out.below (show g < w2.heap.size by have := HZ2.out; omega) hb3
            have c0 := hp4.c0
            have c1 := hp4.c1
            have c2 := hp4.c2
            clear hb3 HGO hp4
            go_wp2_with fail
            refine (ref_elements p (.slice qa M qc) S w3 HPW.out (HQ.out.below (Nat.le_of_eq HGW.out) HB3.out)).mono ?_
            rintro e w4 ⟨rfl, rfl⟩
            rw [hel]
            go_wp2
            go_ret2
            exact ⟨_, rfl, HNI.out _ _, HB3.out⟩
          · have hM2 : 2048 < M := by
              by_cases h : 2048 < M
              · exact h
              · rw [if_neg (fun e => by rcases e with e | e; exact hk e; exact h e)] at hE; exact absurd rfl hE
            have hM3 : (2048 : Int) < (M : Int) := by omega
            rw [if_pos (Or.inr hM2)]
            clear hE hM2
            go_enter Tryd.func31, Tryd.ntmps31
            go_wp2_with fail
            refine HV.out.mono ?_
            rintro e w2 ⟨rfl, hb2⟩
            have hp3 := HP1.out.below (Nat.lt_succ_self g) hb2
            have HB2 := Lib.hid hb2
            have c0 := hp3.c0
            have c1 := hp3.c1
            have c2 := hp3.c2
            have HP2 := Lib.hid hp3
            have HZ2 : Hid (g + 1 ≤ w2.heap.size) := by have h := hb2.size; have h2 := HZ1.out; show _ ≤ _; omega
            clear hb2 HV d0' d1' d2' hp3
            go_wp2_with fail
            refine (HGO.out w2 HB2.out).mono ?_
            rintro e w3 ⟨rfl, hb3⟩
            have HB3 : Hid (Below g w w3) := HB1.out.trans ((HB2.out.trans (hb3.mono HZ2.out)).mono (by omega))
            have hp4 := HP2.out.below (show g < w2.heap.size by have := HZ2.out; omega) hb3
            have c0 := hp4.c0
            have c1 := hp4.c1
            have c2 := hp4.c2
            clear hb3 HGO hp4
            go_wp2_with fail
            refine (ref_elements p (.slice qa M qc) S w3 HPW.out (HQ.out.below (Nat.le_of_eq HGW.out) HB3.out)).mono ?_
            rintro e w4 ⟨rfl, rfl⟩
            rw [hel]
            go_wp2
            go_ret2
            exact ⟨_, rfl, HNI.out _ _, HB3.out⟩
end Go.Proofs.YtgenollnnfljkaaDoor
/-! The holders that are held: a map of the call's own, of booleans. -/
namespace Go.Proofs.YtgenollnnfljkaaDoor
open Go.RowKit Go.Sort
open Go.Maps (Keyed int_keyed)
open Num
set_option linter.unusedVariables false

theorem intKeys : Keyed Tryd.prog 3 := int_keyed Tryd.underlying3
theorem zeroBoolM (w : World) : (zeroValue 4).run Tryd.prog w = .ok (.bool false) w := by kernel_rfl
/-- Block b is a map that says of every number whether it stands in the list. -/
def HeldAt (w : World) (b n : Nat) (xs : List Int) : Prop := ∃ D : DataW Unit, w.ownsMap Tryd.prog 3 (plainElem Tryd.prog 4) b n D ∧ Go.Maps.IsMap D ∧ ∀ h : Int, (Lit.int .i64 h).wf = true → D.atKey (.int .i64 h) (.lit (.bool false)) = .lit (.bool (decide (h ∈ xs)))
theorem heldAt_made (w : World) : HeldAt (w.alloc (.map #[] 0)) w.heap.size 0 [] := ⟨_, World.ownsMap_made _ _ _ _, ⟨[], rfl⟩, fun h _ => by simp [DataW.atKey]⟩
theorem HeldAt.kept {w w' : World} {b n : Nat} {xs : List Int} {row : Option Nat} (h : HeldAt w b n xs) (k : w.grownBy w' row) (hne : some b ≠ row) : HeldAt w' b n xs := by
  obtain ⟨D, h1, h2⟩ := h
  exact ⟨D, h1.kept k hne, h2⟩
set_option maxRecDepth 100000 in
theorem HeldAt.look {w : World} {b n : Nat} {xs : List Int} (h : HeldAt w b n xs) {t : TypeId} (ht : Tryd.prog.underlying t = some (.map 3 4)) (x : Int) (hx : (Lit.int .i64 x).wf = true) : (Instr.lookup t (.map (some b)) (.int .i64 x) false).run Tryd.prog w = .ok (.bool (decide (x ∈ xs))) w := by
  obtain ⟨D, h1, _, h2⟩ := h
  obtain ⟨v, ps, hrun, hv⟩ := h1.lookup intKeys ht (zeroBoolM w) (plainElem_bool Tryd.underlying4 false) (Go.Maps.keyOf_int_mk Tryd.underlying3 hx)
  rw [h2 x hx] at hv
  have : v = .bool (decide (x ∈ xs)) := by
    unfold plainElem at hv
    rw [Tryd.underlying4] at hv
    cases v with
    | bool y =>
      simp only [Option.some.injEq, Prod.mk.injEq, DataW.lit.injEq, Lit.bool.injEq] at hv
      rw [hv.1]
    | _ => simp at hv
  rw [hrun, this]
set_option maxRecDepth 100000 in
theorem HeldAt.put {w : World} {b n : Nat} {xs : List Int} (h : HeldAt w b n xs) {t : TypeId} (ht : Tryd.prog.underlying t = some (.map 3 4)) (x : Int) (hx : (Lit.int .i64 x).wf = true) (hn : n < maxLen) :
    ∃ w', (Instr.mapUpdate t (.map (some b)) (.int .i64 x) (.bool true)).run Tryd.prog w = .ok () w' ∧ HeldAt w' b (n + 1) (xs ++ [x]) ∧ w.grownBy w' (some b) := by
  obtain ⟨D, h1, hm, h2⟩ := h
  obtain ⟨w', hrun, h3, h4⟩ := h1.update intKeys ht hn (Go.Maps.keyOf_int_mk Tryd.underlying3 hx) (plainElem_bool Tryd.underlying4 true)
  refine ⟨w', hrun, ⟨_, h3, Go.Maps.IsMap.put hm _ _, fun y hy => ?_⟩, h4⟩
  by_cases e : y = x
  · subst e
    rw [Go.Maps.atKey_put_same hm (by simp [WideAt.IsKeyLit])]
    simp
  · rw [Go.Maps.atKey_put_other (fun e2 => e (by simpa using e2)), h2 y hy]
    simp [e]
end Go.Proofs.YtgenollnnfljkaaDoor
