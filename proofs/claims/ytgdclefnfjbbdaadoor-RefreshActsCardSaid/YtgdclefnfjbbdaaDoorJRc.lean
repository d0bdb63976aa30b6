
/- The document's Checks. -/
import Derived.Test.YtgdclefnfjbbdaaDoorJRz
namespace Go.Proofs.YtgdclefnfjbbdaaDoor
open Go.RowKit Go.Sort
open Num
set_option linter.unusedVariables false

theorem combE_fit {p k n : Int} {L : List Shr} (h1 : ofAllB n L = true) (h2 : fitB p k n L = true) : combE p k n L = 0 := by
  have hq : planB p k n = true ∧ goodB p n L = true := by
    apply Classical.byContradiction
    intro h
    rw [fitB_false (fun e => h ⟨e.1, e.2.1⟩)] at h2
    cases h2
  unfold ofAllB at h1
  rw [Bool.and_eq_true, decide_eq_true_eq] at h1
  have := planB_parts hq.1
  unfold combE
  rw [if_pos hq, if_neg (by omega)]
set_option maxRecDepth 100000 in
set_option maxHeartbeats 8000000 in
theorem ref8_checks (p k n : Int) (v : Value) (L : List Shr) (w : World) (hp : (Lit.int .i64 p).wf = true) (hs : Shares w v L) :
    Calls Tryd.prog 28 #[planV p k n, v] w fun e w' => e = .returned (.bool (chkB p k n L)) ∧ Below w.heap.size w w' := by
  obtain ⟨a, c, rfl, hl, _⟩ := id hs
  obtain ⟨N, hN⟩ : ∃ N, L.length = N := ⟨_, rfl⟩
  rw [hN] at hs hl ⊢
  obtain ⟨g, hg⟩ : ∃ g, w.heap.size = g := ⟨_, rfl⟩
  obtain ⟨w1, hw1⟩ : ∃ w1, w.alloc (.cells #[.int .i64 p, .int .i64 k, .int .i64 n] 30) = w1 := ⟨_, rfl⟩
  have hb1 : Below g w w1 := by rw [← hw1, ← hg]; exact (Below.refl _ _).alloc (Nat.le_refl _) _
  have hP1 : PlanAt w1 g p k n := by rw [← hw1, ← hg]; exact planAt_new w p k n _
  have hg1 : g < w1.heap.size := hP1.lt
  have HFI := Lib.hid (ref6_fits p k n (.slice a N c) L w1 hp (hs.below (Nat.le_of_eq hg) hb1))
  have HSH : Hid (∀ W, Below g w W → Shares W (.slice a N c) L) := fun W b => hs.below (Nat.le_of_eq hg) b
  have HCO := Lib.hid (fun W (b : Below g w W) => ref6_combine_any p k n (.slice a N c) L W hp (HSH.out W b))
  have HSM := Lib.hid (combL_small p k n L)
  have HP1 := Lib.hid hP1
  have HB1 := Lib.hid hb1
  have c0 := hP1.c0
  have c1 := hP1.c1
  have c2 := hP1.c2
  have HG1 := Lib.hid hg1
  have HN := Lib.hid hN
  unfold planV at HFI HCO ⊢
  rw [hg]
  clear hs hb1 hP1 hp hg1 hN
  by_cases hne : (N : Int) = n
  case neg =>
    have HE : Hid (chkB p k n L = false) := by
      show _ = _
      unfold chkB ofAllB
      rw [HN.out, decide_eq_false hne]; rfl
    have n1 : ((N : Int) != n) = true := by simpa using hne
    clear hne
    go_enter Tryd.func28, Tryd.ntmps28
    go_wp2
    go_ret
    exact ⟨congrArg (fun b => Ending.returned (Value.bool b)) HE.out.symm, HB1.out⟩
  have n1 : ((N : Int) != n) = false := by simpa using hne
  have HNE := Lib.hid hne
  clear hne
  cases hfi : fitB p k n L with
  | false =>
    rw [hfi] at HFI
    have HE : Hid (chkB p k n L = false) := by show _ = _; unfold chkB; rw [hfi, Bool.and_false]; rfl
    clear hfi
    go_enter Tryd.func28, Tryd.ntmps28
    go_wp2_with fail
    refine HFI.out.mono ?_
    rintro e w2 ⟨rfl, hb⟩
    have HB2 := Lib.hid (HB1.out.trans (hb.mono (Nat.le_of_lt HG1.out)))
    clear hb c0 c1 c2
    go_wp2
    go_ret
    exact ⟨congrArg (fun b => Ending.returned (Value.bool b)) HE.out.symm, HB2.out⟩
  | true =>
  rw [hfi] at HFI
  have HFT := Lib.hid hfi
  clear hfi
  go_enter Tryd.func28, Tryd.ntmps28
  go_wp2_with fail
  refine HFI.out.mono ?_
  rintro e w2 ⟨rfl, hb⟩
  have HP2 := Lib.hid (HP1.out.below HG1.out hb)
  have HB2 := Lib.hid (HB1.out.trans (hb.mono (Nat.le_of_lt HG1.out)))
  have HW0 : Hid (Below w2.heap.size w2 w2) := Below.refl _ _
  clear hb c0 c1 c2 n1 HFI
  go_wp2_with fail
  go_loopw [5, 6, 24] (fun _ _ i wr => ∃ j : Nat, j ≤ N ∧ i = .int .i64 j ∧ Hid (∀ t, t < j → (L.getD t (0, [])).1 = ((t + 1 : Nat) : Int)) ∧ Hid (Below w2.heap.size w2 wr)) (fun _ _ i _ => N - (intOf i).toNat)
  case atStart => exact ⟨0, Nat.zero_le _, rfl, fun t ht => by omega, HW0⟩
  case round =>
    obtain ⟨j, hj, rfl, HA, HW⟩ := hrel
    have hg2 : g < w2.heap.size := HP2.out.lt
    have HBW : Hid (Below g w wr) := HB2.out.trans (HW.out.mono (Nat.le_of_lt hg2))
    have hgw : w2.heap.size ≤ wr.heap.size := HW.out.size
    by_cases hlt : j < N
    · obtain ⟨b1, o1, v1, rfl, c0, c1, hi1⟩ := (HSH.out wr HBW.out).at hlt
      obtain ⟨a1, d1, rfl⟩ := hi1.shape
      obtain ⟨h, hh⟩ : ∃ h, (L.getD j (0, [])).1 = h := ⟨_, rfl⟩
      rw [hh] at c0
      have hw1 : IntKind.i64.wrap ((j : Int) + 1) = (j : Int) + 1 := by rw [IntKind.wrap_i64]; omega
      have HBA : Hid (Below w2.heap.size w2 (wr.alloc (.cells #[.int .i64 h, .slice a1 (L.getD j (0, [])).2.length d1] 36))) := HW.out.alloc hgw _
      by_cases he : h = (j : Int) + 1
      · have HX : Hid (∀ t, t < j + 1 → (L.getD t (0, [])).1 = ((t + 1 : Nat) : Int)) := fun t ht => by
          by_cases e : t = j
          · subst e; rw [hh, he]; push_cast; rfl
          · exact HA.out t (by omega)
        subst he
        clear hi1 hgw hh hg2
        generalize (L.getD j (0, [])).2.length = n1 at *
        go_wp2_with fail
        go_roundw
        case rel => exact ⟨j + 1, by omega, by go_num, HX, HBA⟩
        case measure => simp [intOf]; omega
      · have HX : Hid (chkB p k n L = false) := by
          show _ = _
          unfold chkB ofAllB
          rw [decide_eq_false (p := ∀ i, i < L.length → _) (fun h2 => he (by have := h2 j (by rw [HN.out]; exact hlt); rw [hh] at this; rw [this]; push_cast; rfl)), Bool.and_false]
          rfl
        have hne : (h != (j : Int) + 1) = true := by simpa using he
        have HBF : Hid (Below g w (wr.alloc (.cells #[.int .i64 h, .slice a1 (L.getD j (0, [])).2.length d1] 36))) := HB2.out.trans (HBA.out.mono (Nat.le_of_lt hg2))
        clear hi1 hgw hh hg2
        generalize (L.getD j (0, [])).2.length = n1 at *
        go_wp2_with fail
        go_ret
        exact ⟨congrArg (fun b => Ending.returned (Value.bool b)) HX.out.symm, HBF.out⟩
    · obtain rfl : j = N := by omega
      have hof : ofAllB n L = true := by
        unfold ofAllB
        rw [Bool.and_eq_true, decide_eq_true_eq, decide_eq_true_eq, HN.out]
        exact ⟨HNE.out, HA.out⟩
      have HCE := Lib.hid (combE_fit hof HFT.out)
      have HE : Hid (chkB p k n L = (combL p k n L).all (· == 0)) := by show _ = _; unfold chkB; rw [hof, HFT.out]; rfl
      have hpw := HP2.out.below hg2 HW.out
      have c0 := hpw.c0
      have c1 := hpw.c1
      have c2 := hpw.c2
      have HC := Lib.hid (HCO.out wr HBW.out)
      rw [HCE.out] at HC
      have HGW := Lib.hid (show g ≤ wr.heap.size by omega)
      clear hof hpw hgw hg2
      go_wp2_with fail
      refine HC.out.mono ?_
      rintro e w4 ⟨v', rfl, hi, hb⟩
      obtain ⟨X, hX⟩ : ∃ X, combL p k n L = X := ⟨_, rfl⟩
      rw [hX] at hi HE HSM
      have hi := hi.reads HSM.out
      obtain ⟨va, vc, rfl⟩ := hi.shape
      have HB4 := Lib.hid (HBW.out.trans (hb.mono HGW.out))
      obtain ⟨nx, hnx⟩ : ∃ nx, X.length = nx := ⟨_, rfl⟩
      rw [hnx] at hi HSM ⊢
      have HI := Lib.hid hi
      have HNX := Lib.hid hnx
      have hnb : nx ≤ 140737488355328 := HSM.out
      clear hb hi hX c0 c1 c2 hnx HC HCO
      go_wp2_with fail
      go_loop [10, 43] (fun _ i => ∃ t : Nat, t ≤ nx ∧ i = .int .i64 t ∧ Hid (∀ j, j < t → X.getD j 0 = 0)) (fun _ i => nx - (intOf i).toNat)
      case atStart => exact ⟨0, Nat.zero_le _, rfl, fun t ht => by omega⟩
      case round =>
        obtain ⟨t, ht, rfl, HT⟩ := hrel
        by_cases hlt2 : t < nx
        · obtain ⟨bx, ox, rfl, cx0⟩ := HI.out.pos hlt2
          obtain ⟨x, hx⟩ : ∃ x, X.getD t 0 = x := ⟨_, rfl⟩
          rw [hx] at cx0
          by_cases hx0 : x = 0
          · have HX : Hid (∀ j, j < t + 1 → X.getD j 0 = 0) := fun j hj => by
              by_cases e : j = t
              · subst e; rw [hx]; exact hx0
              · exact HT.out j (by omega)
            subst hx0
            clear hx
            go_wp2_with fail
            go_round
            case rel => exact ⟨t + 1, by omega, by go_num, HX⟩
            case measure => simp [intOf]; omega
          · have HX : Hid (chkB p k n L = false) := by
              show _ = _
              rw [HE.out]
              refine List.all_eq_false.2 ⟨x, ?_, by simpa using hx0⟩
              rw [← hx, getD_lt (by rw [HNX.out]; exact hlt2)]
              exact List.getElem_mem _
            have hxn : (x != 0) = true := by simpa using hx0
            clear hx hx0
            go_wp2_with fail
            go_ret
            exact ⟨congrArg (fun b => Ending.returned (Value.bool b)) HX.out.symm, HB4.out⟩
        · obtain rfl : t = nx := by omega
          have HX : Hid (chkB p k n L = true) := by
            show _ = _
            rw [HE.out]
            refine List.all_eq_true.2 fun x hx => ?_
            obtain ⟨i, hi, rfl⟩ := List.mem_iff_getElem.1 hx
            have := HT.out i (by rw [← HNX.out]; exact hi)
            rw [getD_lt hi] at this
            simpa using this
          go_wp2_with fail
          go_ret
          exact ⟨congrArg (fun b => Ending.returned (Value.bool b)) HX.out.symm, HB4.out⟩
end Go.Proofs.YtgdclefnfjbbdaaDoor
