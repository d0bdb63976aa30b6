
/- The program's package refresh: Checks and Zero. -/
import Derived.Test.YtgdclefnfjbbdaaDoorJPr3
namespace Go.Proofs.YtgdclefnfjbbdaaDoor
open Go.RowKit Go.Sort
open Num
set_option linter.unusedVariables false

set_option maxRecDepth 100000 in
set_option maxHeartbeats 8000000 in
theorem refresh_checks (p k n : Int) (v : Value) (L : List Shr) (w : World) (hw : Wheel w) (hp : (Lit.int .i64 p).wf = true) (hs : Shares w v L) :
    Calls Tryd.prog 27 #[planV p k n, v] w fun e w' => e = .returned (.bool (chkB p k n L)) ∧ Below w.heap.size w w' := by
  obtain ⟨a, c, rfl, hl, _⟩ := id hs
  obtain ⟨N, hN⟩ : ∃ N, L.length = N := ⟨_, rfl⟩
  rw [hN] at hs hl ⊢
  obtain ⟨g, hg⟩ : ∃ g, w.heap.size = g := ⟨_, rfl⟩
  obtain ⟨w1, hw1⟩ : ∃ w1, w.alloc (.cells #[.int .i64 p, .int .i64 k, .int .i64 n] 30) = w1 := ⟨_, rfl⟩
  have hb1 : Below g w w1 := by rw [← hw1, ← hg]; exact (Below.refl _ _).alloc (Nat.le_refl _) _
  have hP1 : PlanAt w1 g p k n := by rw [← hw1, ← hg]; exact planAt_new w p k n _
  have HOF := Lib.hid (refresh_ofAll p k n (.slice a N c) L w1 (hs.below (Nat.le_of_eq hg) hb1))
  have hg1 : g < w1.heap.size := hP1.lt
  have HFI := Lib.hid (fun W (b : Below w1.heap.size w1 W) => share_fits p k n (.slice a N c) L W (hw.below (by rw [← hg]; exact hw.size) (hb1.trans (b.mono (by omega)))) hp (hs.below (Nat.le_of_eq hg) (hb1.trans (b.mono (by omega)))))
  have HCO := Lib.hid (fun W (b : Below w1.heap.size w1 W) => share_combine p k n (.slice a N c) L W (hw.below (by rw [← hg]; exact hw.size) (hb1.trans (b.mono (by omega)))) hp (hs.below (Nat.le_of_eq hg) (hb1.trans (b.mono (by omega)))))
  have HSM := Lib.hid (combL_small p k n L)
  have HP1 := Lib.hid hP1
  have HB1 := Lib.hid hb1
  have c0 := hP1.c0
  have c1 := hP1.c1
  have c2 := hP1.c2
  have HG1 := Lib.hid hg1
  unfold planV at HOF HFI HCO ⊢
  rw [hg]
  clear hs hb1 hP1 hp hw hg1
  cases hof : ofAllB n L with
  | false =>
    rw [hof] at HOF
    have HE : Hid (chkB p k n L = false) := by show _ = _; unfold chkB; rw [hof]; rfl
    clear hof
    go_enter Tryd.func27, Tryd.ntmps27
    go_wp2_with fail
    refine HOF.out.mono ?_
    rintro e w2 ⟨rfl, hb⟩
    have HB2 := Lib.hid (HB1.out.trans (hb.mono (Nat.le_of_lt HG1.out)))
    clear hb c0 c1 c2
    go_wp2
    go_ret
    exact ⟨congrArg (fun b => Ending.returned (Value.bool b)) HE.out.symm, HB2.out⟩
  | true =>
  rw [hof] at HOF
  cases hfi : fitB p k n L with
  | false =>
    rw [hfi] at HFI
    have HE : Hid (chkB p k n L = false) := by show _ = _; unfold chkB; rw [hfi, Bool.and_false]; rfl
    clear hof hfi
    go_enter Tryd.func27, Tryd.ntmps27
    go_wp2_with fail
    refine HOF.out.mono ?_
    rintro e w2 ⟨rfl, hb⟩
    have hp2 := HP1.out.below HG1.out hb
    have d0 := hp2.c0
    have d1 := hp2.c1
    have d2 := hp2.c2
    have HF := Lib.hid (HFI.out w2 hb)
    have HB2 := Lib.hid hb
    clear hb c0 c1 c2 hp2
    go_wp2_with fail
    refine HF.out.mono ?_
    rintro e w3 ⟨rfl, hb⟩
    have HB3 := Lib.hid ((HB1.out.trans (HB2.out.mono (Nat.le_of_lt HG1.out))).trans (hb.mono (by have := HB2.out.size; have := HG1.out; omega)))
    clear hb d0 d1 d2
    go_wp2
    go_ret
    exact ⟨congrArg (fun b => Ending.returned (Value.bool b)) HE.out.symm, HB3.out⟩
  | true =>
  rw [hfi] at HFI
  have HE : Hid (chkB p k n L = !(combL p k n L).any (· != 0)) := by
    show _ = _
    unfold chkB
    rw [hof, hfi]
    rw [List.all_eq_not_any_not]
    rfl
  clear hof hfi
  go_enter Tryd.func27, Tryd.ntmps27
  go_wp2_with fail
  refine HOF.out.mono ?_
  rintro e w2 ⟨rfl, hb⟩
  have hp2 := HP1.out.below HG1.out hb
  have d0 := hp2.c0
  have d1 := hp2.c1
  have d2 := hp2.c2
  have HP2 := Lib.hid hp2
  have HF := Lib.hid (HFI.out w2 hb)
  have HB2 := Lib.hid hb
  clear hb c0 c1 c2 hp2
  go_wp2_with fail
  refine HF.out.mono ?_
  rintro e w3 ⟨rfl, hb⟩
  have HB3 := Lib.hid (HB2.out.trans (hb.mono HB2.out.size))
  have hp3 := HP2.out.below HP2.out.lt hb
  have c0 := hp3.c0
  have c1 := hp3.c1
  have c2 := hp3.c2
  have HC := Lib.hid (HCO.out w3 HB3.out)
  clear hb d0 d1 d2 hp3
  go_wp2_with fail
  refine HC.out.mono ?_
  rintro e w4 ⟨v', rfl, hi, hb⟩
  obtain ⟨X, hX⟩ : ∃ X, combL p k n L = X := ⟨_, rfl⟩
  rw [hX] at hi HE HSM
  have hi := hi.reads HSM.out
  obtain ⟨va, vc, rfl⟩ := hi.shape
  have HB4 := Lib.hid ((HB1.out.trans (HB3.out.mono (Nat.le_of_lt HG1.out))).trans (hb.mono (by have := HB3.out.size; have := HG1.out; omega)))
  obtain ⟨nx, hnx⟩ : ∃ nx, X.length = nx := ⟨_, rfl⟩
  rw [hnx] at hi ⊢
  have HN := Lib.hid (contains_nonzero va nx vc X w4 hi hnx (by rw [← hnx]; exact HSM.out))
  obtain ⟨y, hy⟩ : ∃ y, X.any (· != 0) = y := ⟨_, rfl⟩
  rw [hy] at HN HE
  clear hb hi hX c0 c1 c2 hnx hy
  go_wp2_with fail
  refine HN.out.mono ?_
  rintro e w5 ⟨rfl, rfl⟩
  go_wp2
  go_ret
  exact ⟨congrArg (fun b => Ending.returned (Value.bool b)) HE.out.symm, HB4.out⟩

/-- What Zero answers, for counts up to the most. -/
noncomputable def zeroE (p k n c : Int) (r : List Int) : Int := if planB p k n = true then (if c < 0 then 2 else if 2048 < c then 3 else dealE p k n (List.replicate c.toNat 0) r) else 1
noncomputable def zeroR (p k n c : Int) (r : List Int) : List Shr := if zeroE p k n c r = 0 then dealF p (k - 1).toNat n.toNat (List.replicate c.toNat 0) r else []
theorem slc_made (w : World) (C : Nat) (hC : C ≤ 100000) (q : Nat) (hq : w.heap.size = q) : Slc (w.alloc (.cells (madeCells #[.int .i64 0] C) 3)) (.slice (some ⟨q, 0, none⟩) C C) (List.replicate C 0) := by
  subst hq
  have h := row_gath (base := w.heap.size) (f := fun _ => 0) (World.rowIs_made w (.int .i64 0) C 3) (Nat.le_refl _) (by unfold maxLen; omega)
  rw [show (List.range C).map (fun _ => (0 : Int)) = List.replicate C 0 from List.ext_getElem (by rw [List.length_map, List.length_range, List.length_replicate]) (fun i h1 h2 => by rw [List.getElem_map, List.getElem_replicate])] at h
  exact h.slc (by rw [List.length_replicate]; omega)
theorem els_zeroL {p : Int} (hp : 1 ≤ p) (C : Nat) : Els p (List.replicate C 0) := fun x hx => by
  rw [List.eq_of_mem_replicate hx]; exact ⟨by omega, by omega⟩
theorem zero_ok {p k n c : Int} {K N C : Nat} {r : List Int} (hp : planB p k n = true) (hk : k - 1 = (K : Int)) (hn : n = (N : Int)) (hc : c = (C : Int)) (hC : C ≤ 2048) (hr : Els p r) (hl : r.length = C * K) : zeroE p k n c r = 0 ∧ zeroR p k n c r = dealF p K N (List.replicate C 0) r := by
  have hp1 : 1 ≤ p := by have := (planB_parts hp).1.1; omega
  have hd := deal_ok_of (K := K) (N := N) (s := List.replicate C 0) (r := r) hp hk hn (els_zeroL hp1 C) hr (by simpa using hl)
  have e : zeroE p k n c r = 0 := by
    unfold zeroE
    rw [if_pos hp, if_neg (by omega), if_neg (by omega), hc, Int.toNat_natCast]
    exact hd.1
  refine ⟨e, ?_⟩
  unfold zeroR
  rw [if_pos e, hk, hn, hc, Int.toNat_natCast, Int.toNat_natCast, Int.toNat_natCast]
set_option maxRecDepth 100000 in
set_option maxHeartbeats 8000000 in
theorem refresh_zero (p k n c : Int) (vr : Value) (r : List Int) (w : World) (hw : Wheel w) (hp : (Lit.int .i64 p).wf = true) (hc : c ≤ 2048) (hr : Slc w vr r) (hrl : r.length ≤ 1000000) :
    Calls Tryd.prog 19 #[planV p k n, .int .i64 c, vr] w fun e w' => ∃ v, e = .returned (.tuple #[v, .int .i64 (zeroE p k n c r)]) ∧ SharesN w' w.heap.size v (zeroR p k n c r) ∧ Below w.heap.size w w' := by
  obtain ⟨ra, rc, rfl, _, _, _⟩ := id hr
  obtain ⟨R, hR⟩ : ∃ R, r.length = R := ⟨_, rfl⟩
  rw [hR] at hr hrl ⊢
  obtain ⟨g, hg⟩ : ∃ g, w.heap.size = g := ⟨_, rfl⟩
  obtain ⟨w1, hw1⟩ : ∃ w1, w.alloc (.cells #[.int .i64 p, .int .i64 k, .int .i64 n] 30) = w1 := ⟨_, rfl⟩
  have hb1 : Below g w w1 := by rw [← hw1, ← hg]; exact (Below.refl _ _).alloc (Nat.le_refl _) _
  have hP1 : PlanAt w1 g p k n := by rw [← hw1, ← hg]; exact planAt_new w p k n _
  have hW1 : Wheel w1 := hw.below (by rw [← hg]; exact hw.size) hb1
  have HV := Lib.hid (share_valid p k n w1 hW1 hp)
  have HWG : Hid (0 < g) := by show _ < _; rw [← hg]; exact hw.size
  have HRW : Hid (∀ W, Below g w W → Slc W (.slice ra R rc) r) := fun W b => hr.below (Nat.le_of_eq hg) b
  have HR := Lib.hid hR
  have HP1 := Lib.hid hP1
  have HB1 := Lib.hid hb1
  have HW1 := Lib.hid hW1
  have HPW := Lib.hid hp
  have c0 := hP1.c0
  have c1 := hP1.c1
  have c2 := hP1.c2
  unfold planV at HV ⊢
  rw [hg]
  clear hr hR hb1 hP1 hW1 hp hw
  cases hpl : planB p k n with
  | false =>
    rw [hpl] at HV
    have HE : Hid (zeroE p k n c r = 1 ∧ zeroR p k n c r = []) := by
      have e : zeroE p k n c r = 1 := by unfold zeroE; rw [if_neg (by rw [hpl]; simp)]
      exact ⟨e, by unfold zeroR; rw [if_neg (by omega)]⟩
    clear hpl
    go_enter Tryd.func19, Tryd.ntmps19
    go_wp2_with fail
    refine HV.out.mono ?_
    rintro e w2 ⟨rfl, hb⟩
    have HB2 := Lib.hid (HB1.out.trans (hb.mono (Nat.le_of_lt HP1.out.lt)))
    clear hb c0 c1 c2
    go_wp2
    go_ret2
    exact ⟨.slice none 0 0, by rw [HE.out.1]; rfl, by rw [HE.out.2]; exact sharesN_nil _ _, HB2.out⟩
  | true =>
  rw [hpl] at HV
  by_cases hneg : c < 0
  · have HE : Hid (zeroE p k n c r = 2 ∧ zeroR p k n c r = []) := by
      have e : zeroE p k n c r = 2 := by unfold zeroE; rw [if_pos hpl, if_pos hneg]
      exact ⟨e, by unfold zeroR; rw [if_neg (by omega)]⟩
    clear hpl
    go_enter Tryd.func19, Tryd.ntmps19
    go_wp2_with fail
    refine HV.out.mono ?_
    rintro e w2 ⟨rfl, hb⟩
    have HB2 := Lib.hid (HB1.out.trans (hb.mono (Nat.le_of_lt HP1.out.lt)))
    clear hb c0 c1 c2
    go_wp2
    go_ret2
    exact ⟨.slice none 0 0, by rw [HE.out.1]; rfl, by rw [HE.out.2]; exact sharesN_nil _ _, HB2.out⟩
  · obtain ⟨C, rfl⟩ := Int.eq_ofNat_of_zero_le (show 0 ≤ c by omega)
    have hC : C ≤ 2048 := by omega
    have HE : Hid (zeroE p k n (C : Int) r = dealE p k n (List.replicate C 0) r ∧ zeroR p k n (C : Int) r = dealR p k n (List.replicate C 0) r) := by
      have e : zeroE p k n (C : Int) r = dealE p k n (List.replicate C 0) r := by unfold zeroE; rw [if_pos hpl, if_neg hneg, if_neg (by omega), Int.toNat_natCast]
      refine ⟨e, ?_⟩
      unfold zeroR dealR
      rw [e, Int.toNat_natCast]
    clear hpl
    have hmk := run_make_row' (P := Tryd.prog) 22 3 (.int .i64 0) 8 Tryd.underlying22 infoInt rfl .i64 .i64 C (by omega) (by omega)
    have hc9 : (C : Int) ≤ 2049 := by omega
    go_enter Tryd.func19, Tryd.ntmps19
    go_wp2_with fail
    refine HV.out.mono ?_
    rintro e w2 ⟨rfl, hb⟩
    have hp2 := HP1.out.below HP1.out.lt hb
    have d0 := hp2.c0
    have d1 := hp2.c1
    have d2 := hp2.c2
    have HB2 := Lib.hid (HB1.out.trans (hb.mono (Nat.le_of_lt HP1.out.lt)))
    have HW2 := Lib.hid (HW1.out.below (by have := HWG.out; have := HP1.out.lt; omega) hb)
    have HZ2 : Hid (g < w2.heap.size) := hp2.lt
    have HP2 := Lib.hid hp2
    obtain ⟨q, hq⟩ : ∃ q, w2.heap.size = q := ⟨_, rfl⟩
    have hal : Below q w2.drew (w2.drew.alloc (.cells (madeCells #[.int .i64 0] C) 3)) := (Below.refl q w2.drew).alloc (show q ≤ w2.heap.size by omega) _
    have HBD : Hid (Below g w (w2.drew.alloc (.cells (madeCells #[.int .i64 0] C) 3))) := HB2.out.trans (((Below.refl _ _).drew).trans (hal.mono (by have := HZ2.out; omega)))
    have HDE := Lib.hid (share_deal p k n (.slice (some ⟨q, 0, none⟩) C C) (.slice ra R rc) (List.replicate C 0) r (w2.drew.alloc (.cells (madeCells #[.int .i64 0] C) 3)) (HW2.out.below (by have := HWG.out; have := HZ2.out; omega) (((Below.refl _ _).drew).trans hal)) HPW.out (slc_made _ C (by omega) q hq) (HRW.out _ HBD.out) (by simpa using hC) (by rw [HR.out]; exact hrl))
    obtain ⟨E, hE⟩ : ∃ E, dealE p k n (List.replicate C 0) r = E := ⟨_, rfl⟩
    obtain ⟨D, hD⟩ : ∃ D, dealR p k n (List.replicate C 0) r = D := ⟨_, rfl⟩
    rw [hE, hD] at HDE HE
    have HKP : Hid (∀ W, Below (w2.drew.alloc (.cells (madeCells #[.int .i64 0] C) 3)).heap.size (w2.drew.alloc (.cells (madeCells #[.int .i64 0] C) 3)) W → (W.cell? ⟨g, 0, none⟩ = some (.int .i64 p) ∧ W.cell? ⟨g, 1, none⟩ = some (.int .i64 k) ∧ W.cell? ⟨g, 2, none⟩ = some (.int .i64 n)) ∧ Below g w W ∧ g ≤ (w2.drew.alloc (.cells (madeCells #[.int .i64 0] C) 3)).heap.size) := fun W b => by
      have hz : q < (w2.drew.alloc (.cells (madeCells #[.int .i64 0] C) 3)).heap.size := by simp; have : w2.drew.heap.size = q := hq; omega
      have hgq : g < q := by have := HZ2.out; omega
      have b2 : Below q w2 W := ((((Below.refl _ _).drew).trans hal)).trans (b.mono (by omega))
      have hp9 := HP2.out.below hgq b2
      exact ⟨⟨hp9.c0, hp9.c1, hp9.c2⟩, HB2.out.trans (b2.mono (by omega)), by omega⟩
    unfold planV at HDE
    have HQ := Lib.hid hq
    clear hb c0 c1 c2 hp2 hE hD hal
    go_wp2_with fail
    apply region_oneV (fun v W => Hid (SharesN W g v D) ∧ Hid (Below g w W))
    case hr =>
      refine wp_region_noPanic ?_
      go_region_held3 (fun W' => W'.cell? ⟨g, 0, none⟩ = some (.int .i64 p) ∧ W'.cell? ⟨g, 1, none⟩ = some (.int .i64 k) ∧ W'.cell? ⟨g, 2, none⟩ = some (.int .i64 n)) (first | go_keep | exact HSK)
        (first
          | (go_at_call 37; refine HDE.out.mono ?_; rintro e w8 ⟨v8, rfl, hn8, hb8⟩; have hk8 := HKP.out w8 hb8; have HSK := hk8.1; have HN8 := Lib.hid (hn8.mono hk8.2.2); have HB8 := Lib.hid hk8.2.1; clear hn8 hb8 hk8))
      all_goals
        refine NoPanic.normal ?_
        exact ⟨rfl, v8, rfl, HN8, HB8⟩
    rintro v8 W ⟨H1, H2⟩
    obtain ⟨va, vc, rfl, _⟩ := H1.out.shape
    go_wp2
    go_ret2
    exact ⟨_, by rw [HE.out.1]; rfl, by rw [HE.out.2]; exact H1.out, H2.out⟩
end Go.Proofs.YtgdclefnfjbbdaaDoor
