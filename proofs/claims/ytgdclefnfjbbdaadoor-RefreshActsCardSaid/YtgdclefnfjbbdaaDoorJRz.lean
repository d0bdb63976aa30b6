
/- Zero: the document's, and the program's for counts beyond the most. -/
import Derived.Test.YtgdclefnfjbbdaaDoorJPr4
namespace Go.Proofs.YtgdclefnfjbbdaaDoor
open Go.RowKit Go.Sort
open Num
set_option linter.unusedVariables false

theorem dealR_few (p k n : Int) (s r : List Int) : (dealR p k n s r).length ≤ 1000 := by
  unfold dealR
  by_cases h : dealE p k n s r = 0
  · rw [if_pos h, dealF_len]
    unfold dealE at h
    by_cases hp : planB p k n = true
    · have := planB_parts hp; omega
    · rw [if_neg hp] at h; cases h
  · rw [if_neg h]; simp
set_option maxRecDepth 100000 in
set_option maxHeartbeats 8000000 in
theorem ref8_zero (p k n c : Int) (vr : Value) (r : List Int) (w : World) (hp : (Lit.int .i64 p).wf = true) (hr : Slc w vr r) (hrl : r.length ≤ 1000000) :
    Calls Tryd.prog 15 #[planV p k n, .int .i64 c, vr] w fun e w' => ∃ v, e = .returned (.tuple #[v, .int .i64 (zeroE p k n c r)]) ∧ SharesN w' w.heap.size v (zeroR p k n c r) ∧ Below w.heap.size w w' := by
  obtain ⟨ra, rc, rfl, _, _, _⟩ := id hr
  obtain ⟨R, hR⟩ : ∃ R, r.length = R := ⟨_, rfl⟩
  rw [hR] at hr hrl ⊢
  obtain ⟨g, hg⟩ : ∃ g, w.heap.size = g := ⟨_, rfl⟩
  obtain ⟨w1, hw1⟩ : ∃ w1, w.alloc (.cells #[.int .i64 p, .int .i64 k, .int .i64 n] 30) = w1 := ⟨_, rfl⟩
  have hb1 : Below g w w1 := by rw [← hw1, ← hg]; exact (Below.refl _ _).alloc (Nat.le_refl _) _
  have hP1 : PlanAt w1 g p k n := by rw [← hw1, ← hg]; exact planAt_new w p k n _
  have HV := Lib.hid (ref6_valid p k n w1 hp)
  have HRW : Hid (∀ W, Below g w W → Slc W (.slice ra R rc) r) := fun W b => hr.below (Nat.le_of_eq hg) b
  have HR := Lib.hid hR
  have HP1 := Lib.hid hP1
  have HB1 := Lib.hid hb1
  have HPW := Lib.hid hp
  have c0 := hP1.c0
  have c1 := hP1.c1
  have c2 := hP1.c2
  unfold planV at HV ⊢
  rw [hg]
  clear hr hR hb1 hP1 hp
  cases hpl : planB p k n with
  | false =>
    rw [hpl] at HV
    have HE : Hid (zeroE p k n c r = 1 ∧ zeroR p k n c r = []) := by
      have e : zeroE p k n c r = 1 := by unfold zeroE; rw [if_neg (by rw [hpl]; simp)]
      exact ⟨e, by unfold zeroR; rw [if_neg (by omega)]⟩
    clear hpl
    go_enter Tryd.func15, Tryd.ntmps15
    go_wp2_with fail
    refine HV.out.mono ?_
    rintro e w2 ⟨rfl, hb⟩
    have HB2 := Lib.hid (HB1.out.trans (hb.mono (Nat.le_of_lt HP1.out.lt)))
    clear hb c0 c1 c2
    go_wp2
    go_ret2
    exact ⟨.slice none 0 0, by rw [HE.out.1]; rfl, by rw [HE.out.2]; exact sharesN_nil _ _, HB2.out⟩
  | true =>
  rw [hpl] at HV
  by_cases hneg : c < 0
  · have HE : Hid (zeroE p k n c r = 2 ∧ zeroR p k n c r = []) := by
      have e : zeroE p k n c r = 2 := by unfold zeroE; rw [if_pos hpl, if_pos hneg]
      exact ⟨e, by unfold zeroR; rw [if_neg (by omega)]⟩
    clear hpl
    go_enter Tryd.func15, Tryd.ntmps15
    go_wp2_with fail
    refine HV.out.mono ?_
    rintro e w2 ⟨rfl, hb⟩
    have HB2 := Lib.hid (HB1.out.trans (hb.mono (Nat.le_of_lt HP1.out.lt)))
    clear hb c0 c1 c2
    go_wp2
    go_ret2
    exact ⟨.slice none 0 0, by rw [HE.out.1]; rfl, by rw [HE.out.2]; exact sharesN_nil _ _, HB2.out⟩
  by_cases hbig : 2048 < c
  · have HE : Hid (zeroE p k n c r = 3 ∧ zeroR p k n c r = []) := by
      have e : zeroE p k n c r = 3 := by unfold zeroE; rw [if_pos hpl, if_neg hneg, if_pos hbig]
      exact ⟨e, by unfold zeroR; rw [if_neg (by omega)]⟩
    clear hpl
    go_enter Tryd.func15, Tryd.ntmps15
    go_wp2_with fail
    refine HV.out.mono ?_
    rintro e w2 ⟨rfl, hb⟩
    have HB2 := Lib.hid (HB1.out.trans (hb.mono (Nat.le_of_lt HP1.out.lt)))
    clear hb c0 c1 c2
    go_wp2
    go_ret2
    exact ⟨.slice none 0 0, by rw [HE.out.1]; rfl, by rw [HE.out.2]; exact sharesN_nil _ _, HB2.out⟩
  · obtain ⟨C, rfl⟩ := Int.eq_ofNat_of_zero_le (show 0 ≤ c by omega)
    have hC : C ≤ 2048 := by omega
    have HE : Hid (zeroE p k n (C : Int) r = dealE p k n (List.replicate C 0) r ∧ zeroR p k n (C : Int) r = dealR p k n (List.replicate C 0) r) := by
      have e : zeroE p k n (C : Int) r = dealE p k n (List.replicate C 0) r := by unfold zeroE; rw [if_pos hpl, if_neg hneg, if_neg (by omega), Int.toNat_natCast]
      refine ⟨e, ?_⟩
      unfold zeroR dealR
      rw [e, Int.toNat_natCast]
    clear hpl
    have hmk := run_make_row' (P := Tryd.prog) 22 3 (.int .i64 0) 8 Tryd.underlying22 infoInt rfl .i64 .i64 C (by omega) (by omega)
    have hc9 : (C : Int) ≤ 2049 := by omega
    go_enter Tryd.func15, Tryd.ntmps15
    go_wp2_with fail
    refine HV.out.mono ?_
    rintro e w2 ⟨rfl, hb⟩
    have hp2 := HP1.out.below HP1.out.lt hb
    have d0 := hp2.c0
    have d1 := hp2.c1
    have d2 := hp2.c2
    have HB2 := Lib.hid (HB1.out.trans (hb.mono (Nat.le_of_lt HP1.out.lt)))
    have HZ2 : Hid (g < w2.heap.size) := hp2.lt
    have HP2 := Lib.hid hp2
    obtain ⟨q, hq⟩ : ∃ q, w2.heap.size = q := ⟨_, rfl⟩
    have hal : Below q w2.drew (w2.drew.alloc (.cells (madeCells #[.int .i64 0] C) 3)) := (Below.refl q w2.drew).alloc (show q ≤ w2.heap.size by omega) _
    have HBD : Hid (Below g w (w2.drew.alloc (.cells (madeCells #[.int .i64 0] C) 3))) := HB2.out.trans (((Below.refl _ _).drew).trans (hal.mono (by have := HZ2.out; omega)))
    have HDE := Lib.hid (ref6_deal_any p k n (some ⟨q, 0, none⟩) C C (List.replicate C 0) r (.slice ra R rc) (w2.drew.alloc (.cells (madeCells #[.int .i64 0] C) 3)) HPW.out (slc_made _ C (by omega) q hq).ints (by rw [List.length_replicate]) (HRW.out _ HBD.out) hC)
    obtain ⟨E, hE⟩ : ∃ E, dealE p k n (List.replicate C 0) r = E := ⟨_, rfl⟩
    obtain ⟨D, hD⟩ : ∃ D, dealR p k n (List.replicate C 0) r = D := ⟨_, rfl⟩
    have HDL : Hid ((dealR p k n (List.replicate C 0) r).length ≤ 1000) := dealR_few _ _ _ _ _
    rw [hE, hD] at HDE HE
    rw [hD] at HDL
    have HKP : Hid (∀ W, Below (w2.drew.alloc (.cells (madeCells #[.int .i64 0] C) 3)).heap.size (w2.drew.alloc (.cells (madeCells #[.int .i64 0] C) 3)) W → (W.cell? ⟨g, 0, none⟩ = some (.int .i64 p) ∧ W.cell? ⟨g, 1, none⟩ = some (.int .i64 k) ∧ W.cell? ⟨g, 2, none⟩ = some (.int .i64 n)) ∧ Below g w W ∧ g ≤ (w2.drew.alloc (.cells (madeCells #[.int .i64 0] C) 3)).heap.size) := fun W b => by
      have hz : q < (w2.drew.alloc (.cells (madeCells #[.int .i64 0] C) 3)).heap.size := by simp; have : w2.drew.heap.size = q := hq; omega
      have hgq : g < q := by have := HZ2.out; omega
      have b2 : Below q w2 W := ((((Below.refl _ _).drew).trans hal)).trans (b.mono (by omega))
      have hp9 := HP2.out.below hgq b2
      exact ⟨⟨hp9.c0, hp9.c1, hp9.c2⟩, HB2.out.trans (b2.mono (by omega)), by omega⟩
    unfold planV at HDE
    have HQ := Lib.hid hq
    clear hb c0 c1 c2 hp2 hE hD hal
    go_wp2_with fail
    apply region_oneV (fun v W => Hid (SharesN W g v D) ∧ Hid (Below g w W))
    case hr =>
      refine wp_region_noPanic ?_
      go_region_held3 (fun W' => W'.cell? ⟨g, 0, none⟩ = some (.int .i64 p) ∧ W'.cell? ⟨g, 1, none⟩ = some (.int .i64 k) ∧ W'.cell? ⟨g, 2, none⟩ = some (.int .i64 n)) (first | go_keep | exact HSK)
        (first
          | (go_at_call 33; refine HDE.out.mono ?_; rintro e w8 ⟨v8, rfl, hn8, hb8⟩; have hk8 := HKP.out w8 hb8; have HSK := hk8.1; have HN8 := Lib.hid ((hn8.sharesN HDL.out).mono hk8.2.2); have HB8 := Lib.hid hk8.2.1; clear hn8 hb8 hk8))
      all_goals
        refine NoPanic.normal ?_
        exact ⟨rfl, v8, rfl, HN8, HB8⟩
    rintro v8 W ⟨H1, H2⟩
    obtain ⟨va, vc, rfl, _⟩ := H1.out.shape
    go_wp2
    go_ret2
    exact ⟨_, by rw [HE.out.1]; rfl, by rw [HE.out.2]; exact H1.out, H2.out⟩

set_option maxRecDepth 100000 in
set_option maxHeartbeats 4000000 in
theorem checkDeal_long (p k n : Int) (sa : Option Addr) (S cs : Nat) (ra : Option Addr) (R rc : Nat) (w : World) (hw : Wheel w) (hp : (Lit.int .i64 p).wf = true) (hpl : planB p k n = true) (hS : 2048 < S) (hS2 : S ≤ 100000) :
    Calls Tryd.prog 59 #[planV p k n, .slice sa S cs, .slice ra R rc] w fun e w' => e = .returned (.int .i64 3) ∧ Below w.heap.size w w' := by
  unfold planV
  obtain ⟨g, hg⟩ : ∃ g, w.heap.size = g := ⟨_, rfl⟩
  obtain ⟨w1, hw1⟩ : ∃ w1, w.alloc (Obj.cells #[Value.int IntKind.i64 p, Value.int IntKind.i64 k, Value.int IntKind.i64 n] 30) = w1 := ⟨_, rfl⟩
  have hb1 : Below g w w1 := by rw [← hw1, ← hg]; exact (Below.refl _ _).alloc (Nat.le_refl _) _
  have hp1 : PlanAt w1 g p k n := by rw [← hw1, ← hg]; exact planAt_new _ _ _ _ _
  have HV := Lib.hid (share_valid p k n w1 (hw.below (by rw [← hg]; exact hw.size) hb1) hp)
  unfold planV at HV
  rw [hpl] at HV
  have HB1 := Lib.hid hb1
  have HG1 := Lib.hid hp1.lt
  have d0' := hp1.c0
  have d1' := hp1.c1
  have d2' := hp1.c2
  rw [hg]
  clear hb1 hp1 hw hp hpl
  go_enter Tryd.func59, Tryd.ntmps59
  go_wp2_with fail
  refine HV.out.mono ?_
  rintro e w2 ⟨rfl, hb2⟩
  have HB2 := Lib.hid (HB1.out.trans (hb2.mono (Nat.le_of_lt HG1.out)))
  clear hb2 HV d0' d1' d2'
  go_wp2
  go_ret
  exact ⟨rfl, HB2.out⟩
set_option maxRecDepth 100000 in
set_option maxHeartbeats 4000000 in
theorem share_deal_long (p k n : Int) (sa : Option Addr) (S cs : Nat) (ra : Option Addr) (R rc : Nat) (w : World) (hw : Wheel w) (hp : (Lit.int .i64 p).wf = true) (hpl : planB p k n = true) (hS : 2048 < S) (hS2 : S ≤ 100000) :
    Calls Tryd.prog 37 #[planV p k n, .slice sa S cs, .slice ra R rc] w fun e w' => ∃ v, e = .returned (.tuple #[v, .int .i64 3]) ∧ SharesN w' w.heap.size v [] ∧ Below w.heap.size w w' := by
  unfold planV
  obtain ⟨g, hg⟩ : ∃ g, w.heap.size = g := ⟨_, rfl⟩
  obtain ⟨w1, hw1⟩ : ∃ w1, w.alloc (Obj.cells #[Value.int IntKind.i64 p, Value.int IntKind.i64 k, Value.int IntKind.i64 n] 30) = w1 := ⟨_, rfl⟩
  have hb1 : Below g w w1 := by rw [← hw1, ← hg]; exact (Below.refl _ _).alloc (Nat.le_refl _) _
  have hp1 : PlanAt w1 g p k n := by rw [← hw1, ← hg]; exact planAt_new _ _ _ _ _
  have HCD := Lib.hid (checkDeal_long p k n sa S cs ra R rc w1 (hw.below (by rw [← hg]; exact hw.size) hb1) hp hpl hS hS2)
  unfold planV at HCD
  have HB1 := Lib.hid hb1
  have HG1 := Lib.hid hp1.lt
  have d0 := hp1.c0
  have d1 := hp1.c1
  have d2 := hp1.c2
  rw [hg]
  clear hw hp hb1 hp1 hpl
  go_enter Tryd.func37, Tryd.ntmps37
  go_wp2_with fail
  refine HCD.out.mono ?_
  rintro e w2 ⟨rfl, hb2⟩
  have HB2 : Hid (Below g w w2) := HB1.out.trans (hb2.mono (Nat.le_of_lt HG1.out))
  clear hb2 HCD
  go_wp2
  go_ret2
  exact ⟨_, rfl, sharesN_nil _ _, HB2.out⟩
set_option maxRecDepth 100000 in
set_option maxHeartbeats 8000000 in
theorem refresh_zero_big (p k n c : Int) (vr : Value) (r : List Int) (w : World) (hw : Wheel w) (hp : (Lit.int .i64 p).wf = true) (hc : 2048 < c) (hr : Slc w vr r) (hrl : r.length ≤ 1000000) :
    Calls Tryd.prog 19 #[planV p k n, .int .i64 c, vr] w fun e w' => ∃ v, e = .returned (.tuple #[v, .int .i64 (zeroE p k n c r)]) ∧ SharesN w' w.heap.size v (zeroR p k n c r) ∧ Below w.heap.size w w' := by
  obtain ⟨ra, rc, rfl, _, _, _⟩ := id hr
  obtain ⟨R, hR⟩ : ∃ R, r.length = R := ⟨_, rfl⟩
  rw [hR] at hr hrl ⊢
  obtain ⟨g, hg⟩ : ∃ g, w.heap.size = g := ⟨_, rfl⟩
  obtain ⟨w1, hw1⟩ : ∃ w1, w.alloc (.cells #[.int .i64 p, .int .i64 k, .int .i64 n] 30) = w1 := ⟨_, rfl⟩
  have hb1 : Below g w w1 := by rw [← hw1, ← hg]; exact (Below.refl _ _).alloc (Nat.le_refl _) _
  have hP1 : PlanAt w1 g p k n := by rw [← hw1, ← hg]; exact planAt_new w p k n _
  have hW1 : Wheel w1 := hw.below (by rw [← hg]; exact hw.size) hb1
  have HV := Lib.hid (share_valid p k n w1 hW1 hp)
  have HWG : Hid (0 < g) := by show _ < _; rw [← hg]; exact hw.size
  have HRW : Hid (∀ W, Below g w W → Slc W (.slice ra R rc) r) := fun W b => hr.below (Nat.le_of_eq hg) b
  have HR := Lib.hid hR
  have HP1 := Lib.hid hP1
  have HB1 := Lib.hid hb1
  have HW1 := Lib.hid hW1
  have HPW := Lib.hid hp
  have c0 := hP1.c0
  have c1 := hP1.c1
  have c2 := hP1.c2
  unfold planV at HV ⊢
  rw [hg]
  clear hr hR hb1 hP1 hW1 hp hw
  cases hpl : planB p k n with
  | false =>
    rw [hpl] at HV
    have HE : Hid (zeroE p k n c r = 1 ∧ zeroR p k n c r = []) := by
      have e : zeroE p k n c r = 1 := by unfold zeroE; rw [if_neg (by rw [hpl]; simp)]
      exact ⟨e, by unfold zeroR; rw [if_neg (by omega)]⟩
    clear hpl
    go_enter Tryd.func19, Tryd.ntmps19
    go_wp2_with fail
    refine HV.out.mono ?_
    rintro e w2 ⟨rfl, hb⟩
    have HB2 := Lib.hid (HB1.out.trans (hb.mono (Nat.le_of_lt HP1.out.lt)))
    clear hb c0 c1 c2
    go_wp2
    go_ret2
    exact ⟨.slice none 0 0, by rw [HE.out.1]; rfl, by rw [HE.out.2]; exact sharesN_nil _ _, HB2.out⟩
  | true =>
  rw [hpl] at HV
  by_cases hneg : c < 0
  · have HE : Hid (zeroE p k n c r = 2 ∧ zeroR p k n c r = []) := by
      have e : zeroE p k n c r = 2 := by unfold zeroE; rw [if_pos hpl, if_pos hneg]
      exact ⟨e, by unfold zeroR; rw [if_neg (by omega)]⟩
    clear hpl
    go_enter Tryd.func19, Tryd.ntmps19
    go_wp2_with fail
    refine HV.out.mono ?_
    rintro e w2 ⟨rfl, hb⟩
    have HB2 := Lib.hid (HB1.out.trans (hb.mono (Nat.le_of_lt HP1.out.lt)))
    clear hb c0 c1 c2
    go_wp2
    go_ret2
    exact ⟨.slice none 0 0, by rw [HE.out.1]; rfl, by rw [HE.out.2]; exact sharesN_nil _ _, HB2.out⟩
  · have HE : Hid (zeroE p k n c r = 3 ∧ zeroR p k n c r = []) := by
      have e : zeroE p k n c r = 3 := by unfold zeroE; rw [if_pos hpl, if_neg hneg, if_pos hc]
      exact ⟨e, by unfold zeroR; rw [if_neg (by omega)]⟩
    have hPL := Lib.hid hpl
    obtain ⟨C, hC⟩ : ∃ C : Nat, C = 2049 := ⟨_, rfl⟩
    have hcC : (2049 : Int) = (C : Int) := by omega
    have hmk := run_make_row' (P := Tryd.prog) 22 3 (.int .i64 0) 8 Tryd.underlying22 infoInt rfl .i64 .i64 C (by omega) (by omega)
    rw [← hcC] at hmk
    have hC9 : 2048 < C ∧ C ≤ 100000 := by omega
    have hce : c = 2049 ∨ ¬ c ≤ 2049 := by omega
    have hngc : ¬ c < 0 := hneg
    clear hC hcC hc hneg
    rcases hce with rfl | hc9 <;>
    · skip
      go_enter Tryd.func19, Tryd.ntmps19
      go_wp2_with fail
      refine HV.out.mono ?_
      rintro e w2 ⟨rfl, hb⟩
      have hp2 := HP1.out.below HP1.out.lt hb
      have d0 := hp2.c0
      have d1 := hp2.c1
      have d2 := hp2.c2
      have HB2 := Lib.hid (HB1.out.trans (hb.mono (Nat.le_of_lt HP1.out.lt)))
      have HW2 := Lib.hid (HW1.out.below (by have := HWG.out; have := HP1.out.lt; omega) hb)
      have HZ2 : Hid (g < w2.heap.size) := hp2.lt
      have HP2 := Lib.hid hp2
      obtain ⟨q, hq⟩ : ∃ q, w2.heap.size = q := ⟨_, rfl⟩
      have hal : Below q w2.drew (w2.drew.alloc (.cells (madeCells #[.int .i64 0] C) 3)) := (Below.refl q w2.drew).alloc (show q ≤ w2.heap.size by omega) _
      have HBD : Hid (Below g w (w2.drew.alloc (.cells (madeCells #[.int .i64 0] C) 3))) := HB2.out.trans (((Below.refl _ _).drew).trans (hal.mono (by have := HZ2.out; omega)))
      have HDE := Lib.hid (share_deal_long p k n (some ⟨q, 0, none⟩) C C ra R rc (w2.drew.alloc (.cells (madeCells #[.int .i64 0] C) 3)) (HW2.out.below (by have := HWG.out; have := HZ2.out; omega) (((Below.refl _ _).drew).trans hal)) HPW.out hPL.out hC9.1 hC9.2)
      have HKP : Hid (∀ W, Below (w2.drew.alloc (.cells (madeCells #[.int .i64 0] C) 3)).heap.size (w2.drew.alloc (.cells (madeCells #[.int .i64 0] C) 3)) W → (W.cell? ⟨g, 0, none⟩ = some (.int .i64 p) ∧ W.cell? ⟨g, 1, none⟩ = some (.int .i64 k) ∧ W.cell? ⟨g, 2, none⟩ = some (.int .i64 n)) ∧ Below g w W ∧ g ≤ (w2.drew.alloc (.cells (madeCells #[.int .i64 0] C) 3)).heap.size) := fun W b => by
        have hz : q < (w2.drew.alloc (.cells (madeCells #[.int .i64 0] C) 3)).heap.size := by simp; have : w2.drew.heap.size = q := hq; omega
        have hgq : g < q := by have := HZ2.out; omega
        have b2 : Below q w2 W := ((((Below.refl _ _).drew).trans hal)).trans (b.mono (by omega))
        have hp9 := HP2.out.below hgq b2
        exact ⟨⟨hp9.c0, hp9.c1, hp9.c2⟩, HB2.out.trans (b2.mono (by omega)), by omega⟩
      unfold planV at HDE
      have HQ := Lib.hid hq
      clear hb c0 c1 c2 hp2 hal
      go_wp2_with fail
      apply region_oneV (fun v W => Hid (SharesN W g v []) ∧ Hid (Below g w W))
      case hr =>
        refine wp_region_noPanic ?_
        go_region_held3 (fun W' => W'.cell? ⟨g, 0, none⟩ = some (.int .i64 p) ∧ W'.cell? ⟨g, 1, none⟩ = some (.int .i64 k) ∧ W'.cell? ⟨g, 2, none⟩ = some (.int .i64 n)) (first | go_keep | exact HSK)
          (first
            | (go_at_call 37; refine HDE.out.mono ?_; rintro e w8 ⟨v8, rfl, hn8, hb8⟩; have hk8 := HKP.out w8 hb8; have HSK := hk8.1; have HN8 := Lib.hid (hn8.mono hk8.2.2); have HB8 := Lib.hid hk8.2.1; clear hn8 hb8 hk8))
        all_goals
          refine NoPanic.normal ?_
          exact ⟨rfl, v8, rfl, HN8, HB8⟩
      rintro v8 W ⟨H1, H2⟩
      obtain ⟨va, vc, rfl, _⟩ := H1.out.shape
      go_wp2
      go_ret2
      exact ⟨_, by rw [HE.out.1]; rfl, by rw [HE.out.2]; exact H1.out, H2.out⟩

theorem refresh_zero_all (p k n c : Int) (vr : Value) (r : List Int) (w : World) (hw : Wheel w) (hp : (Lit.int .i64 p).wf = true) (hr : Slc w vr r) (hrl : r.length ≤ 1000000) :
    Calls Tryd.prog 19 #[planV p k n, .int .i64 c, vr] w fun e w' => ∃ v, e = .returned (.tuple #[v, .int .i64 (zeroE p k n c r)]) ∧ SharesN w' w.heap.size v (zeroR p k n c r) ∧ Below w.heap.size w w' := by
  by_cases h : c ≤ 2048
  · exact refresh_zero p k n c vr r w hw hp h hr hrl
  · exact refresh_zero_big p k n c vr r w hw hp (by omega) hr hrl
end Go.Proofs.YtgdclefnfjbbdaaDoor
