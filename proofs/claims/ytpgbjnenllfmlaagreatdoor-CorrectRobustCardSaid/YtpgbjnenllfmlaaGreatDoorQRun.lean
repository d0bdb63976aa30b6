
/- Robust of both sides, for any arguments: the same answer. -/
import Derived.Test.YtpgbjnenllfmlaaGreatDoorQRdw
namespace Go.Proofs.YtpgbjnenllfmlaaGreatDoor
open Go.RowKit Go.Sort
open Num
set_option linter.unusedVariables false

theorem robR_unique {p : Int} {K N m : Nat} {L : List Shr} {S S' W W' : List Int} {c c' : Int} (hp : PrmI p) (hg : Gd p N m L) (hNp : (N : Int) < p) (hK : K ≤ L.length) (h : RobR p K m L S W c) (h' : RobR p K m L S' W' c') : S = S' ∧ W = W' ∧ c = c' := by
  have he : Els p (plX L) := fun x hx => by
    obtain ⟨s, hs, rfl⟩ := List.mem_map.1 hx
    have := hg.hold s hs
    exact ⟨by omega, by omega⟩
  have hu : ∀ i f g, OneB p K ((L.length - K) / 2) (plX L) (plY L i) f → OneB p K ((L.length - K) / 2) (plX L) (plY L i) g → f = g := fun i f g hf hg' =>
    one_unique hp (by simp [plY_len]) hg.one he (by simp only [List.length_map]; omega) hf hg'
  have hno : ∀ {S W S' W' : List Int}, RobR p K m L S W 0 → RobR p K m L S' W' 9 → False := by
    intro S W S' W' h h'
    obtain ⟨_, hasc, hlen, F, hF, _, hmem⟩ := h.ok rfl
    obtain ⟨_, _, ⟨i, hi, hn⟩ | ⟨G, hG, hV⟩⟩ := h'.no (by omega)
    · exact hn _ (hF i hi)
    · have := hV W (hasc.imp fun h => by omega) fun x => by
        rw [hmem]
        constructor
        · rintro ⟨i, hi, hx⟩; exact ⟨i, hi, by rw [← hu i _ _ (hF i hi) (hG i hi)]; exact hx⟩
        · rintro ⟨i, hi, hx⟩; exact ⟨i, hi, by rw [hu i _ _ (hF i hi) (hG i hi)]; exact hx⟩
      omega
  rcases h.code with rfl | rfl <;> rcases h'.code with rfl | rfl
  · obtain ⟨hl, hasc, _, F, hF, hS, hmem⟩ := h.ok rfl
    obtain ⟨hl', hasc', _, G, hG, hS', hmem'⟩ := h'.ok rfl
    refine ⟨List.ext_getElem (by rw [hl, hl']) fun i h1 h2 => ?_, asc_ext hasc hasc' fun x => ?_, rfl⟩
    · have hi : i < m := by omega
      have e1 := hS i hi
      have e2 := hS' i hi
      rw [hu i _ _ (hF i hi) (hG i hi), ← e2] at e1
      simpa [List.getD, h1, h2] using e1
    · rw [hmem, hmem']
      constructor
      · rintro ⟨i, hi, hx⟩; exact ⟨i, hi, by rw [← hu i _ _ (hF i hi) (hG i hi)]; exact hx⟩
      · rintro ⟨i, hi, hx⟩; exact ⟨i, hi, by rw [hu i _ _ (hF i hi) (hG i hi)]; exact hx⟩
  · exact (hno h h').elim
  · exact (hno h' h).elim
  · obtain ⟨rfl, rfl, _⟩ := h.no (by omega)
    obtain ⟨rfl, rfl, _⟩ := h'.no (by omega)
    exact ⟨rfl, rfl, rfl⟩
/-- Robust's answer for any arguments. -/
def RobA (p k n : Int) (L : List Shr) (S W : List Int) (c : Int) : Prop := (combE p k n L ≠ 0 → S = [] ∧ W = [] ∧ c = combE p k n L) ∧ (combE p k n L = 0 → RobR p k.toNat (L.getD 0 (0, [])).2.length L S W c)
theorem comb_zero {p k n : Int} {L : List Shr} (h0 : combE p k n L = 0) : ∃ K N : Nat, k = (K : Int) ∧ n = (N : Int) ∧ K ≤ L.length ∧ planB p (K : Int) (N : Int) = true ∧ goodB p (N : Int) L = true := by
  unfold combE at h0
  have hpg : planB p k n = true ∧ goodB p n L = true := by
    by_cases h : planB p k n = true ∧ goodB p n L = true
    · exact h
    · rw [if_neg h] at h0; cases h0
  rw [if_pos hpg] at h0
  have hlk : ¬ (L.length : Int) < k := fun h => by rw [if_pos h] at h0; cases h0
  obtain ⟨_, _, hk1, hkn, _, _⟩ := planB_parts hpg.1
  obtain ⟨K, rfl⟩ := Int.eq_ofNat_of_zero_le (show 0 ≤ k by omega)
  obtain ⟨N, rfl⟩ := Int.eq_ofNat_of_zero_le (show 0 ≤ n by omega)
  exact ⟨K, N, rfl, rfl, by omega, hpg.1, hpg.2⟩
theorem robA_unique {p k n : Int} {L : List Shr} {S S' W W' : List Int} {c c' : Int} (h : RobA p k n L S W c) (h' : RobA p k n L S' W' c') : S = S' ∧ W = W' ∧ c = c' := by
  by_cases hE : combE p k n L = 0
  · obtain ⟨K, N, rfl, rfl, hK, hpl, hgb⟩ := comb_zero hE
    obtain ⟨hprm, hp2, hk1, hkn, hn16, hnp⟩ := planB_parts hpl
    have r1 := h.2 hE
    have r2 := h'.2 hE
    rw [Int.toNat_natCast] at r1 r2
    exact robR_unique hprm (goodB_gd rfl hgb rfl) hnp hK r1 r2
  · obtain ⟨rfl, rfl, rfl⟩ := h.1 hE
    obtain ⟨rfl, rfl, rfl⟩ := h'.1 hE
    exact ⟨rfl, rfl, rfl⟩

set_option maxRecDepth 100000 in
set_option maxHeartbeats 4000000 in
theorem robust_bad (p k n : Int) (s : Value) (L : List Shr) (w : World) (hw : Wheel w) (hp : (Lit.int .i64 p).wf = true) (hs : Shares w s L) (hE : combE p k n L ≠ 0) :
    Calls Tryz.prog 16 #[planV p k n, s] w fun e w' => e = .returned (.tuple #[.slice none 0 0, .slice none 0 0, .int .i64 (combE p k n L)]) ∧ Below w.heap.size w w' := by
  unfold planV
  obtain ⟨a1, d1, rfl, hl, hld1, hd1, _⟩ := id hs
  obtain ⟨N, hN⟩ : ∃ N, L.length = N := ⟨_, rfl⟩
  rw [hN] at hs hl hld1 ⊢
  obtain ⟨g, hgw⟩ : ∃ g, w.heap.size = g := ⟨_, rfl⟩
  obtain ⟨w1, hw1⟩ : ∃ w1, w.alloc (Obj.cells #[Value.int IntKind.i64 p, Value.int IntKind.i64 k, Value.int IntKind.i64 n] 31) = w1 := ⟨_, rfl⟩
  have hb1 : Below g w w1 := by rw [← hw1, ← hgw]; exact (Below.refl _ _).alloc (Nat.le_refl _) _
  have hp1 : PlanAt w1 g p k n := by rw [← hw1, ← hgw]; exact planAt_new _ _ _ _ _
  have hs1 : w1.heap.size = g + 1 := by rw [← hw1, ← hgw]; simp
  have HCO := Lib.hid (share_combine p k n (.slice a1 N d1) L w1 (hw.below (by rw [← hgw]; exact hw.size) hb1) hp (hs.below (Nat.le_of_eq hgw) hb1))
  unfold planV at HCO
  rw [hs1] at HCO
  have HB1 := Lib.hid hb1
  have d0 := hp1.c0
  have d1' := hp1.c1
  have d2 := hp1.c2
  have hc : combE p k n L = 1 ∨ combE p k n L = 5 := by
    unfold combE at hE ⊢
    split
    · rename_i h
      rw [if_pos h] at hE
      split
      · exact .inr rfl
      · rename_i h2; rw [if_neg h2] at hE; exact absurd rfl hE
    · exact .inl rfl
  rw [hgw]
  clear hs hb1 hp1 hs1 hp hw hE
  rcases hc with hc | hc <;> rw [hc] at HCO ⊢ <;> clear hc <;>
  · go_enter Tryz.func16, Tryz.ntmps16
    go_wp2_with fail
    refine HCO.out.mono ?_
    rintro e w2 ⟨v2, rfl, _, hb2⟩
    have HB2 : Hid (Below g w w2) := HB1.out.trans (hb2.mono (Nat.le_succ g))
    clear hb2 HCO d0 d1' d2 HB1 hw1
    go_wp2
    go_ret3
    exact ⟨rfl, HB2.out⟩

set_option maxRecDepth 100000 in
set_option maxHeartbeats 4000000 in
theorem ref7_robust_bad (p k n : Int) (s : Value) (L : List Shr) (w : World) (hp : (Lit.int .i64 p).wf = true) (hs : Shares w s L) (hE : combE p k n L ≠ 0) :
    Calls Tryz.prog 17 #[planV p k n, s] w fun e w' => e = .returned (.tuple #[.slice none 0 0, .slice none 0 0, .int .i64 (combE p k n L)]) ∧ Below w.heap.size w w' := by
  obtain ⟨a1, d1, rfl, hl, hld1, hd1, _⟩ := id hs
  obtain ⟨N, hN⟩ : ∃ N, L.length = N := ⟨_, rfl⟩
  rw [hN] at hs hl hld1 ⊢
  obtain ⟨g, hgw⟩ : ∃ g, w.heap.size = g := ⟨_, rfl⟩
  have HB0 : Hid (Below g w (w.alloc (Obj.cells #[Value.int IntKind.i64 p, Value.int IntKind.i64 k, Value.int IntKind.i64 n] 31))) := by rw [← hgw]; exact (Below.refl _ _).alloc (Nat.le_refl _) _
  have HP0 : Hid (PlanAt (w.alloc (Obj.cells #[Value.int IntKind.i64 p, Value.int IntKind.i64 k, Value.int IntKind.i64 n] 31)) g p k n) := by rw [← hgw]; exact planAt_new _ _ _ _ _
  have HZ0 : Hid (g < (w.alloc (Obj.cells #[Value.int IntKind.i64 p, Value.int IntKind.i64 k, Value.int IntKind.i64 n] 31)).heap.size) := by rw [← hgw]; show _ < _; simp
  obtain ⟨b1, h1⟩ : ∃ b, planB p k n = b := ⟨_, rfl⟩
  obtain ⟨b2, h2⟩ : ∃ b, goodB p n L = b := ⟨_, rfl⟩
  have HVA : Hid (∀ W, Calls Tryz.prog 38 #[.agg #[.int .i64 p, .int .i64 k, .int .i64 n]] W fun e w' => e = .returned (.bool b1) ∧ Below W.heap.size W w') := fun W => by
    have h := ref6_valid p k n W hp
    rw [h1] at h
    exact h
  have HGO : Hid (∀ W, Below g w W → Calls Tryz.prog 39 #[.agg #[.int .i64 p, .int .i64 k, .int .i64 n], .slice a1 N d1] W fun e w' => e = .returned (.bool b2) ∧ Below W.heap.size W w') := fun W hW => by
    have h := ref6_good p k n (.slice a1 N d1) L W hp (hs.below (Nat.le_of_eq hgw) hW)
    rw [h2] at h
    exact h
  have hce : combE p k n L = if b1 = true ∧ b2 = true then (if (N : Int) < k then 5 else 0) else 1 := by unfold combE; rw [h1, h2, hN]
  rw [hce] at hE ⊢
  rw [hgw]
  clear hs hp h1 h2 hce hN
  unfold planV
  cases b1 with
  | false =>
    rw [if_neg (by simp)]
    clear hE HGO
    go_enter Tryz.func17, Tryz.ntmps17
    go_upto_region 1 with fail
    clear hgw
    generalize w.alloc (Obj.cells #[Value.int IntKind.i64 p, Value.int IntKind.i64 k, Value.int IntKind.i64 n] 31) = w1 at *
    have c0 := HP0.out.c0
    have c1 := HP0.out.c1
    have c2 := HP0.out.c2
    go_wp2_with fail
    refine (HVA.out w1).mono ?_
    rintro e w2 ⟨rfl, hb⟩
    have HB2 := Lib.hid (HB0.out.trans (hb.mono (Nat.le_of_lt HZ0.out)))
    clear hb
    go_wp2
    go_ret3
    exact ⟨rfl, HB2.out⟩
  | true =>
    cases b2 with
    | false =>
      rw [if_neg (by simp)]
      clear hE
      go_enter Tryz.func17, Tryz.ntmps17
      go_upto_region 1 with fail
      clear hgw
      generalize w.alloc (Obj.cells #[Value.int IntKind.i64 p, Value.int IntKind.i64 k, Value.int IntKind.i64 n] 31) = w1 at *
      have c0 := HP0.out.c0
      have c1 := HP0.out.c1
      have c2 := HP0.out.c2
      go_wp2_with fail
      refine (HVA.out w1).mono ?_
      rintro e w2 ⟨rfl, hb⟩
      have HB2 := Lib.hid (HB0.out.trans (hb.mono (Nat.le_of_lt HZ0.out)))
      have HP2 := Lib.hid (HP0.out.below HZ0.out hb)
      have HZ2 : Hid (g < w2.heap.size) := Nat.lt_of_lt_of_le HZ0.out hb.size
      have c0 := HP2.out.c0
      have c1 := HP2.out.c1
      have c2 := HP2.out.c2
      clear hb HB0 HP0 HZ0
      go_wp2_with fail
      refine (HGO.out w2 HB2.out).mono ?_
      rintro e w3 ⟨rfl, hb⟩
      have HB3 := Lib.hid (HB2.out.trans (hb.mono (Nat.le_of_lt HZ2.out)))
      clear hb
      go_wp2
      go_ret3
      exact ⟨rfl, HB3.out⟩
    | true =>
      rw [if_pos ⟨rfl, rfl⟩] at hE ⊢
      by_cases hlt : (N : Int) < k
      · rw [if_pos hlt]
        have j2 : decide ((N : Int) < k) = true := decide_eq_true hlt
        clear hE
        go_enter Tryz.func17, Tryz.ntmps17
        go_upto_region 1 with fail
        clear hgw
        generalize w.alloc (Obj.cells #[Value.int IntKind.i64 p, Value.int IntKind.i64 k, Value.int IntKind.i64 n] 31) = w1 at *
        have c0 := HP0.out.c0
        have c1 := HP0.out.c1
        have c2 := HP0.out.c2
        go_wp2_with fail
        refine (HVA.out w1).mono ?_
        rintro e w2 ⟨rfl, hb⟩
        have HB2 := Lib.hid (HB0.out.trans (hb.mono (Nat.le_of_lt HZ0.out)))
        have HP2 := Lib.hid (HP0.out.below HZ0.out hb)
        have HZ2 : Hid (g < w2.heap.size) := Nat.lt_of_lt_of_le HZ0.out hb.size
        have c0 := HP2.out.c0
        have c1 := HP2.out.c1
        have c2 := HP2.out.c2
        clear hb HB0 HP0 HZ0
        go_wp2_with fail
        refine (HGO.out w2 HB2.out).mono ?_
        rintro e w3 ⟨rfl, hb⟩
        have HB3 := Lib.hid (HB2.out.trans (hb.mono (Nat.le_of_lt HZ2.out)))
        have HP3 := Lib.hid (HP2.out.below HZ2.out hb)
        have c0 := HP3.out.c0
        have c1 := HP3.out.c1
        have c2 := HP3.out.c2
        clear hb HB2 HP2 HZ2 HVA HGO
        go_wp2
        go_ret3
        exact ⟨rfl, HB3.out⟩
      · rw [if_neg hlt] at hE; exact absurd rfl hE

theorem robust_any (p k n : Int) (s : Value) (L : List Shr) (w : World) (hw : Wheel w) (hp : (Lit.int .i64 p).wf = true) (hs : Shares w s L) :
    Calls Tryz.prog 16 #[planV p k n, s] w fun e w' => ∃ v1 v2 S W c, e = .returned (.tuple #[v1, v2, .int .i64 c]) ∧ RobA p k n L S W c ∧ Ints w' v1 S ∧ Ints w' v2 W ∧ Below w.heap.size w w' := by
  by_cases hE : combE p k n L = 0
  · obtain ⟨K, N, rfl, rfl, hK, hpl, hgb⟩ := comb_zero hE
    refine (robust_ok p K N s L w hw hp hpl hgb hK hs).mono ?_
    rintro e w' ⟨v1, v2, S, W, c, rfl, hr, h1, h2, hb⟩
    exact ⟨v1, v2, S, W, c, rfl, ⟨fun h => absurd hE h, fun _ => by rw [Int.toNat_natCast]; exact hr⟩, h1, h2, hb⟩
  · refine (robust_bad p k n s L w hw hp hs hE).mono ?_
    rintro e w' ⟨rfl, hb⟩
    exact ⟨_, _, [], [], _, rfl, ⟨fun _ => ⟨rfl, rfl, rfl⟩, fun h => absurd h hE⟩, ints_zero _ _ _, ints_zero _ _ _, hb⟩
theorem ref7_robust_any (p k n : Int) (s : Value) (L : List Shr) (w : World) (hp : (Lit.int .i64 p).wf = true) (hs : Shares w s L) :
    Calls Tryz.prog 17 #[planV p k n, s] w fun e w' => ∃ v1 v2 S W c, e = .returned (.tuple #[v1, v2, .int .i64 c]) ∧ RobA p k n L S W c ∧ Ints w' v1 S ∧ Ints w' v2 W ∧ Below w.heap.size w w' := by
  by_cases hE : combE p k n L = 0
  · obtain ⟨K, N, rfl, rfl, hK, hpl, hgb⟩ := comb_zero hE
    refine (ref7_robust_ok p K N s L w hp hpl hgb hK hs).mono ?_
    rintro e w' ⟨v1, v2, S, W, c, rfl, hr, h1, h2, hb⟩
    exact ⟨v1, v2, S, W, c, rfl, ⟨fun h => absurd hE h, fun _ => by rw [Int.toNat_natCast]; exact hr⟩, h1, h2, hb⟩
  · refine (ref7_robust_bad p k n s L w hp hs hE).mono ?_
    rintro e w' ⟨rfl, hb⟩
    exact ⟨_, _, [], [], _, rfl, ⟨fun _ => ⟨rfl, rfl, rfl⟩, fun h => absurd h hE⟩, ints_zero _ _ _, ints_zero _ _ _, hb⟩
end Go.Proofs.YtpgbjnenllfmlaaGreatDoor
