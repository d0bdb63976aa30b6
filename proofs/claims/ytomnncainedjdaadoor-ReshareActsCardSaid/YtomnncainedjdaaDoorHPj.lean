
/- What the program's Deal checks, and the polynomials that hide a secret. -/
import Derived.Test.YtomnncainedjdaaDoorHPa
import Derived.Test.YtomnncainedjdaaDoorHDea
import Derived.Laws.CopyOwn
import Derived.Test.YtomnncainedjdaaDoorHTur
import Derived.Test.YtomnncainedjdaaDoorHFit
import Derived.Deep.WholeRow
/-! What the program's Deal checks, and the polynomials that hide a secret. -/
namespace Go.Proofs.YtomnncainedjdaaDoor
open Go.RowKit Go.Sort
open Num
set_option linter.unusedVariables false

set_option maxRecDepth 100000 in
set_option maxHeartbeats 8000000 in
theorem checkDeal_i (p k n : Int) (vs vr : Value) (s r : List Int) (w : World) (hw : Wheel w) (hp : (Lit.int .i64 p).wf = true) (hs : Ints w vs s) (hr : Slc w vr r) (hsl : s.length ≤ 2048) (hrl : r.length ≤ 1000000) :
    Calls Tryd.prog 55 #[planV p k n, vs, vr] w fun e w' => e = .returned (.int .i64 (dealE p k n s r)) ∧ Below w.heap.size w w' := by
  unfold planV
  obtain ⟨sa, sc, rfl⟩ := hs.shape
  have hsi := hs
  clear hs
  obtain ⟨ra, rc, rfl, _, _, hri⟩ := hr
  obtain ⟨S, hS⟩ : ∃ S, s.length = S := ⟨_, rfl⟩
  obtain ⟨R, hR⟩ : ∃ R, r.length = R := ⟨_, rfl⟩
  rw [hS] at hsi hsl ⊢
  rw [hR] at hri hrl ⊢
  obtain ⟨g, hg⟩ : ∃ g, w.heap.size = g := ⟨_, rfl⟩
  obtain ⟨w1, hw1⟩ : ∃ w1, w.alloc (Obj.cells #[Value.int IntKind.i64 p, Value.int IntKind.i64 k, Value.int IntKind.i64 n] 30) = w1 := ⟨_, rfl⟩
  have hb1 : Below g w w1 := by rw [← hw1, ← hg]; exact (Below.refl _ _).alloc (Nat.le_refl _) _
  have hp1 : PlanAt w1 g p k n := by rw [← hw1, ← hg]; exact planAt_new _ _ _ _ _
  have hs1 : w1.heap.size = g + 1 := by rw [← hw1, ← hg]; simp
  have HV := Lib.hid (share_valid p k n w1 (hw.below (by rw [← hg]; exact hw.size) hb1) hp)
  unfold planV at HV
  obtain ⟨bp, hbp⟩ : ∃ b, planB p k n = b := ⟨_, rfl⟩
  rw [hbp] at HV
  have HGG := Lib.hid hg
  have HSI := Lib.hid (fun W (hb : Below g w W) => hsi.below (Nat.le_of_eq hg) hb)
  have HRI := Lib.hid (fun W (hb : Below g w W) => hri.below (Nat.le_of_eq hg) hb)
  have HB1 := Lib.hid hb1
  have HP1 := Lib.hid hp1
  have HZ1 := Lib.hid hs1
  have HSS := Lib.hid hS
  have HRR := Lib.hid hR
  have d0' := hp1.c0
  have d1' := hp1.c1
  have d2' := hp1.c2
  rw [hg]
  clear hsi hri hb1 hp1 hs1 hw hS hR hp
  cases bp with
  | false =>
    have HE : Hid (dealE p k n s r = 1) := by show _ = _; unfold dealE; rw [if_neg (by rw [hbp]; simp)]
    rw [HE.out]
    clear hbp
    go_enter Tryd.func55, Tryd.ntmps55
    go_wp2_with fail
    refine HV.out.mono ?_
    rintro e w2 ⟨rfl, hb2⟩
    have HB2 := Lib.hid (HB1.out.trans (hb2.mono (by have := HZ1.out; omega)))
    clear hb2 HV
    go_wp2
    go_ret
    exact ⟨rfl, HB2.out⟩
  | true =>
    obtain ⟨hprm, hp2, hk1, hkn, hn16, hnp⟩ := planB_parts hbp
    obtain ⟨K, hK⟩ := Int.eq_ofNat_of_zero_le (show 0 ≤ k - 1 by omega)
    obtain ⟨Z, hZ⟩ : ∃ Z, S * K = Z := ⟨_, rfl⟩
    have HE : Hid (∀ (b1 b2 : Bool), elB p s = b1 → elB p r = b2 → dealE p k n s r = if b1 = true ∧ b2 = true ∧ R = Z then 0 else 2) := fun b1 b2 e1 e2 => by
      unfold dealE
      rw [if_pos hbp, e1, e2, HSS.out, HRR.out, hK, ← hZ]
      have : ((R : Int) = (S : Int) * (K : Int)) ↔ R = S * K := by
        constructor
        · intro h; exact_mod_cast h
        · intro h; rw [h]; push_cast; rfl
      simp only [this]
    have HRN : Hid (∀ W, Calls Tryd.prog 72 #[.agg #[.int .i64 p, .int .i64 k, .int .i64 n], .int .i64 (S : Int)] W fun e w' => e = .returned (.int .i64 (Z : Int)) ∧ Below W.heap.size W w') := fun W => by
      have h := share_random p k n S W hk1 (by omega) (by omega)
      rw [hK, show (S : Int) * (K : Int) = (Z : Int) by rw [← hZ]; push_cast; rfl] at h
      exact h
    have HL1 := Lib.hid (fun W (hb : Below g w W) => share_elements p (.slice sa S sc) s W hprm hp2 (HSI.out W hb))
    have HL2 := Lib.hid (fun W (hb : Below g w W) => share_elements p (.slice ra R rc) r W hprm hp2 (HRI.out W hb))
    obtain ⟨b1, h1⟩ : ∃ b, elB p s = b := ⟨_, rfl⟩
    obtain ⟨b2, h2⟩ : ∃ b, elB p r = b := ⟨_, rfl⟩
    rw [h1] at HL1
    rw [h2] at HL2
    rw [HE.out b1 b2 h1 h2]
    have q1 : decide ((2048 : Int) < (S : Int)) = false := decide_eq_false (by omega)
    clear hbp hprm hp2 hk1 hkn hn16 hnp hK hZ HE h1 h2
    have HFF : Hid (∀ v : Int, (¬ (b1 = true ∧ b2 = true ∧ R = Z) ∧ v = 2) ∨ ((b1 = true ∧ b2 = true ∧ R = Z) ∧ v = 0) → v = (if b1 = true ∧ b2 = true ∧ R = Z then 0 else 2)) := fun v h => by
      rcases h with ⟨h, rfl⟩ | ⟨h, rfl⟩
      · rw [if_neg h]
      · rw [if_pos h]
    obtain ⟨rv, hrv⟩ : ∃ v : Int, (if b1 = true ∧ b2 = true ∧ R = Z then 0 else 2) = v := ⟨_, rfl⟩
    rw [hrv] at HFF ⊢
    clear hrv
    go_enter Tryd.func55, Tryd.ntmps55
    go_wp2_with fail
    refine HV.out.mono ?_
    rintro e w2 ⟨rfl, hb2⟩
    have hp3 := HP1.out.below HP1.out.lt hb2
    have HB2 := Lib.hid (HB1.out.trans (hb2.mono (by have := HZ1.out; omega)))
    have HP2 := Lib.hid hp3
    have c0 := hp3.c0
    have c1 := hp3.c1
    have c2 := hp3.c2
    clear hb2 HV d0' d1' d2' hp3 hw1
    go_wp2_with fail
    refine (HRN.out w2).mono ?_
    rintro e w3 ⟨rfl, hb3⟩
    have hp3 := HP2.out.below HP2.out.lt hb3
    have HB3 := Lib.hid (HB2.out.trans (hb3.mono (by have := HP2.out.lt; omega)))
    have c0 := hp3.c0
    clear hb3 hp3
    by_cases hRZ : R = Z
    · subst hRZ
      have n1 : ((R : Int) != (R : Int)) = false := by simp
      cases b1 with
      | false =>
        have HRV := Lib.hid (HFF.out 2 (.inl ⟨by simp, rfl⟩))
        clear HFF
        go_wp2_with fail
        refine (HL1.out w3 HB3.out).mono ?_
        rintro e w' ⟨rfl, rfl⟩
        go_wp2
        go_ret
        exact ⟨ret_int HRV.out, HB3.out⟩
      | true =>
        cases b2 with
        | false =>
          have HRV := Lib.hid (HFF.out 2 (.inl ⟨by simp, rfl⟩))
          clear HFF
          go_wp2_with fail
          refine (HL1.out w3 HB3.out).mono ?_
          rintro e w' ⟨rfl, rfl⟩
          go_wp2_with fail
          refine (HL2.out w3 HB3.out).mono ?_
          rintro e w' ⟨rfl, rfl⟩
          go_wp2
          go_ret
          exact ⟨ret_int HRV.out, HB3.out⟩
        | true =>
          have HRV := Lib.hid (HFF.out 0 (.inr ⟨by simp, rfl⟩))
          clear HFF
          go_wp2_with fail
          refine (HL1.out w3 HB3.out).mono ?_
          rintro e w' ⟨rfl, rfl⟩
          go_wp2_with fail
          refine (HL2.out w3 HB3.out).mono ?_
          rintro e w' ⟨rfl, rfl⟩
          go_wp2
          go_ret
          exact ⟨ret_int HRV.out, HB3.out⟩
    · have n1 : ((R : Int) != (Z : Int)) = true := by simp only [bne_iff_ne]; omega
      have HRV := Lib.hid (HFF.out 2 (.inl ⟨fun e => hRZ e.2.2, rfl⟩))
      clear HFF hRZ
      go_wp2
      go_ret
      exact ⟨ret_int HRV.out, HB3.out⟩
theorem checkDeal_any (p k n : Int) (vs vr : Value) (s r : List Int) (w : World) (hw : Wheel w) (hp : (Lit.int .i64 p).wf = true) (hs : Slc w vs s) (hr : Slc w vr r) (hsl : s.length ≤ 2048) (hrl : r.length ≤ 1000000) :
    Calls Tryd.prog 55 #[planV p k n, vs, vr] w fun e w' => e = .returned (.int .i64 (dealE p k n s r)) ∧ Below w.heap.size w w' :=
  checkDeal_i p k n vs vr s r w hw hp hs.ints hr hsl hrl

/-! ### The polynomials -/
def zeros16 : Array Value := #[.int .i64 0, .int .i64 0, .int .i64 0, .int .i64 0, .int .i64 0, .int .i64 0, .int .i64 0, .int .i64 0, .int .i64 0, .int .i64 0, .int .i64 0, .int .i64 0, .int .i64 0, .int .i64 0, .int .i64 0, .int .i64 0]
def head16 (x : Int) : List Value := .int .i64 x :: List.replicate 15 (.int .i64 0)
theorem zeros16_set (x : Int) : zeros16.setIfInBounds 0 (.int .i64 x) = (head16 x).toArray := rfl
def hidA (l : List Int) : List Value := (List.range 16).map fun i => Value.int .i64 (l.getD i 0)
theorem hidA_len (l : List Int) : (hidA l).length = 16 := by simp [hidA]
theorem hidA_all (l : List Int) : (hidA l).toArray.all (·.oneCell') = true := all_oneCell_toArray (fun v hv => by
  obtain ⟨i, _, rfl⟩ := List.mem_map.1 hv
  rfl)
theorem splice_hid (x : Int) (rr : List Int) (h : rr.length ≤ 15) : splice (head16 x) 1 (rr.map (Value.int .i64)) = hidA (x :: rr) := by
  refine List.ext_getElem (by rw [length_splice]; simp [head16, hidA]; simp [head16]; omega) fun i h1 h2 => ?_
  rw [hidA_len] at h2
  have e2 : (hidA (x :: rr))[i]? = some (Value.int .i64 ((x :: rr).getD i 0)) := by simp [hidA, h2]
  have e1 : (splice (head16 x) 1 (rr.map (Value.int .i64)))[i]? = some (Value.int .i64 ((x :: rr).getD i 0)) := by
    unfold splice head16
    rcases i with _ | i
    · simp
    · have e : (Value.int IntKind.i64 x :: List.replicate 15 (Value.int IntKind.i64 0)).take 1 = [Value.int IntKind.i64 x] := rfl
      rw [e, List.singleton_append, List.getElem?_cons_succ]
      by_cases hi : i < rr.length
      · rw [List.getElem?_append_left (by simpa using hi)]
        simp [List.getD, hi]
      · rw [List.getElem?_append_right (by simp; omega)]
        simp only [List.length_map, List.getElem?_drop]
        rw [show 1 + rr.length + (i - rr.length) = i + 1 by omega, List.getElem?_cons_succ, List.getElem?_replicate, if_pos (by omega)]
        simp [List.getD, show rr.length ≤ i by omega]
  rw [List.getElem?_eq_getElem h1] at e1
  rw [List.getElem?_eq_getElem (by rw [hidA_len]; exact h2)] at e2
  have := e1.trans e2.symm
  simpa using this
theorem infoArr : (Tryd.prog.info? 84).map (·.size) = some 16 := by kernel_rfl
theorem infoIntS : (Tryd.prog.info? 3).map (·.size) = some 1 := by kernel_rfl
theorem slice_arr1 (g K1 : Nat) (h1 : 1 ≤ K1) (h2 : K1 ≤ 16) (w : World) : (Instr.sliceAt 84 (.pointer (some ⟨g, 0, none⟩)) (some (.int .i64 1)) (some (.int .i64 (K1 : Int))) none).run Tryd.prog w = .ok (.slice (some ⟨g, 1, none⟩) (K1 - 1) 15) w := by
  have hl : Tryd.prog.arrayLen 84 = 16 := by kernel_rfl
  have he : Tryd.prog.elem 84 = 3 := by kernel_rfl
  have hu : Tryd.prog.underlying 84 = some (.array (Tryd.prog.arrayLen 84) (Tryd.prog.elem 84)) := by kernel_rfl
  have hz : (sizeOf 3).run Tryd.prog w = .ok 1 w := by
    obtain ⟨i, hi, hs⟩ := Option.map_eq_some_iff.1 infoIntS
    simp [sizeOf, typeInfo, hi, hs]
  have ha : (⟨g, 0, none⟩ : Addr).add 1 = ⟨g, 1, none⟩ := by unfold Addr.add; split <;> simp_all
  rw [run_sliceAt_array_lh w 84 ⟨g, 0, none⟩ hu .i64 .i64 1 (K1 : Int) (by omega) (by omega) (by rw [hl]; omega), hl, he, hz]
  simp [Result.andThen, slicedAt, ha]
theorem slice_arr0 (g K1 : Nat) (h2 : K1 ≤ 16) (w : World) : (Instr.sliceAt 84 (.pointer (some ⟨g, 0, none⟩)) none (some (.int .i64 (K1 : Int))) none).run Tryd.prog w = .ok (.slice (some ⟨g, 0, none⟩) K1 16) w := by
  have hl : Tryd.prog.arrayLen 84 = 16 := by kernel_rfl
  have he : Tryd.prog.elem 84 = 3 := by kernel_rfl
  have hu : Tryd.prog.underlying 84 = some (.array (Tryd.prog.arrayLen 84) (Tryd.prog.elem 84)) := by kernel_rfl
  have hz : (sizeOf 3).run Tryd.prog w = .ok 1 w := by
    obtain ⟨i, hi, hs⟩ := Option.map_eq_some_iff.1 infoIntS
    simp [sizeOf, typeInfo, hi, hs]
  have ha : (⟨g, 0, none⟩ : Addr).add 0 = ⟨g, 0, none⟩ := by unfold Addr.add; split <;> simp_all
  rw [run_sliceAt_array_h w 84 ⟨g, 0, none⟩ hu .i64 (K1 : Int) (by omega) (by rw [hl]; omega), hl, he, hz]
  simp [Result.andThen, slicedAt, ha]
end Go.Proofs.YtomnncainedjdaaDoor
/-! The polynomials that hide a secret: the program's hiding. -/
namespace Go.Proofs.YtomnncainedjdaaDoor
open Go.RowKit Go.Sort
open Num
set_option linter.unusedVariables false

set_option maxRecDepth 100000 in
set_option maxHeartbeats 8000000 in
theorem hiding_any (p n : Int) (K K1 m : Nat) (vs vr : Value) (s r : List Int) (w : World) (hk : K + 1 = K1) (hK : K ≤ 15) (hs : Ints w vs s) (hr : Slc w vr r) (hm : m < s.length) (hS : s.length ≤ 2048) (hrl : r.length = s.length * K) :
    Calls Tryd.prog 56 #[planV p (K1 : Int) n, vs, vr, .int .i64 m] w fun e w' => e = .returned (.agg (hidA (polyL K s r m)).toArray) ∧ Below w.heap.size w w' := by
  unfold planV
  obtain ⟨sa, sc, rfl⟩ := hs.shape
  obtain ⟨ra, rc, rfl, hrc, hrc2, hri⟩ := hr
  obtain ⟨S, hSS⟩ : ∃ S, s.length = S := ⟨_, rfl⟩
  obtain ⟨R, hR⟩ : ∃ R, r.length = R := ⟨_, rfl⟩
  obtain ⟨A, hA⟩ : ∃ A, m * K = A := ⟨_, rfl⟩
  have hRN := share_random p (K1 : Int) n m
  have hA2 : A + K ≤ R := by
    rw [← hR, hrl, ← hA]
    have : (m + 1) * K ≤ s.length * K := Nat.mul_le_mul_right K hm
    rw [Nat.add_mul, Nat.one_mul] at this
    exact this
  have HPL : Hid (polyL K s r m = s.getD m 0 :: (r.drop A).take K) := by show _ = _; unfold polyL; rw [hA]
  have HLR : Hid (((r.drop A).take K).length = K) := by show _ = _; rw [List.length_take, List.length_drop, hR]; omega
  have hAb : A ≤ 40000 := by
    have h1 : m * K ≤ 2048 * 15 := Nat.mul_le_mul (by omega) hK
    omega
  rw [hSS] at hs hS hm ⊢
  rw [hR] at hrc hri ⊢
  obtain ⟨g, hg⟩ : ∃ g, w.heap.size = g := ⟨_, rfl⟩
  obtain ⟨x, hx⟩ : ∃ x, s.getD m 0 = x := ⟨_, rfl⟩
  rw [hx] at HPL
  obtain ⟨w1, hw1⟩ : ∃ w1, (w.alloc (Obj.cells #[Value.int IntKind.i64 p, Value.int IntKind.i64 (K1 : Int), Value.int IntKind.i64 n] 30)).alloc (Obj.cells zeros16 84) = w1 := ⟨_, rfl⟩
  have hal : ∀ (W : World) (o : Obj), Below W.heap.size W (W.alloc o) := fun W o => (Below.refl _ _).alloc (Nat.le_refl _) o
  have hb1 : Below g w w1 := by rw [← hw1, ← hg]; exact (hal _ _).trans ((hal _ _).mono (by simp))
  have hp1 : PlanAt w1 g p (K1 : Int) n := by rw [← hw1, ← hg]; exact (planAt_new _ _ _ _ _).below (by simp) (hal _ _)
  have hs1 : w1.heap.size = g + 1 + 1 := by rw [← hw1, ← hg]; simp
  have hz1 : w1.heap[g + 1]? = some (.cells zeros16 84 (0, 0)) := by
    have h := heap_alloc_new (w.alloc (Obj.cells #[Value.int IntKind.i64 p, Value.int IntKind.i64 (K1 : Int), Value.int IntKind.i64 n] 30)) (Obj.cells zeros16 84)
    rw [← hw1, ← hg]
    simpa using h
  obtain ⟨b1, o1, hae, hcx⟩ := (hs.below (Nat.le_of_eq hg) hb1).pos hm
  rw [hx] at hcx
  have z0 : w1.cell? ⟨g + 1, 0, none⟩ = some (.int .i64 0) := by simp [World.cell?, hz1, zeros16]
  have zf : w1.frozen? ⟨g + 1, 0, none⟩ = false := by simp [World.frozen?, hz1]
  obtain ⟨w2, hw2⟩ : ∃ w2, w1.setCell ⟨g + 1, 0, none⟩ (.int .i64 x) = w2 := ⟨_, rfl⟩
  have hb2 : Below g w w2 := by rw [← hw2]; exact hb1.trans (set1_below _ _ _ (by omega))
  have hp2 : PlanAt w2 g p (K1 : Int) n := by rw [← hw2]; exact hp1.below (Nat.lt_succ_self g) (set1_below _ _ _ (Nat.le_refl _))
  have hs2 : w2.heap.size = g + 1 + 1 := by rw [← hw2]; simpa using hs1
  have hz2 : w2.heap[g + 1]? = some (.cells (head16 x).toArray 84 (0, 0)) := by
    rw [← hw2, Go.heap_setCell_same w1 (g + 1) 0 zeros16 84 _ hz1, zeros16_set]
  have HRN : Hid (Calls Tryd.prog 72 #[.agg #[.int .i64 p, .int .i64 (K1 : Int), .int .i64 n], .int .i64 (m : Int)] w2.drew fun e w' => e = .returned (.int .i64 (A : Int)) ∧ Below w2.drew.heap.size w2.drew w') := by
    have h := hRN w2.drew (by omega) (by omega) (by omega)
    rw [show (K1 : Int) - 1 = (K : Int) by omega, show (m : Int) * (K : Int) = (A : Int) by rw [← hA]; push_cast; rfl] at h
    exact h
  have HB2 : Hid (Below g w w2.drew) := hb2.drew
  have HP2 : Hid (PlanAt w2.drew g p (K1 : Int) n) := hp2
  have HZ2 : Hid (w2.drew.heap[g + 1]? = some (.cells (head16 x).toArray 84 (0, 0))) := hz2
  have HSZ : Hid (w2.drew.heap.size = g + 1 + 1) := hs2
  have HRI := Lib.hid (fun W (hb : Below g w W) => hri.below (Nat.le_of_eq hg) hb)
  have HRR := Lib.hid hR
  have HW2 := Lib.hid hw2
  have HKK := Lib.hid hk
  have c0 := hp2.c0
  have c1 := hp2.c1
  have c2 := hp2.c2
  subst hae
  rw [hg, HPL.out]
  obtain ⟨rr, hrr⟩ : ∃ rr, (r.drop A).take K = rr := ⟨_, rfl⟩
  rw [hrr] at HLR ⊢
  have HRQ := Lib.hid hrr
  have hK1b : 1 ≤ K1 := by omega
  have hK1c : K1 ≤ 16 := by omega
  have hmb : m ≤ 2048 := by omega
  have hAR : A ≤ R := by omega
  have hAR2 : (A : Int) ≤ (R : Int) := by omega
  have hAR3 : (0 : Int) ≤ (A : Int) := by omega
  have hslc := slice_arr1 (g + 1) K1 hK1b hK1c
  clear hs hri hb1 hp1 hs1 hz1 hb2 hp2 hs2 hz2 hrl hSS hR hA hx hRN hal hw2 hrr hk
  obtain ⟨C, hC⟩ : ∃ C, (hidA (x :: rr)).toArray = C := ⟨_, rfl⟩
  rw [hC]
  have HCC := Lib.hid hC
  have hCs : C.size = 16 := by rw [← hC]; simp [hidA]
  have hCa : C.all (·.oneCell') = true := by rw [← hC]; exact hidA_all _
  clear hC
  go_enter Tryd.func56, Tryd.ntmps56
  unfold zeros16 at hw1
  go_wp2_with fail
  rw [HW2.out]
  clear hw1 z0 zf hcx
  have HKD : Hid (∀ W, Below w2.drew.heap.size w2.drew W → W.cell? ⟨g, 0, none⟩ = some (.int .i64 p) ∧ W.cell? ⟨g, 1, none⟩ = some (.int .i64 (K1 : Int)) ∧ W.cell? ⟨g, 2, none⟩ = some (.int .i64 n)) := fun W hb => by
    have h := HP2.out.below HP2.out.lt hb
    exact ⟨h.c0, h.c1, h.c2⟩
  have HKE : Hid (∀ W3 W, Below w2.drew.heap.size w2.drew W3 → Below (g + 1) W3 W → W.cell? ⟨g, 0, none⟩ = some (.int .i64 p) ∧ W.cell? ⟨g, 1, none⟩ = some (.int .i64 (K1 : Int)) ∧ W.cell? ⟨g, 2, none⟩ = some (.int .i64 n)) := fun W3 W hb hb2 => by
    have h := (HP2.out.below HP2.out.lt hb).below (Nat.lt_succ_self g) hb2
    exact ⟨h.c0, h.c1, h.c2⟩
  have HZD : Hid (∀ W, Below w2.drew.heap.size w2.drew W → W.heap[g + 1]? = some (.cells (head16 x).toArray 84 (0, 0))) := fun W hb => by
    rw [hb.block _ (by rw [HSZ.out]; omega)]; exact HZ2.out
  have HBD : Hid (∀ W, Below w2.drew.heap.size w2.drew W → Below g w W) := fun W hb => HB2.out.trans (hb.mono (by rw [HSZ.out]; omega))
  have HSH : Hid (splice (head16 x) 1 (rr.map (Value.int .i64)) = hidA (x :: rr)) := splice_hid x rr (by rw [HLR.out]; exact hK)
  have HFIT : Hid (1 + (rr.map (Value.int .i64)).length ≤ (head16 x).length) := by show _ ≤ _; rw [List.length_map, HLR.out]; simp [head16]; omega
  have HONE : Hid (∀ v ∈ rr.map (Value.int .i64), v.oneCell' = true) := fun v hv => by
    obtain ⟨i, _, rfl⟩ := List.mem_map.1 hv
    rfl
  have hkm : (rr.map (Value.int .i64)).length = K1 - 1 := by rw [List.length_map, HLR.out]; have := HKK.out; omega
  have HVO : Hid (rr = [] → 0 < (rr.map (Value.int .i64)).length → False) := fun e h => by rw [e] at h; simp at h
  have HJJ : Hid (∀ j v, (rr.map (Value.int .i64))[j]? = some v → j < K ∧ Value.int .i64 (rr.getD j 0) = v) := fun j v hv => by
    by_cases e : j < rr.length
    · rw [List.getElem?_map, List.getElem?_eq_getElem e] at hv
      rw [getD_at e]
      exact ⟨by rw [← HLR.out]; exact e, Option.some.inj hv⟩
    · rw [List.getElem?_eq_none (by simp; omega)] at hv; cases hv
  have HKM := Lib.hid hkm
  clear hkm
  generalize rr.map (Value.int .i64) = cs at *
  cases ra with
  | none =>
    have HK0 : Hid (rr = []) := by
      have h1 := ints_none (HRI.out w (Below.refl _ _))
      have h2 := HRQ.out
      rw [h1] at h2
      simp at h2
      exact h2
    have hR0 : R = 0 := by rw [← HRR.out, ints_none (HRI.out w (Below.refl _ _))]; rfl
    have hA0 : A = 0 := by omega
    subst hR0 hA0
    have HMN : Hid (K1 - 1 = Nat.min 0 (K1 - 1)) := by show _ = _; have h1 := HLR.out; rw [HK0.out] at h1; have h2 := HKK.out; simp at h1; simp; omega
    go_region_held3 (fun W' => W'.cell? ⟨g, 0, none⟩ = some (.int .i64 p) ∧ W'.cell? ⟨g, 1, none⟩ = some (.int .i64 (K1 : Int)) ∧ W'.cell? ⟨g, 2, none⟩ = some (.int .i64 n)) (first | go_keep | exact HSK)
    (first
      | (go_at_call 72; refine HRN.out.mono ?_; rintro e w3 ⟨rfl, hb⟩; have HSK := HKD.out w3 hb; have HB3 := Lib.hid hb; clear hb)
      | (refine step_copy_splice rfl (.tmp 16) (.tmp 21) 22 22 rfl 3 Tryd.underlying22 infoIntS _ _ _ _ _ _ rfl rfl (g + 1) 1 (head16 x) 84 (HZD.out w3 HB3.out) cs (by rw [HKM.out]; exact HMN.out) (fun h => (HVO.out HK0.out h).elim) HFIT.out HONE.out (g + 1) w3 (Below.refl _ _) (Nat.le_refl _) ?_; intro w4 hg4 hb4; have HSK := HKE.out w3 w4 HB3.out hb4; have HB4 := Lib.hid hb4; clear hb4))
    all_goals
      have HF4 : Hid (w4.heap[g + 1]? = some (.cells C 84 (0, 0))) := by rw [← HCC.out, ← HSH.out]; exact hg4.out
      have HBF : Hid (Below g w w4) := (HBD.out w3 HB3.out).trans (HB4.out.mono (by omega))
      clear hg4 HSK
      go_wp2_with (first
        | (refine wpList_load_row rfl 84 (.tmp 8) rfl (g + 1) rfl 84 C (0, 0) _ HF4.out Tryd.underlying84 rfl (by rw [hCs]; exact infoArr) ?_)
        | (refine wpList_store_row rfl 84 (.tmp 8) (.tmp 23) rfl (g + 1) C rfl rfl 84 C HF4.out (by rw [hCs]; exact infoArr) rfl hCa ?_))
      rw [setRow_self w4 (g + 1) C 84 (0, 0) HF4.out]
      exact bodyPost_ret (results_cell_row rfl _ _ (g + 1) 84 C (0, 0) _ rfl HF4.out Tryd.underlying84 rfl (by rw [hCs]; exact infoArr)) rfl ⟨rfl, HBF.out⟩
  | some ad =>
    rcases Nat.lt_or_ge A rc with hAr | hAr
    · have hne : ¬ rc = A := by omega
      have HMN : Hid (K1 - 1 = Nat.min (R - A) (K1 - 1)) := by show _ = _; have h2 := HKK.out; exact (Nat.min_eq_right (by omega)).symm
      have HCP : Hid (∀ W, Below g w W → ∀ j v, cs[j]? = some v → W.cell? ((ad.add A).add j) = some v) := fun W hb j v hv => by
        have h := ints_sub (HRI.out W hb) HRR.out A K K hA2
        rw [HRQ.out] at h
        obtain ⟨hj, hjv⟩ := HJJ.out j v hv
        obtain ⟨b, off, e, hc⟩ := h.pos hj
        simp only [Option.some.injEq] at e
        rw [e]
        have e2 : (⟨b, off, none⟩ : Addr).add j = ⟨b, off + j, none⟩ := by unfold Addr.add; split <;> simp_all
        rw [e2, hc]
        rw [hjv]
      go_region_held3 (fun W' => W'.cell? ⟨g, 0, none⟩ = some (.int .i64 p) ∧ W'.cell? ⟨g, 1, none⟩ = some (.int .i64 (K1 : Int)) ∧ W'.cell? ⟨g, 2, none⟩ = some (.int .i64 n)) (first | go_keep | exact HSK)
      (first
        | (go_at_call 72; refine HRN.out.mono ?_; rintro e w3 ⟨rfl, hb⟩; have HSK := HKD.out w3 hb; have HB3 := Lib.hid hb; clear hb)
        | (refine step_copy_splice rfl (.tmp 16) (.tmp 21) 22 22 rfl 3 Tryd.underlying22 infoIntS _ _ _ _ _ _ rfl rfl (g + 1) 1 (head16 x) 84 (HZD.out w3 HB3.out) cs (by rw [HKM.out]; exact HMN.out) (fun _ => ⟨rfl, _, rfl, HCP.out w3 (HBD.out w3 HB3.out)⟩) HFIT.out HONE.out (g + 1) w3 (Below.refl _ _) (Nat.le_refl _) ?_; intro w4 hg4 hb4; have HSK := HKE.out w3 w4 HB3.out hb4; have HB4 := Lib.hid hb4; clear hb4))
      all_goals
        have HF4 : Hid (w4.heap[g + 1]? = some (.cells C 84 (0, 0))) := by rw [← HCC.out, ← HSH.out]; exact hg4.out
        have HBF : Hid (Below g w w4) := (HBD.out w3 HB3.out).trans (HB4.out.mono (by omega))
        clear hg4 HSK
        go_wp2_with (first
          | (refine wpList_load_row rfl 84 (.tmp 8) rfl (g + 1) rfl 84 C (0, 0) _ HF4.out Tryd.underlying84 rfl (by rw [hCs]; exact infoArr) ?_)
          | (refine wpList_store_row rfl 84 (.tmp 8) (.tmp 23) rfl (g + 1) C rfl rfl 84 C HF4.out (by rw [hCs]; exact infoArr) rfl hCa ?_))
        rw [setRow_self w4 (g + 1) C 84 (0, 0) HF4.out]
        exact bodyPost_ret (results_cell_row rfl _ _ (g + 1) 84 C (0, 0) _ rfl HF4.out Tryd.underlying84 rfl (by rw [hCs]; exact infoArr)) rfl ⟨rfl, HBF.out⟩
    · obtain rfl : A = rc := by omega
      have HK0 : Hid (rr = []) := List.eq_nil_of_length_eq_zero (by rw [HLR.out]; omega)
      have HMN : Hid (K1 - 1 = Nat.min 0 (K1 - 1)) := by show _ = _; have h1 := HLR.out; rw [HK0.out] at h1; have h2 := HKK.out; simp at h1; simp; omega
      go_region_held3 (fun W' => W'.cell? ⟨g, 0, none⟩ = some (.int .i64 p) ∧ W'.cell? ⟨g, 1, none⟩ = some (.int .i64 (K1 : Int)) ∧ W'.cell? ⟨g, 2, none⟩ = some (.int .i64 n)) (first | go_keep | exact HSK)
      (first
        | (go_at_call 72; refine HRN.out.mono ?_; rintro e w3 ⟨rfl, hb⟩; have HSK := HKD.out w3 hb; have HB3 := Lib.hid hb; clear hb)
        | (refine step_copy_splice rfl (.tmp 16) (.tmp 21) 22 22 rfl 3 Tryd.underlying22 infoIntS _ _ _ _ _ _ rfl rfl (g + 1) 1 (head16 x) 84 (HZD.out w3 HB3.out) cs (by rw [HKM.out]; exact HMN.out) (fun h => (HVO.out HK0.out h).elim) HFIT.out HONE.out (g + 1) w3 (Below.refl _ _) (Nat.le_refl _) ?_; intro w4 hg4 hb4; have HSK := HKE.out w3 w4 HB3.out hb4; have HB4 := Lib.hid hb4; clear hb4))
      all_goals
        have HF4 : Hid (w4.heap[g + 1]? = some (.cells C 84 (0, 0))) := by rw [← HCC.out, ← HSH.out]; exact hg4.out
        have HBF : Hid (Below g w w4) := (HBD.out w3 HB3.out).trans (HB4.out.mono (by omega))
        clear hg4 HSK
        go_wp2_with (first
          | (refine wpList_load_row rfl 84 (.tmp 8) rfl (g + 1) rfl 84 C (0, 0) _ HF4.out Tryd.underlying84 rfl (by rw [hCs]; exact infoArr) ?_)
          | (refine wpList_store_row rfl 84 (.tmp 8) (.tmp 23) rfl (g + 1) C rfl rfl 84 C HF4.out (by rw [hCs]; exact infoArr) rfl hCa ?_))
        rw [setRow_self w4 (g + 1) C 84 (0, 0) HF4.out]
        exact bodyPost_ret (results_cell_row rfl _ _ (g + 1) 84 C (0, 0) _ rfl HF4.out Tryd.underlying84 rfl (by rw [hCs]; exact infoArr)) rfl ⟨rfl, HBF.out⟩
end Go.Proofs.YtomnncainedjdaaDoor
/-! Shares as they are made, in memory. -/
namespace Go.Proofs.YtomnncainedjdaaDoor
open Go.RowKit Go.Sort
open Num
set_option linter.unusedVariables false

/-- The shares as they are made: their row, and a row of values for each of the first k. -/
structure MadeS (w : World) (g q N S k : Nat) (G : Nat → Nat) (f : Nat → Nat → Int) : Prop where
  row : RowS w q N (fun j => if j < k then (((j + 1 : Nat) : Int), .slice (some ⟨G j, 0, none⟩) S S) else (0, .slice none 0 0))
  val : ∀ j, j < k → w.rowIs (G j) 3 S (fun i => .int .i64 (f j i))
  up : ∀ i j, i < j → j < k → G i < G j
  lo : ∀ j, j < k → q < G j
  qlo : g ≤ q
  lt : q < w.heap.size
theorem madeCells2 (N i : Nat) (h : i < N) : (madeCells #[.int .i64 0, .slice none 0 0] (N * 2))[i * 2]? = some (Value.int .i64 0) ∧ (madeCells #[.int .i64 0, .slice none 0 0] (N * 2))[i * 2 + 1]? = some (Value.slice none 0 0) := by
  unfold madeCells
  have e1 : i * 2 < N * 2 := by omega
  have e2 : i * 2 + 1 < N * 2 := by omega
  have m1 : i * 2 % 2 = 0 := by omega
  have m2 : (i * 2 + 1) % 2 = 1 := by omega
  constructor
  · rw [Array.getElem?_map, Array.getElem?_range]
    simp [e1, m1]
  · rw [Array.getElem?_map, Array.getElem?_range]
    simp [e2, m2]
theorem made_start (w : World) (g N S : Nat) (G : Nat → Nat) (f : Nat → Nat → Int) (t : TypeId) (hg : g ≤ w.heap.size) : MadeS (w.alloc (.cells (madeCells #[.int .i64 0, .slice none 0 0] (N * 2)) t)) g w.heap.size N S 0 G f := by
  refine ⟨fun i hi => ?_, fun j hj => by omega, fun i j h1 h2 => by omega, fun j hj => by omega, hg, by simp⟩
  obtain ⟨h1, h2⟩ := madeCells2 N i hi
  have hb : (w.alloc (.cells (madeCells #[.int .i64 0, .slice none 0 0] (N * 2)) t)).heap[w.heap.size]? = some (.cells (madeCells #[.int .i64 0, .slice none 0 0] (N * 2)) t (0, 0)) := heap_alloc_new w _
  simp only [Nat.not_lt_zero, if_false]
  refine ⟨?_, ?_, ?_, ?_⟩
  · rw [cell_new]; exact h1
  · rw [cell_new]; exact h2
  · exact frozen_of_row _ _ _ _ _ hb
  · exact frozen_of_row _ _ _ _ _ hb
theorem MadeS.grow {w w' : World} {g q N S k : Nat} {G : Nat → Nat} {f : Nat → Nat → Int} (h : MadeS w g q N S k G f) (b : Below w.heap.size w w') : MadeS w' g q N S k G f :=
  ⟨h.row.of_block (b.block q h.lt), fun j hj => (h.val j hj).of_block (b.block _ (h.val j hj).lt), h.up, h.lo, h.qlo, Nat.lt_of_lt_of_le h.lt b.size⟩
theorem MadeS.congr {w : World} {g q N S k : Nat} {G : Nat → Nat} {f f' : Nat → Nat → Int} (h : MadeS w g q N S k G f) (e : ∀ j i, j < k → i < S → f j i = f' j i) : MadeS w g q N S k G f' :=
  ⟨h.row, fun j hj => (h.val j hj).congr fun i hi => by rw [e j i hj hi], h.up, h.lo, h.qlo, h.lt⟩
theorem rowS_congr {w : World} {q n : Nat} {Z Z' : Nat → Int × Value} (h : RowS w q n Z) (e : ∀ i, i < n → Z i = Z' i) : RowS w q n Z' := fun i hi => by rw [← e i hi]; exact h i hi
theorem blk_other (w : World) (q o : Nat) (x : Value) {b : Nat} (hb : b ≠ q) : (w.setCell ⟨q, o, none⟩ x).heap[b]? = w.heap[b]? := Below.heap_setCell w ⟨q, o, none⟩ x b (fun e => hb e)
theorem setCells2_other (w : World) (q o : Nat) (x y : Value) {b : Nat} (hb : b ≠ q) : (w.setCells q o [x, y]).heap[b]? = w.heap[b]? := by
  show ((w.setCell ⟨q, o, none⟩ x).setCell ⟨q, o + 1, none⟩ y).heap[b]? = _
  rw [blk_other _ _ _ _ hb, blk_other _ _ _ _ hb]
theorem setCells2_size (w : World) (q o : Nat) (x y : Value) : (w.setCells q o [x, y]).heap.size = w.heap.size := by
  show ((w.setCell ⟨q, o, none⟩ x).setCell ⟨q, o + 1, none⟩ y).heap.size = _
  simp
theorem MadeS.push {w : World} {g q N S k : Nat} {G : Nat → Nat} (h : MadeS w g q N S k G (fun _ _ => 0)) (hk : k < N) :
    MadeS ((w.alloc (.cells (madeCells #[.int .i64 0] S) 3)).setCells q (k * 2) [.int .i64 ((k + 1 : Nat) : Int), .slice (some ⟨w.heap.size, 0, none⟩) S S]) g q N S (k + 1) (fun j => if j = k then w.heap.size else G j) (fun _ _ => 0) := by
  have h1 := h.grow (w' := w.alloc (.cells (madeCells #[.int .i64 0] S) 3)) ((Below.refl _ _).alloc (Nat.le_refl _) _)
  have hv0 := World.rowIs_made w (.int .i64 0) S 3
  have hlt := h.lt
  refine ⟨?_, fun j hj => ?_, fun i j hij hj => ?_, fun j hj => ?_, h.qlo, ?_⟩
  · refine rowS_congr (h1.row.store hk (((k + 1 : Nat) : Int), .slice (some ⟨w.heap.size, 0, none⟩) S S)) fun i hi => ?_
    by_cases e : i = k
    · subst e; simp
    · by_cases e2 : i < k
      · simp [e, e2, show i < k + 1 by omega]
      · simp [e, e2, show ¬ i < k + 1 by omega]
  · by_cases e : j = k
    · subst e
      simp only [if_true]
      exact hv0.of_block (setCells2_other _ _ _ _ _ (by omega))
    · simp only [if_neg e]
      have := h.lo j (by omega)
      exact (h1.val j (by omega)).of_block (setCells2_other _ _ _ _ _ (by omega))
  · by_cases e : j = k
    · subst e
      have h3 : i ≠ j := by omega
      simp only [if_neg h3, if_true]
      exact (h.val i hij).lt
    · have h3 : i ≠ k := by omega
      simp only [if_neg h3, if_neg e]
      exact h.up i j hij (by omega)
  · by_cases e : j = k
    · subst e; simp only [if_true]; exact h.lt
    · simp only [if_neg e]; exact h.lo j (by omega)
  · rw [setCells2_size]; simp; omega
theorem MadeS.inj {w : World} {g q N S k : Nat} {G : Nat → Nat} {f : Nat → Nat → Int} (h : MadeS w g q N S k G f) {i j : Nat} (hi : i < k) (hj : j < k) (hne : i ≠ j) : G i ≠ G j := by
  rcases Nat.lt_or_gt_of_ne hne with h1 | h1
  · have := h.up i j h1 hj; omega
  · have := h.up j i h1 hi; omega
theorem MadeS.set {w : World} {g q N S k : Nat} {G : Nat → Nat} {f : Nat → Nat → Int} (h : MadeS w g q N S k G f) {j i : Nat} (hj : j < k) (v : Int) : MadeS (w.setCell ⟨G j, i, none⟩ (.int .i64 v)) g q N S k G (fun j' i' => if j' = j ∧ i' = i then v else f j' i') := by
  have hq := h.lo j hj
  refine ⟨h.row.of_block (blk_other _ _ _ _ (by omega)), fun j' hj' => ?_, h.up, h.lo, h.qlo, by simpa using h.lt⟩
  by_cases e : j' = j
  · subst e
    refine ((h.val j' hj').set i (.int .i64 v)).congr fun i' hi' => ?_
    by_cases e2 : i' = i
    · subst e2; simp
    · simp [e2]
  · refine ((h.val j' hj').of_block (blk_other _ _ _ _ (h.inj hj' hj e))).congr fun i' hi' => ?_
    simp [e]
theorem MadeS.shares {w : World} {g q N S : Nat} {G : Nat → Nat} {f : Nat → Nat → Int} (h : MadeS w g q N S N G f) {L : List Shr} (hl : L.length = N) (hN : N ≤ 1000) (hS : S ≤ 1000000)
    (he : ∀ j, j < N → L.getD j (0, []) = (((j + 1 : Nat) : Int), (List.range S).map (f j))) : SharesN w g (.slice (some ⟨q, 0, none⟩) N N) L := by
  subst hl
  refine ⟨_, _, rfl, hN, Nat.le_refl _, by omega, fun _ => ⟨q, 0, rfl, h.qlo, fun i hi => ?_⟩⟩
  obtain ⟨c0, c1, _, _⟩ := h.row i hi
  simp only [if_pos hi] at c0 c1
  rw [he i hi, Nat.zero_add]
  have hq := h.lo i hi
  have hg := h.qlo
  refine ⟨_, c0, c1, ?_, fun b hb => by simp [Value.ownBlock] at hb; omega⟩
  exact (row_gath (base := g) (f := f i) (h.val i hi) (by omega) (by unfold maxLen; omega)).reads (by simp; omega)
/-- What has been stored behind m elements and t shares of the next one. -/
def ffv (p : Int) (K : Nat) (s r : List Int) (m t j i : Nat) : Int := if i < m ∨ (i = m ∧ j < t) then E (polyL K s r i) ((j + 1 : Nat) : Int) % p else 0
theorem ffv_zero (p : Int) (K : Nat) (s r : List Int) (j i : Nat) : ffv p K s r 0 0 j i = 0 := by unfold ffv; rw [if_neg (by omega)]
theorem ffv_next (p : Int) (K : Nat) (s r : List Int) {N m j i : Nat} (hj : j < N) : ffv p K s r m N j i = ffv p K s r (m + 1) 0 j i := by
  unfold ffv
  by_cases h : i < m ∨ (i = m ∧ j < N)
  · rw [if_pos h, if_pos (by omega)]
  · rw [if_neg h, if_neg (by omega)]
theorem ffv_step {p : Int} {K : Nat} {s r : List Int} {m t : Nat} {v : Int} (hv : E (polyL K s r m) ((t + 1 : Nat) : Int) % p = v) (j i : Nat) : (if j = t ∧ i = m then v else ffv p K s r m t j i) = ffv p K s r m (t + 1) j i := by
  subst hv
  unfold ffv
  by_cases h : j = t ∧ i = m
  · obtain ⟨rfl, rfl⟩ := h
    rw [if_pos ⟨rfl, rfl⟩, if_pos (by omega)]
  · rw [if_neg h]
    by_cases h2 : i < m ∨ (i = m ∧ j < t)
    · rw [if_pos h2, if_pos (by omega)]
    · rw [if_neg h2, if_neg (by omega)]
theorem ffv_all {p : Int} {K : Nat} {s r : List Int} {S j i : Nat} (hi : i < S) : ffv p K s r S 0 j i = E (polyL K s r i) ((j + 1 : Nat) : Int) % p := by unfold ffv; rw [if_pos (by omega)]
theorem dealF_get {p : Int} {K N : Nat} {s r : List Int} {j : Nat} (hj : j < N) : (dealF p K N s r).getD j (0, []) = (((j + 1 : Nat) : Int), dealV p K s r ((j + 1 : Nat) : Int)) := by simp [dealF, List.getD, hj]
theorem run_make_share (N : Nat) (hN : N ≤ 1000) (w : World) : (Instr.makeSlice 23 (.int .i64 (N : Int)) (.int .i64 (N : Int))).run Tryd.prog w = .ok (.slice (some ⟨w.heap.size, 0, none⟩) N N) (w.alloc (.cells (madeCells #[.int .i64 0, .slice none 0 0] (N * 2)) 38)) := by
  obtain ⟨i0, hi, hz0, hz1, hz2⟩ := info_parts infoShare
  have h := run_make (P := Tryd.prog) w 23 38 i0 (.agg #[.int .i64 0, .slice none 0 0]) Tryd.underlying23 hi hz0 .i64 .i64 (N : Int) (N : Int) (by omega) (Int.le_refl _) (by rw [hz2]; push_cast; omega) (by omega)
  rw [hz1, Int.toNat_natCast] at h
  exact h
theorem polyL_len_eq {K S m : Nat} {s r : List Int} (hr : r.length = S * K) (hm : m < S) : (polyL K s r m).length = K + 1 := by
  unfold polyL
  have : (m + 1) * K ≤ S * K := Nat.mul_le_mul_right K hm
  rw [Nat.add_mul, Nat.one_mul] at this
  rw [List.length_cons, List.length_take, List.length_drop, hr]
  omega
/-- The first coefficients, as a slice of the array. -/
theorem hid_ints {w : World} {gb K1 : Nat} {l : List Int} {C : Array Value} {t : TypeId} (hb : w.heap[gb]? = some (.cells C t (0, 0))) (hC : (hidA l).toArray = C) (hl : l.length = K1) (hK : K1 ≤ 16) : Ints w (.slice (some ⟨gb, 0, none⟩) K1 16) l := by
  subst hl
  refine ⟨_, _, rfl, by omega, fun _ => ⟨gb, 0, rfl, fun i hi => ?_⟩⟩
  rw [Nat.zero_add]
  simp only [World.cell?, hb]
  rw [← hC]
  simp [hidA, show i < 16 by omega]
end Go.Proofs.YtomnncainedjdaaDoor
/-! Shares dealt: the program's Deal. -/
namespace Go.Proofs.YtomnncainedjdaaDoor
open Go.RowKit Go.Sort
open Num
set_option linter.unusedVariables false

set_option maxRecDepth 100000 in
set_option maxHeartbeats 8000000 in
theorem share_deal_ok (p : Int) (K K1 N : Nat) (vs vr : Value) (s r : List Int) (w : World) (hw : Wheel w) (hp : (Lit.int .i64 p).wf = true) (hk : K + 1 = K1) (hpl : planB p (K1 : Int) (N : Int) = true) (hs : Ints w vs s) (hr : Slc w vr r) (hsl : s.length ≤ 2048) (hrb : r.length ≤ 1000000)
    (hrl : r.length = s.length * K) (hes : Els p s) (her : Els p r) (hE : dealE p (K1 : Int) (N : Int) s r = 0) :
    Calls Tryd.prog 37 #[planV p (K1 : Int) (N : Int), vs, vr] w fun e w' => ∃ v, e = .returned (.tuple #[v, .int .i64 0]) ∧ SharesN w' w.heap.size v (dealF p K N s r) ∧ Below w.heap.size w w' := by
  unfold planV
  obtain ⟨hprm, hp2, hk1, hkn, hn16, hnp⟩ := planB_parts hpl
  have hK15 : K ≤ 15 := by omega
  have hN16 : N ≤ 16 := by omega
  have hp1 : 1 ≤ p := by have := hprm.1; omega
  obtain ⟨g, hg⟩ : ∃ g, w.heap.size = g := ⟨_, rfl⟩
  obtain ⟨w1, hw1⟩ : ∃ w1, w.alloc (Obj.cells #[Value.int IntKind.i64 p, Value.int IntKind.i64 (K1 : Int), Value.int IntKind.i64 (N : Int)] 30) = w1 := ⟨_, rfl⟩
  have hb1 : Below g w w1 := by rw [← hw1, ← hg]; exact (Below.refl _ _).alloc (Nat.le_refl _) _
  have hpa1 : PlanAt w1 g p (K1 : Int) (N : Int) := by rw [← hw1, ← hg]; exact planAt_new _ _ _ _ _
  have hs1 : w1.heap.size = g + 1 := by rw [← hw1, ← hg]; simp
  have HCD := Lib.hid (checkDeal_i p (K1 : Int) (N : Int) vs vr s r w1 (hw.below (by rw [← hg]; exact hw.size) hb1) hp (hs.below (Nat.le_of_eq hg) hb1) (hr.below (Nat.le_of_eq hg) hb1) hsl hrb)
  rw [hE] at HCD
  unfold planV at HCD
  have HSI := Lib.hid (fun W (hb : Below g w W) => hs.below (Nat.le_of_eq hg) hb)
  have HRI := Lib.hid (fun W (hb : Below g w W) => hr.below (Nat.le_of_eq hg) hb)
  obtain ⟨sa, sc, rfl⟩ := hs.shape
  clear hs
  obtain ⟨ra, rc, rfl, _, _, _⟩ := hr
  obtain ⟨S, hS⟩ : ∃ S, s.length = S := ⟨_, rfl⟩
  have HHI := Lib.hid (fun (m : Nat) (hm : m < S) W (hb : Below g w W) => hiding_any p (N : Int) K K1 m (.slice sa s.length sc) (.slice ra r.length rc) s r W hk hK15 (HSI.out W hb) (HRI.out W hb) (by rw [hS]; exact hm) hsl hrl)
  unfold planV at HHI
  have HSL : Hid ((dealF p K N s r).length = N) := dealF_len _ _ _ _ _
  have HDV : Hid (∀ f : Nat → Nat → Int, (∀ j i, j < N → i < S → f j i = E (polyL K s r i) ((j + 1 : Nat) : Int) % p) → ∀ j, j < N → (dealF p K N s r).getD j (0, []) = (((j + 1 : Nat) : Int), (List.range S).map (f j))) := fun f h j hj => by
    rw [dealF_get hj]
    unfold dealV
    rw [hS]
    congr 1
    refine List.map_congr_left fun i hi => ?_
    exact (h j i hj (List.mem_range.1 hi)).symm
  have HPE := Lib.hid (fun m => polyL_els (m := m) hp1 hes her K)
  have HPLN : Hid (∀ m, m < S → (polyL K s r m).length = K1) := fun m hm => by rw [polyL_len_eq hrl (by rw [hS]; exact hm)]; exact hk
  rw [hS] at HCD HHI hsl ⊢
  generalize r.length = R at *
  have HB1 := Lib.hid hb1
  have HP1 := Lib.hid hpa1
  have HZ1 := Lib.hid hs1
  have HNP := Lib.hid hnp
  have HKK := Lib.hid hk
  have d0' := hpa1.c0
  have d1' := hpa1.c1
  have d2' := hpa1.c2
  have hmkS := run_make_share N (by omega)
  have hmk := run_make_row' (P := Tryd.prog) 22 3 (.int .i64 0) 8 Tryd.underlying22 infoInt rfl .i64 .i64 S (by omega) (by omega)
  have hsa0 := fun gb => slice_arr0 gb K1 (by omega)
  rw [hg]
  clear hw hp hk hpl hS hrl hes her hE hb1 hpa1 hs1 hprm hk1 hkn hn16 hnp hrb HSI HRI
  go_enter Tryd.func37, Tryd.ntmps37
  go_wp2_with fail
  refine HCD.out.mono ?_
  rintro e w2 ⟨rfl, hb2⟩
  have HB2 : Hid (Below g w w2) := HB1.out.trans (hb2.mono (by have := HZ1.out; omega))
  have HP2 := Lib.hid (HP1.out.below HP1.out.lt hb2)
  have c0 := HP2.out.c0
  have c1 := HP2.out.c1
  have c2 := HP2.out.c2
  obtain ⟨q, hq⟩ : ∃ q, w2.heap.size = q := ⟨_, rfl⟩
  have HMS : Hid (MadeS (w2.alloc (.cells (madeCells #[.int .i64 0, .slice none 0 0] (N * 2)) 38)) g q N S 0 (fun _ => 0) (fun _ _ => 0)) := by
    have h := made_start w2 g N S (fun _ => 0) (fun _ _ => 0) 38 (by have := HP2.out.lt; omega)
    rw [hq] at h
    exact h
  have HBS : Hid (Below q w2 (w2.alloc (.cells (madeCells #[.int .i64 0, .slice none 0 0] (N * 2)) 38))) := by rw [← hq]; exact (Below.refl _ _).alloc (Nat.le_refl _) _
  have HGQ : Hid (g < q) := by rw [← hq]; exact HP2.out.lt
  have HQ := Lib.hid hq
  clear HCD hb2 d0' d1' d2' hw1 HP1 HB1 HZ1
  go_wp2_with fail
  clear hmkS hq c0 c1 c2
  generalize w2.alloc (.cells (madeCells #[.int .i64 0, .slice none 0 0] (N * 2)) 38) = w3 at *
  go_loopw [10, 27] (fun _ i wr => ∃ (k : Nat) (G : Nat → Nat), k ≤ N ∧ i = .int .i64 k ∧ Hid (MadeS wr g q N S k G (fun _ _ => 0)) ∧ Hid (Below q w2 wr)) (fun _ i _ => N - (intOf i).toNat)
  case atStart => exact ⟨0, _, Nat.zero_le _, rfl, HMS, HBS⟩
  case round =>
    obtain ⟨k, G, hkN, rfl, HM, HB⟩ := hrel
    by_cases hlt : k < N
    · obtain ⟨J, hJ⟩ : ∃ J, k + 1 = J := ⟨_, rfl⟩
      have hw1 : IntKind.i64.wrap ((k : Int) + 1) = (J : Int) := by rw [IntKind.wrap_i64]; omega
      have hal : Below wr.heap.size wr (wr.alloc (.cells (madeCells #[.int .i64 0] S) 3)) := (Below.refl _ _).alloc (Nat.le_refl _) _
      have hma := HM.out.grow hal
      obtain ⟨k0, k1, f0, f1⟩ := hma.row k hlt
      simp only [Nat.lt_irrefl, if_false] at k0 k1
      have e1 : ((wr.alloc (.cells (madeCells #[.int .i64 0] S) 3)).setCell ⟨q, k * 2, none⟩ (.int .i64 (J : Int))).cell? ⟨q, k * 2 + 1, none⟩ = some (.slice none 0 0) := by
        rw [World.cell?_setCell_other _ _ _ _ (by simp)]; exact k1
      have hmn := HM.out.push hlt
      rw [hJ] at hmn
      have HMN := Lib.hid hmn
      have HBN : Hid (Below q w2 (((wr.alloc (.cells (madeCells #[.int .i64 0] S) 3)).setCell ⟨q, k * 2, none⟩ (.int .i64 (J : Int))).setCell ⟨q, k * 2 + 1, none⟩ (.slice (some ⟨wr.heap.size, 0, none⟩) S S))) := ((HB.out.alloc (Nat.le_of_lt HM.out.lt) _).trans (set1_below _ _ _ (Nat.le_refl _))).trans (set1_below _ _ _ (Nat.le_refl _))
      have HJJ := Lib.hid hJ
      clear hal hma hmn hJ
      go_wp2_with fail
      exact ⟨⟨J, _, by have := HJJ.out; omega, rfl, HMN, HBN⟩, by simp [intOf]; have := HJJ.out; omega⟩
    · obtain rfl : k = N := by omega
      have HM0 : Hid (MadeS wr g q k S k G (ffv p K s r 0 0)) := HM.out.congr fun j i _ _ => (ffv_zero p K s r j i).symm
      clear HM HMS HBS
      go_wp2_with fail
      clear hmk hlt
      go_loopw [11, 12, 14, 42] (fun _ _ _ i wq => ∃ m : Nat, m ≤ S ∧ i = .int .i64 m ∧ Hid (MadeS wq g q k S k G (ffv p K s r m 0)) ∧ Hid (Below q w2 wq)) (fun _ _ _ i _ => S - (intOf i).toNat)
      case atStart => exact ⟨0, Nat.zero_le _, rfl, HM0, HB⟩
      case round =>
        obtain ⟨m, hm, rfl, HM, HBq⟩ := hrel
        by_cases hlt : m < S
        · obtain ⟨wo, hwo⟩ : ∃ wo, wo = wr := ⟨_, rfl⟩
          subst hwo
          have HBW : Hid (Below g w wo) := HB2.out.trans (HBq.out.mono (Nat.le_of_lt HGQ.out))
          have hpo := HP2.out.below HGQ.out HBq.out
          have c0 := hpo.c0
          have c1 := hpo.c1
          have c2 := hpo.c2
          have HPO := Lib.hid hpo
          obtain ⟨C, hC⟩ : ∃ C, (hidA (polyL K s r m)).toArray = C := ⟨_, rfl⟩
          have hCs : C.size = 16 := by rw [← hC]; simp [hidA]
          have hCa : C.all (·.oneCell') = true := by rw [← hC]; exact hidA_all _
          have HHC := Lib.hid (HHI.out m hlt wo HBW.out)
          rw [hC] at HHC
          have HCC := Lib.hid hC
          clear hpo hC
          go_wp2_with fail
          refine HHC.out.mono ?_
          rintro e w4 ⟨rfl, hb4⟩
          have HM4 := Lib.hid (HM.out.grow hb4)
          have HB4 : Hid (Below q w2 w4) := HBq.out.trans (hb4.mono (Nat.le_of_lt HM.out.lt))
          obtain ⟨gb, hgb⟩ : ∃ gb, w4.heap.size = gb := ⟨_, rfl⟩
          have hb5 : Below w4.heap.size w4 (w4.alloc (.cells C 84)) := (Below.refl _ _).alloc (Nat.le_refl _) _
          have HM5 := Lib.hid (HM4.out.grow hb5)
          have HB5 : Hid (Below q w2 (w4.alloc (.cells C 84))) := HB4.out.trans (hb5.mono (Nat.le_of_lt HM4.out.lt))
          have HC5 : Hid ((w4.alloc (.cells C 84)).heap[gb]? = some (.cells C 84 (0, 0))) := by rw [← hgb]; exact heap_alloc_new w4 _
          have HGB : Hid (∀ j, j < k → G j < gb) := fun j hj => by rw [← hgb]; exact (HM4.out.val j hj).lt
          have HGE := Lib.hid hgb
          clear hb4 hb5 c0 c1 c2 HHC HM HBq HBW HPO hgb
          go_wp2_with (refine wpList_store_row rfl 84 (.tmp 12) (.tmp 49) rfl w4.heap.size C rfl rfl 84 zeros16 (heap_alloc_new _ _) (by rw [hCs]; exact infoArr) (by rw [hCs]; rfl) hCa ?_)
          rw [World.setRow_alloc_new, HGE.out]
          generalize w4.alloc (.cells C 84) = w5 at *
          have HPI : Hid (El p 0) := ⟨by omega, by omega⟩
          obtain ⟨PL, hPL⟩ : ∃ PL, polyL K s r m = PL := ⟨_, rfl⟩
          have HCC2 : Hid ((hidA PL).toArray = C) := by rw [← hPL]; exact HCC.out
          have HPLL : Hid (PL.length = K1) := by rw [← hPL]; exact HPLN.out m hlt
          have HPEL : Hid (Els p PL) := by rw [← hPL]; exact HPE.out m
          have HPLQ := Lib.hid hPL
          clear hPL HCC
          go_loopw [14, 52] (fun _ i wz => ∃ t : Nat, t ≤ k ∧ i = .int .i64 t ∧ Hid (MadeS wz g q k S k G (ffv p K s r m t)) ∧ Hid (Below q w2 wz) ∧ Hid (wz.heap[gb]? = some (.cells C 84 (0, 0)))) (fun _ i _ => k - (intOf i).toNat)
          case atStart => exact ⟨0, Nat.zero_le _, rfl, HM5, HB5, HC5⟩
          case round =>
            obtain ⟨t, ht, rfl, HM, HBz, HCz⟩ := hrel
            by_cases hlt2 : t < k
            · obtain ⟨k0, k1, _, _⟩ := HM.out.row t hlt2
              simp only [if_pos hlt2] at k0 k1
              obtain ⟨J, hJ⟩ : ∃ J, t + 1 = J := ⟨_, rfl⟩
              rw [hJ] at k0
              obtain ⟨gs, hgs⟩ : ∃ gs, wr.heap.size = gs := ⟨_, rfl⟩
              have hal : Below wr.heap.size wr (wr.alloc (.cells #[.int .i64 (J : Int), .slice (some ⟨G t, 0, none⟩) S S] 38)) := (Below.refl _ _).alloc (Nat.le_refl _) _
              have hsa := shAt_new wr (J : Int) (.slice (some ⟨G t, 0, none⟩) S S) 38
              rw [hgs] at hsa
              have HSA := Lib.hid hsa
              have HMA := Lib.hid (HM.out.grow hal)
              have HBA : Hid (Below q w2 (wr.alloc (.cells #[.int .i64 (J : Int), .slice (some ⟨G t, 0, none⟩) S S] 38))) := HBz.out.trans (hal.mono (Nat.le_of_lt HM.out.lt))
              have hgbl : gb < wr.heap.size := (Array.getElem?_eq_some_iff.1 HCz.out).1
              have HCA : Hid ((wr.alloc (.cells #[.int .i64 (J : Int), .slice (some ⟨G t, 0, none⟩) S S] 38)).heap[gb]? = some (.cells C 84 (0, 0))) := by show _ = _; rw [hal.block _ hgbl]; exact HCz.out
              have HGBL := Lib.hid hgbl
              have HGS := Lib.hid hgs
              have HJJ := Lib.hid hJ
              have HZA : Hid ((wr.alloc (.cells #[.int .i64 (J : Int), .slice (some ⟨G t, 0, none⟩) S S] 38)).heap.size = gs + 1) := by show _ = _; rw [← hgs]; simp
              clear hal hsa hgbl hJ
              go_wp2_with fail
              clear hgs k0 k1
              generalize wr.alloc (.cells #[.int .i64 (J : Int), .slice (some ⟨G t, 0, none⟩) S S] 38) = w6 at *
              have hpo := HP2.out.below HGQ.out HBA.out
              have c0 := hpo.c0
              have c1 := hpo.c1
              have s0 := HSA.out.c0
              have s1 := HSA.out.c1
              have HPO := Lib.hid hpo
              have HEV := Lib.hid (eval_any (p := p) (x := (J : Int)) (s := .slice (some ⟨gb, 0, none⟩) K1 16) (zs := PL) w6.drew hp1 hp2 (by have := HNP.out; have := HJJ.out; exact ⟨by omega, by omega⟩) HPEL.out (hid_ints (w := w6.drew) HCA.out HCC2.out HPLL.out (by have := HKK.out; omega)))
              obtain ⟨y, hy⟩ : ∃ y, E PL (J : Int) % p = y := ⟨_, rfl⟩
              rw [hy] at HEV
              have HYY : Hid (E (polyL K s r m) ((t + 1 : Nat) : Int) % p = y) := by rw [HPLQ.out, HJJ.out]; exact hy
              have HKD : Hid (∀ W, Below w6.drew.heap.size w6.drew W → W.cell? ⟨g, 0, none⟩ = some (.int .i64 p) ∧ W.cell? ⟨g, 1, none⟩ = some (.int .i64 (K1 : Int)) ∧ W.cell? ⟨gs, 0, none⟩ = some (.int .i64 (J : Int)) ∧ W.cell? ⟨gs, 1, none⟩ = some (.slice (some ⟨G t, 0, none⟩) S S)) := fun W hb => by
                have hb' : Below w6.heap.size w6 W := ((Below.refl _ _).drew).trans hb
                have h1 := HPO.out.below HPO.out.lt hb'
                have h2 := HSA.out.below hb' HSA.out.lt
                exact ⟨h1.c0, h1.c1, h2.c0, h2.c1⟩
              have HKE : Hid (∀ W v, Below w6.drew.heap.size w6.drew W → (W.setCell ⟨G t, m, none⟩ v).cell? ⟨g, 0, none⟩ = some (.int .i64 p) ∧ (W.setCell ⟨G t, m, none⟩ v).cell? ⟨g, 1, none⟩ = some (.int .i64 (K1 : Int)) ∧ (W.setCell ⟨G t, m, none⟩ v).cell? ⟨gs, 0, none⟩ = some (.int .i64 (J : Int)) ∧ (W.setCell ⟨G t, m, none⟩ v).cell? ⟨gs, 1, none⟩ = some (.slice (some ⟨G t, 0, none⟩) S S)) := fun W v hb => by
                have h1 := HMA.out.lo t hlt2
                have h2 := HGB.out t hlt2
                have h3 := HGBL.out
                have h4 := HGS.out
                have h5 := HGQ.out
                obtain ⟨e1, e2, e3, e4⟩ := HKD.out W hb
                refine ⟨?_, ?_, ?_, ?_⟩
                · rw [World.cell?_setCell_other _ _ _ _ (by intro e; simp only [Addr.mk.injEq] at e; omega)]; exact e1
                · rw [World.cell?_setCell_other _ _ _ _ (by intro e; simp only [Addr.mk.injEq] at e; omega)]; exact e2
                · rw [World.cell?_setCell_other _ _ _ _ (by intro e; simp only [Addr.mk.injEq] at e; omega)]; exact e3
                · rw [World.cell?_setCell_other _ _ _ _ (by intro e; simp only [Addr.mk.injEq] at e; omega)]; exact e4
              have HMW : Hid (∀ W, Below w6.drew.heap.size w6.drew W → MadeS W g q k S k G (ffv p K s r m t)) := fun W hb => HMA.out.grow (((Below.refl _ _).drew).trans hb)
              have HBW : Hid (∀ W, Below w6.drew.heap.size w6.drew W → Below q w2 W) := fun W hb => HBA.out.trans ((((Below.refl _ _).drew).trans hb).mono (Nat.le_of_lt HMA.out.lt))
              have HCW : Hid (∀ W, Below w6.drew.heap.size w6.drew W → W.heap[gb]? = some (.cells C 84 (0, 0))) := fun W hb => by
                rw [(((Below.refl w6.heap.size w6).drew).trans hb).block gb (Array.getElem?_eq_some_iff.1 HCA.out).1]; exact HCA.out
              clear hpo hy
              go_region_held3 (fun W' => W'.cell? ⟨g, 0, none⟩ = some (.int .i64 p) ∧ W'.cell? ⟨g, 1, none⟩ = some (.int .i64 (K1 : Int)) ∧ W'.cell? ⟨gs, 0, none⟩ = some (.int .i64 (J : Int)) ∧ W'.cell? ⟨gs, 1, none⟩ = some (.slice (some ⟨G t, 0, none⟩) S S)) (first | go_keep | exact HSK | exact HSK2)
                (first | (go_at_call 57; refine HEV.out.mono ?_; rintro e W7 ⟨rfl, hb⟩; have HSK := HKD.out W7 hb; have HSK2 := HKE.out W7 (.int .i64 y) hb; have hMW := HMW.out W7 hb; have x0 := (hMW.val t hlt2).cell hlt; have x1 := (hMW.val t hlt2).frozen m; have HM7 := Lib.hid hMW; have HB7 := Lib.hid (HBW.out W7 hb); have HC7 := Lib.hid (HCW.out W7 hb); clear hb hMW))
              all_goals
                have HM8 : Hid (MadeS (W7.setCell ⟨G t, m, none⟩ (.int .i64 y)) g q k S k G (ffv p K s r m (t + 1))) := (HM7.out.set hlt2 y).congr fun j i _ _ => ffv_step HYY.out j i
                have HB8 : Hid (Below q w2 (W7.setCell ⟨G t, m, none⟩ (.int .i64 y))) := HB7.out.trans (set1_below _ _ _ (Nat.le_of_lt (HM7.out.lo t hlt2)))
                have HC8 : Hid ((W7.setCell ⟨G t, m, none⟩ (.int .i64 y)).heap[gb]? = some (.cells C 84 (0, 0))) := by show _ = _; rw [blk_other _ _ _ _ (by have := HGB.out t hlt2; omega)]; exact HC7.out
                go_wp2_with fail
                go_roundw
                case rel => exact ⟨t + 1, by omega, by go_num, HM8, HB8, HC8⟩
                case measure => simp [intOf]; omega
            · obtain rfl : t = k := by omega
              have HMN : Hid (MadeS wr g q t S t G (ffv p K s r (m + 1) 0)) := HM.out.congr fun j i hj _ => ffv_next p K s r hj
              go_wp2_with fail
              go_roundw
              case rel => exact ⟨m + 1, by omega, by go_num, HMN, HBz⟩
              case measure => simp [intOf]; omega
        · obtain rfl : m = S := by omega
          have HFN : Hid (SharesN wr g (.slice (some ⟨q, 0, none⟩) k k) (dealF p K k s r)) := HM.out.shares HSL.out (by omega) (by omega) (HDV.out _ fun j i _ hi => ffv_all hi)
          have HBF : Hid (Below g w wr) := HB2.out.trans (HBq.out.mono (Nat.le_of_lt HGQ.out))
          go_wp2
          go_ret2
          exact ⟨_, rfl, HFN.out, HBF.out⟩
end Go.Proofs.YtomnncainedjdaaDoor
