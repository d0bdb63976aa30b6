
/- The walk of PolyWeights. -/
import Derived.Test.YtpohhgbmdgjipaaDraw
namespace Go.Proofs.Ytpohhgbmdgjipaa
open Go.RowKit
open Num
set_option linter.unusedVariables false

theorem slice_of {s : Value} {l : List Int} {w : World} (h : Ints w s l) : ∃ a n c, s = .slice a n c := by obtain ⟨x, y, h, _⟩ := h; exact ⟨x, _, y, h⟩
theorem plc_nodup {xs : List Int} (h0 : 0 < xs.length) (h : xs.Nodup) : plc xs = 0 := plc_ok (fun e => by subst e; simp at h0) (dup_of_nodup h)
theorem one_mod {p : Int} (hp : 2 ≤ p) : (1 : Int) % p = 1 := Int.emod_eq_of_lt (by omega) (by omega)
theorem wt_own {p : Int} (hp : PrmI p) {xs : List Int} (hn : xs.Nodup) (he : Els p xs) {i : Nat} (h : i < xs.length) : wt p xs (xs.getD i 0) i = 1 :=
  (wt_one hp hn he h).el (wt_el (by have := hp.1; omega) _ _ _) ⟨by omega, by have := hp.1; omega⟩
theorem wt_other {p : Int} (hp : 1 ≤ p) {xs : List Int} {i j : Nat} (hj : j < xs.length) (h : j ≠ i) : wt p xs (xs.getD j 0) i = 0 :=
  (wt_zero hj h).el (wt_el hp _ _ _) (el_zero hp)

/-- A long list: only the sanity check. -/
theorem long_len {l : List Int} (h : ¬ (l.length : Int) ≤ 500) : decide ((l.length : Int) ≤ 500) = false := by simpa using h

set_option maxRecDepth 100000 in
set_option maxHeartbeats 4000000 in
theorem polyWeights_walk (s : Value) (l : List Int) (which : Int) (w : World) (hs : Ints w s l) (wh : (Lit.int .i64 which).wf = true) :
    Calls Try.prog 6 #[s, .int .i64 which] w fun e w' => e = .returned (.bool true) ∧ Below w.heap.size w w' := by
  by_cases hl : (l.length : Int) ≤ 500
  · have hl' : decide ((l.length : Int) ≤ 500) = true := by simpa using hl
    clear hl
    go_enter Try.func6, Try.ntmps6
    go_wp2_with (first
      | (go_at_call 8; refine (light_any _ _ _ hs).mono ?_; rintro e w' ⟨rfl, rfl⟩)
      | (go_at_call 10; refine (roll_any _ _ (slice_of hs)).mono ?_; rintro e w' ⟨rfl, rfl⟩))
    refine (prime_any _ s l _ (dice_new hs)).mono ?_
    rintro e w1 ⟨p, hprm, hp2, rfl, hd1, hbut⟩
    have hb1 := But.trans (But.alloc w.heap.size w _) hbut
    have hp0 : 2 ≤ p := hprm.1
    have hp1 : 1 ≤ p := by omega
    have hp3 : p ≤ 1073741824 := by omega
    have HPR := Lib.hid hprm
    clear hbut hs hprm
    go_wp2_with fail
    refine (points_any _ s l p 7 _ hd1 hp0 hp3 (by omega)).mono ?_
    rintro e w2 ⟨vx, vy, xs, ys, rfl, hxl, hnd, hex, hyl, hey, hgx, hgy, hd2, hb2⟩
    have hB2 := hb1.trans hb2
    have hIx := hgx.reads (by omega)
    have hnb := hgx.block
    have HND := Lib.hid hnd
    have HEX := Lib.hid hex
    obtain ⟨ax, cx, rfl, _, _⟩ := id hIx
    obtain ⟨m, hm⟩ : ∃ m, xs.length = m := ⟨_, rfl⟩
    have HM := Lib.hid hm
    rw [hm] at hIx hxl hnb ⊢
    have hsz2 := hd2.size
    have hs1 := hd1.size
    clear hgx hgy hyl hey hb1 hb2 hd1 hnd hex hm
    by_cases h0 : 0 < m
    · have hm0 : ((m : Int) == 0) = false := by simp; omega
      have hk0 : 0 ≤ which % (m : Int) := Int.emod_nonneg _ (by omega)
      have hk1 : which % (m : Int) < (m : Int) := Int.emod_lt_of_pos _ (by omega)
      obtain ⟨k, hk⟩ := Int.eq_ofNat_of_zero_le hk0
      have hkm : k < m := by omega
      have HK := Lib.hid hk
      have hplc := plc_nodup (by rw [HM.out]; exact h0) HND.out
      have HPL := Lib.hid hplc
      clear hk hk0 hk1 hplc
      go_wp2_with fail
      refine (mod_any which (m : Int) _ (by omega) (by omega)).mono ?_; rintro e w' ⟨rfl, rfl⟩
      rw [HK.out]
      obtain ⟨b0, off, rfl, hcx⟩ := ints_at hIx HM.out.symm (k := k) hkm
      have ek := els_at hp1 HEX.out k
      obtain ⟨xk, hxk⟩ : ∃ x, xs.getD k 0 = x := ⟨_, rfl⟩
      rw [hxk] at hcx ek
      have HXK := Lib.hid hxk
      clear hxk
      go_wp2_with fail
      refine (weights_ok _ HPR.out hp3 ek HEX.out hIx HPL.out (by rw [HM.out]; omega)).mono ?_
      rintro e w3 ⟨v1, rfl, hw1, hf1, hb3⟩
      have hIx3 := hIx.below (Nat.le_refl _) hb3
      have hd3 := hd2.below hb3 hsz2
      have hB3 := hB2.trans (But.of_below hb3 (Nat.le_refl _))
      clear hcx hb3 hIx hB2 hd2
      go_wp2_with fail
      refine (next_any _ s l p _ hd3 (by omega) (by omega)).mono ?_
      rintro e w4 ⟨y, y0, y1, rfl, hd4, hb4⟩
      have hIx4 := hIx3.but hb4 (fun g hg => by have := hnb g hg; omega)
      have hB4 := hB3.trans hb4
      have ey : El p y := ⟨y0, y1⟩
      have hs4 := hb4.size
      have hw14 := hw1.but hb4 (fun g hg => by have := hf1 g hg; omega)
      clear hw1 hb4 hIx3 hB3 hd3 hf1 hnb
      go_wp2_with fail
      refine (weights_ok _ HPR.out hp3 ey HEX.out hIx4 HPL.out (by rw [HM.out]; omega)).mono ?_
      rintro e w5 ⟨v2, rfl, hw2, _, hb5⟩
      have hw15 := hw14.below (Nat.le_refl _) hb5
      have HB5 := Lib.hid ((hB4.below (Nat.le_refl _) (Nat.le_refl _)).trans (hb5.mono (by have := hB4.size; omega)))
      have HW1 := Lib.hid hw15
      have HW2 := Lib.hid hw2
      obtain ⟨a1, c1, rfl, _, _⟩ := hw15
      obtain ⟨a2, c2, rfl, _, _⟩ := hw2
      have hl1 : (wts p xs xk).length = m := by rw [wts_len, HM.out]
      have hl2 : (wts p xs y).length = m := by rw [wts_len, HM.out]
      rw [hl1] at HW1 ⊢
      rw [hl2] at HW2 ⊢
      have hone := one_mod hp0
      have HSUM := Lib.hid (weights_sum HPR.out HND.out HEX.out (by rw [HM.out]; exact h0) y)
      clear hb5 hB4 hw14 hd4 hIx4 hl1 hl2
      go_wp2
      go_loop [14, 80] (fun t c => ∃ j : Nat, ∃ u : Int, j ≤ m ∧ c = .int .i64 j ∧ t = .int .i64 u ∧ El p u ∧ Hid (Cg p u (sumTo (fun i => wt p xs y i) j))) (fun _ c => m - (intOf c).toNat)
      case atStart => exact ⟨0, 0, Nat.zero_le _, rfl, rfl, el_zero hp1, Lib.hid (Cg.refl p 0)⟩
      case round =>
        obtain ⟨j, u, hj, rfl, rfl, hu, hcg⟩ := hrel
        by_cases hlt : j < m
        · obtain ⟨q1, o1, rfl, hc1⟩ := ints_at HW1.out (by rw [wts_len, HM.out]) (k := j) hlt
          obtain ⟨q2, o2, rfl, hc2⟩ := ints_at HW2.out (by rw [wts_len, HM.out]) (k := j) hlt
          rw [wts_getD (by rw [HM.out]; exact hlt)] at hc1 hc2
          have ew := wt_el hp1 xs y j
          have HS : Hid (Cg p ((u + wt p xs y j) % p) (sumTo (fun i => wt p xs y i) (j + 1))) := (Cg.mod p _).trans (hcg.out.add (Cg.refl p _))
          have eS := el_mod hp1 (u + wt p xs y j)
          obtain ⟨u0, u1⟩ := hu
          obtain ⟨w0, w1'⟩ := id ew
          clear hcg ew
          by_cases hjk : j = k
          · subst hjk
            have hv : wt p xs xk j = 1 := by rw [← HXK.out]; exact wt_own HPR.out HND.out HEX.out (by rw [HM.out]; exact hlt)
            rw [hv] at hc1
            have hb0 : ((j : Int) == (j : Int)) = true := by simp
            have hb1 : ((j : Int) != (j : Int)) = false := by simp
            clear hv
            generalize wt p xs y j = v at *
            go_wp2
            go_round
            case rel => exact ⟨j + 1, _, by omega, by go_num, rfl, eS, HS⟩
            case measure => simp [intOf]; omega
          · have hv : wt p xs xk j = 0 := by rw [← HXK.out]; exact wt_other hp1 (by rw [HM.out]; omega) (by omega)
            rw [hv] at hc1
            have hb0 : ((j : Int) == (k : Int)) = false := by simp; omega
            have hb1 : ((j : Int) != (k : Int)) = true := by simp; omega
            clear hv
            generalize wt p xs y j = v at *
            go_wp2
            go_round
            case rel => exact ⟨j + 1, _, by omega, by go_num, rfl, eS, HS⟩
            case measure => simp [intOf]; omega
        · obtain rfl : j = m := by omega
          have hu1 : u = 1 := (hcg.out.trans (by have h := HSUM.out; rw [HM.out] at h; exact h)).el hu ⟨by omega, by omega⟩
          subst hu1
          clear hcg hu
          go_wp2_with (go_at_call 9; refine (awake_any _).mono ?_; rintro e w' ⟨rfl, hbe⟩)
          go_ret
          exact ⟨rfl, HB5.out.trans (hbe.mono HB5.out.size)⟩
    · have h0' : m = 0 := by omega
      subst h0'
      have HBW := Lib.hid (hB2.below (Nat.le_refl _) (Nat.le_refl _))
      clear hB2 hd2 hIx
      go_wp2_with (go_at_call 9; refine (awake_any _).mono ?_; rintro e w' ⟨rfl, hbe⟩)
      go_ret
      exact ⟨rfl, HBW.out.trans (hbe.mono HBW.out.size)⟩
  · have hl' := long_len hl
    clear hl
    go_enter Try.func6, Try.ntmps6
    go_wp2_with (first
      | (go_at_call 8; refine (light_any _ _ _ hs).mono ?_; rintro e w' ⟨rfl, rfl⟩)
      | (go_at_call 9; refine (awake_any _).mono ?_; rintro e w' ⟨rfl, hbe⟩))
    go_ret
    exact ⟨rfl, hbe⟩
end Go.Proofs.Ytpohhgbmdgjipaa
