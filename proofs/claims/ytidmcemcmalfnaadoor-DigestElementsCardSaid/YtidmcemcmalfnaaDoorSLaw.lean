
/- The walk of DigestStreams. -/
import Derived.Test.YtidmcemcmalfnaaDoorSElt
import Derived.Test.YtidmcemcmalfnaaDoorSAwk
namespace Go.Proofs.YtidmcemcmalfnaaDoor
open Go.RowKit
open Num
set_option linter.unusedVariables false

theorem st_in (p : Int) (hp : 2 ≤ p) (L : List UInt8) (i : Nat) : 0 ≤ stm p L i ∧ stm p L i < p := ⟨Int.emod_nonneg _ (by omega), Int.emod_lt_of_pos _ (by omega)⟩
theorem elt_in (p : Int) (hp : 2 ≤ p) (L : List UInt8) : 1 ≤ elt p L ∧ elt p L < p := by
  unfold elt
  have h0 := Int.emod_nonneg (sev (Sha.sum L)) (show p - 1 ≠ 0 by omega)
  have h1 := Int.emod_lt_of_pos (sev (Sha.sum L)) (show 0 < p - 1 by omega)
  omega
theorem slc_of {w : World} {s : Value} {l : List Int} (h : Ints w s l) : ∃ a n c, s = .slice a n c := by
  obtain ⟨a, c, rfl, _, _⟩ := h; exact ⟨_, _, _, rfl⟩
theorem long_dec {n : Nat} (h : ¬ (n : Int) ≤ 500) : decide ((n : Int) ≤ 500) = false := decide_eq_false h
/-- What a made list of numbers reads as. -/
theorem ints_map {w : World} {v : Value} {n : Nat} {S : Nat → Int} (h : Ints w v ((List.range n).map S)) : ∃ a c, v = .slice a n c ∧ ∀ k, k < n → ∃ b off, a = some ⟨b, off, none⟩ ∧ w.cell? ⟨b, off + k, none⟩ = some (.int .i64 (S k)) := by
  obtain ⟨a, c, rfl, _, hc⟩ := h
  refine ⟨a, c, by simp, fun k hk => ?_⟩
  obtain ⟨b, off, ha, hx⟩ := hc (fun e => by have := congrArg List.length e; simp at this; omega)
  refine ⟨b, off, ha, ?_⟩
  rw [hx k (by simpa using hk)]
  simp [List.getD, hk]

set_option maxRecDepth 100000 in
set_option maxHeartbeats 8000000 in
theorem digestStreams_walk (s : Value) (l : List Int) (t : ByteArray) (m n : Nat) (w : World) (ht : Tabs w) (hs : Ints w s l) (hm : m < 256) (hn : n < 256) :
    Calls Tryd.prog 6 #[s, .string t, .int .u8 m, .int .u8 n] w fun e w' => e = .returned (.bool true) ∧ Below w.heap.size w w' := by
  have hT := ht.size
  have HT := Lib.hid ht
  clear ht
  by_cases hl : (l.length : Int) ≤ 500
  · have hl' : decide ((l.length : Int) ≤ 500) = true := by simpa using hl
    clear hl
    by_cases hsz : t.size ≤ 200
    · have hsz' : decide ((200 : Int) < (t.size : Int)) = false := decide_eq_false (by omega)
      have HSZ := Lib.hid hsz
      clear hsz
      go_enter Tryd.func6, Tryd.ntmps6
      go_wp2_with (first
        | (go_at_call 16; refine (light_any _ _ _ hs).mono ?_; rintro e w' ⟨rfl, rfl⟩)
        | (go_at_call 17; refine (roll_any _ _ (slc_of hs)).mono ?_; rintro e w' ⟨rfl, rfl⟩))
      refine (prime_any _ s l _ (dice_new hs)).mono ?_
      rintro e w1 ⟨p, hprm, hp2, rfl, hd1, hbut⟩
      have hb1 := (But.trans (But.alloc w.heap.size w _) hbut).below (Nat.le_refl _) (Nat.le_refl _)
      have hp0 : 2 ≤ p := hprm.1
      have hp3 : p ≤ 1073741824 := by omega
      have HB1 := Lib.hid hb1
      have HT1 := Lib.hid (HT.out.below hb1 hT)
      have hs1 := hb1.size
      clear hbut hs hprm hd1 hb1
      have hcase : (n < m ∧ ¬ m < n) ∨ (m < n ∧ ¬ n < m) ∨ n = m := by omega
      rcases hcase with h | h | h
      · obtain ⟨h1, h2⟩ := h
        go_wp2_with fail
        refine (stream_any p t n w1 HT1.out hp0 hp3 (by omega) (by have := HSZ.out; omega)).mono ?_
        rintro e w2 ⟨v1, rfl, hI1, hb2⟩
        have HT2 := Lib.hid (HT1.out.below hb2 (by omega))
        have HB2 := Lib.hid (HB1.out.trans (hb2.mono hs1))
        have hs2 : w.heap.size ≤ w2.heap.size := HB2.out.size
        have HI1 := Lib.hid hI1
        clear hI1 hb2 HB1 HT1
        go_wp2_with fail
        refine (stream_any p t m w2 HT2.out hp0 hp3 (by omega) (by have := HSZ.out; omega)).mono ?_
        rintro e w3 ⟨v2, rfl, hI2, hb3⟩
        have HT3 := Lib.hid (HT2.out.below hb3 (by omega))
        have HB3 := Lib.hid (HB2.out.trans (hb3.mono hs2))
        have hs3 : w.heap.size ≤ w3.heap.size := HB3.out.size
        obtain ⟨a1, c1, rfl, hc1⟩ := ints_map (HI1.out.below (Nat.le_refl _) hb3)
        obtain ⟨a2, c2, rfl, hc2⟩ := ints_map hI2
        have HC1 := Lib.hid hc1
        have HC2 := Lib.hid hc2
        obtain ⟨S, hS⟩ : ∃ S, stm p t.data.toList = S := ⟨_, rfl⟩
        have HSI : Hid (∀ i, 0 ≤ S i ∧ S i < p) := by rw [← hS]; exact st_in p hp0 _
        rw [hS] at HC1 HC2
        clear hI2 hb3 hc1 hc2 HI1 HB2 HT2 hS
        go_wp2_with fail
        go_loop [12, 13, 59] (fun _ _ i => ∃ k : Nat, k ≤ m ∧ i = .int .i64 k) (fun _ _ i => m - (intOf i).toNat)
        case atStart => exact ⟨0, by omega, rfl⟩
        case round =>
          obtain ⟨k, hk, rfl⟩ := hrel
          by_cases hlt : k < m
          · obtain ⟨b2, o2, rfl, hcl⟩ := HC2.out k hlt
            have hv := HSI.out k
            by_cases hk1 : k < n
            · obtain ⟨b1, o1, rfl, hcl1⟩ := HC1.out k hk1
              generalize S k = v at *
              go_wp2
              go_round
              case rel => exact ⟨k + 1, by omega, by go_num⟩
              case measure => simp [intOf]; omega
            · generalize S k = v at *
              go_wp2
              go_round
              case rel => exact ⟨k + 1, by omega, by go_num⟩
              case measure => simp [intOf]; omega
          · have he := elt_in p hp0 t.data.toList
            go_wp2_with fail
            refine (digElem_any p t w3 HT3.out hp0 hp3 (by have := HSZ.out; omega)).mono ?_
            rintro e w4 ⟨rfl, hb4⟩
            have HB4 := Lib.hid (HB3.out.trans (hb4.mono hs3))
            have HT4 := Lib.hid (HT3.out.below hb4 (by omega))
            have hs4 : w.heap.size ≤ w4.heap.size := HB4.out.size
            generalize elt p t.data.toList = el at *
            clear hb4
            go_wp2_with (go_at_call 7; refine (awake3_any _ HT4.out).mono ?_; rintro e w5 ⟨rfl, hb5⟩)
            go_ret
            exact ⟨rfl, HB4.out.trans (hb5.mono hs4)⟩
      · obtain ⟨h1, h2⟩ := h
        go_wp2_with fail
        refine (stream_any p t m w1 HT1.out hp0 hp3 (by omega) (by have := HSZ.out; omega)).mono ?_
        rintro e w2 ⟨v1, rfl, hI1, hb2⟩
        have HT2 := Lib.hid (HT1.out.below hb2 (by omega))
        have HB2 := Lib.hid (HB1.out.trans (hb2.mono hs1))
        have hs2 : w.heap.size ≤ w2.heap.size := HB2.out.size
        have HI1 := Lib.hid hI1
        clear hI1 hb2 HB1 HT1
        go_wp2_with fail
        refine (stream_any p t n w2 HT2.out hp0 hp3 (by omega) (by have := HSZ.out; omega)).mono ?_
        rintro e w3 ⟨v2, rfl, hI2, hb3⟩
        have HT3 := Lib.hid (HT2.out.below hb3 (by omega))
        have HB3 := Lib.hid (HB2.out.trans (hb3.mono hs2))
        have hs3 : w.heap.size ≤ w3.heap.size := HB3.out.size
        obtain ⟨a1, c1, rfl, hc1⟩ := ints_map (HI1.out.below (Nat.le_refl _) hb3)
        obtain ⟨a2, c2, rfl, hc2⟩ := ints_map hI2
        have HC1 := Lib.hid hc1
        have HC2 := Lib.hid hc2
        obtain ⟨S, hS⟩ : ∃ S, stm p t.data.toList = S := ⟨_, rfl⟩
        have HSI : Hid (∀ i, 0 ≤ S i ∧ S i < p) := by rw [← hS]; exact st_in p hp0 _
        rw [hS] at HC1 HC2
        clear hI2 hb3 hc1 hc2 HI1 HB2 HT2 hS
        go_wp2_with fail
        go_loop [12, 13, 59] (fun _ _ i => ∃ k : Nat, k ≤ n ∧ i = .int .i64 k) (fun _ _ i => n - (intOf i).toNat)
        case atStart => exact ⟨0, by omega, rfl⟩
        case round =>
          obtain ⟨k, hk, rfl⟩ := hrel
          by_cases hlt : k < n
          · obtain ⟨b2, o2, rfl, hcl⟩ := HC2.out k hlt
            have hv := HSI.out k
            by_cases hk1 : k < m
            · obtain ⟨b1, o1, rfl, hcl1⟩ := HC1.out k hk1
              generalize S k = v at *
              go_wp2
              go_round
              case rel => exact ⟨k + 1, by omega, by go_num⟩
              case measure => simp [intOf]; omega
            · generalize S k = v at *
              go_wp2
              go_round
              case rel => exact ⟨k + 1, by omega, by go_num⟩
              case measure => simp [intOf]; omega
          · have he := elt_in p hp0 t.data.toList
            go_wp2_with fail
            refine (digElem_any p t w3 HT3.out hp0 hp3 (by have := HSZ.out; omega)).mono ?_
            rintro e w4 ⟨rfl, hb4⟩
            have HB4 := Lib.hid (HB3.out.trans (hb4.mono hs3))
            have HT4 := Lib.hid (HT3.out.below hb4 (by omega))
            have hs4 : w.heap.size ≤ w4.heap.size := HB4.out.size
            generalize elt p t.data.toList = el at *
            clear hb4
            go_wp2_with (go_at_call 7; refine (awake3_any _ HT4.out).mono ?_; rintro e w5 ⟨rfl, hb5⟩)
            go_ret
            exact ⟨rfl, HB4.out.trans (hb5.mono hs4)⟩
      · obtain rfl : m = n := h.symm
        go_wp2_with fail
        refine (stream_any p t m w1 HT1.out hp0 hp3 (by omega) (by have := HSZ.out; omega)).mono ?_
        rintro e w2 ⟨v1, rfl, hI1, hb2⟩
        have HT2 := Lib.hid (HT1.out.below hb2 (by omega))
        have HB2 := Lib.hid (HB1.out.trans (hb2.mono hs1))
        have hs2 : w.heap.size ≤ w2.heap.size := HB2.out.size
        have HI1 := Lib.hid hI1
        clear hI1 hb2 HB1 HT1
        go_wp2_with fail
        refine (stream_any p t m w2 HT2.out hp0 hp3 (by omega) (by have := HSZ.out; omega)).mono ?_
        rintro e w3 ⟨v2, rfl, hI2, hb3⟩
        have HT3 := Lib.hid (HT2.out.below hb3 (by omega))
        have HB3 := Lib.hid (HB2.out.trans (hb3.mono hs2))
        have hs3 : w.heap.size ≤ w3.heap.size := HB3.out.size
        obtain ⟨a1, c1, rfl, hc1⟩ := ints_map (HI1.out.below (Nat.le_refl _) hb3)
        obtain ⟨a2, c2, rfl, hc2⟩ := ints_map hI2
        have HC1 := Lib.hid hc1
        have HC2 := Lib.hid hc2
        obtain ⟨S, hS⟩ : ∃ S, stm p t.data.toList = S := ⟨_, rfl⟩
        have HSI : Hid (∀ i, 0 ≤ S i ∧ S i < p) := by rw [← hS]; exact st_in p hp0 _
        rw [hS] at HC1 HC2
        clear hI2 hb3 hc1 hc2 HI1 HB2 HT2 hS
        go_wp2_with fail
        go_loop [12, 13, 59] (fun _ _ i => ∃ k : Nat, k ≤ m ∧ i = .int .i64 k) (fun _ _ i => m - (intOf i).toNat)
        case atStart => exact ⟨0, by omega, rfl⟩
        case round =>
          obtain ⟨k, hk, rfl⟩ := hrel
          by_cases hlt : k < m
          · obtain ⟨b2, o2, rfl, hcl⟩ := HC2.out k hlt
            have hv := HSI.out k
            by_cases hk1 : k < m
            · obtain ⟨b1, o1, rfl, hcl1⟩ := HC1.out k hk1
              generalize S k = v at *
              go_wp2
              go_round
              case rel => exact ⟨k + 1, by omega, by go_num⟩
              case measure => simp [intOf]; omega
            · exact absurd hlt hk1
          · have he := elt_in p hp0 t.data.toList
            go_wp2_with fail
            refine (digElem_any p t w3 HT3.out hp0 hp3 (by have := HSZ.out; omega)).mono ?_
            rintro e w4 ⟨rfl, hb4⟩
            have HB4 := Lib.hid (HB3.out.trans (hb4.mono hs3))
            have HT4 := Lib.hid (HT3.out.below hb4 (by omega))
            have hs4 : w.heap.size ≤ w4.heap.size := HB4.out.size
            generalize elt p t.data.toList = el at *
            clear hb4
            go_wp2_with (go_at_call 7; refine (awake3_any _ HT4.out).mono ?_; rintro e w5 ⟨rfl, hb5⟩)
            go_ret
            exact ⟨rfl, HB4.out.trans (hb5.mono hs4)⟩
    · have hsz' : decide ((200 : Int) < (t.size : Int)) = true := decide_eq_true (by omega)
      clear hsz
      go_enter Tryd.func6, Tryd.ntmps6
      go_wp2_with (first
        | (go_at_call 16; refine (light_any _ _ _ hs).mono ?_; rintro e w' ⟨rfl, rfl⟩)
        | (go_at_call 7; refine (awake3_any _ HT.out).mono ?_; rintro e w' ⟨rfl, hbe⟩))
      go_ret
      exact ⟨rfl, hbe⟩
  · have hl' := long_dec hl
    clear hl
    go_enter Tryd.func6, Tryd.ntmps6
    go_wp2_with (first
      | (go_at_call 16; refine (light_any _ _ _ hs).mono ?_; rintro e w' ⟨rfl, rfl⟩)
      | (go_at_call 7; refine (awake3_any _ HT.out).mono ?_; rintro e w' ⟨rfl, hbe⟩))
    go_ret
    exact ⟨rfl, hbe⟩
end Go.Proofs.YtidmcemcmalfnaaDoor
