
/- The walk of DigestElements. -/
import Derived.Test.YtidmcemcmalfnaaDoorRElt
import Derived.Test.YtidmcemcmalfnaaDoorSLaw
namespace Go.Proofs.YtidmcemcmalfnaaDoor
open Go.RowKit
open Num
set_option linter.unusedVariables false

set_option maxRecDepth 100000 in
set_option maxHeartbeats 8000000 in
theorem digestElements_walk (s : Value) (l : List Int) (t : ByteArray) (n : Nat) (w : World) (ht : Tabs w) (hs : Ints w s l) (hn : n < 256) :
    Calls Tryd.prog 5 #[s, .string t, .int .u8 n] w fun e w' => e = .returned (.bool true) ∧ Below w.heap.size w w' := by
  have hT := ht.size
  have HT := Lib.hid ht
  clear ht
  by_cases hl : (l.length : Int) ≤ 500
  · have hl' : decide ((l.length : Int) ≤ 500) = true := by simpa using hl
    clear hl
    by_cases hsz : t.size ≤ 300
    · have hsz' : decide ((300 : Int) < (t.size : Int)) = false := decide_eq_false (by omega)
      have HSZ := Lib.hid hsz
      clear hsz
      go_enter Tryd.func5, Tryd.ntmps5
      go_wp2_with (first
        | (go_at_call 16; refine (light_any _ _ _ hs).mono ?_; rintro e w' ⟨rfl, rfl⟩)
        | (go_at_call 17; refine (roll_any _ _ (slc_of hs)).mono ?_; rintro e w' ⟨rfl, rfl⟩))
      refine (prime_any _ s l _ (dice_new hs)).mono ?_
      rintro e w1 ⟨p, hprm, hp2, rfl, hd1, hbut⟩
      have hb1 := (But.trans (But.alloc w.heap.size w _) hbut).below (Nat.le_refl _) (Nat.le_refl _)
      have hp0 : 2 ≤ p := hprm.1
      have hp3 : p ≤ 1073741824 := by omega
      have HB1 := Lib.hid hb1
      have HT1 := Lib.hid (HT.out.below hb1 hT)
      have hs1 := hb1.size
      clear hbut hs hprm hd1 hb1
      go_wp2_with fail
      refine (stream_any p t n w1 HT1.out hp0 hp3 (by omega) (by have := HSZ.out; omega)).mono ?_
      rintro e w2 ⟨v1, rfl, hI1, hb2⟩
      have HT2 := Lib.hid (HT1.out.below hb2 (by omega))
      have HB2 := Lib.hid (HB1.out.trans (hb2.mono hs1))
      have hs2 : w.heap.size ≤ w2.heap.size := HB2.out.size
      have HI1 := Lib.hid hI1
      clear hI1 hb2 HB1 HT1
      go_wp2_with fail
      refine (refStream_any p t n w2 hp0 hp3 (by omega) (by have := HSZ.out; omega)).mono ?_
      rintro e w3 ⟨v2, rfl, hI2, hb3⟩
      have HT3 := Lib.hid (HT2.out.below hb3 (by omega))
      have HB3 := Lib.hid (HB2.out.trans (hb3.mono hs2))
      have hs3 : w.heap.size ≤ w3.heap.size := HB3.out.size
      have HI13 := Lib.hid (HI1.out.below (Nat.le_refl _) hb3)
      have HI23 := Lib.hid hI2
      obtain ⟨a1, c1, rfl, -⟩ := ints_map HI13.out
      obtain ⟨a2, c2, rfl, -⟩ := ints_map hI2
      clear hI2 hb3 HI1 HB2 HT2
      go_wp2_with fail
      refine (digElem_any p t w3 HT3.out hp0 hp3 (by have := HSZ.out; omega)).mono ?_
      rintro e w4 ⟨rfl, hb4⟩
      have HB4 := Lib.hid (HB3.out.trans (hb4.mono hs3))
      have HT4 := Lib.hid (HT3.out.below hb4 (by omega))
      have hs4 : w.heap.size ≤ w4.heap.size := HB4.out.size
      have HI14 := Lib.hid (HI13.out.below (Nat.le_refl _) hb4)
      have HI24 := Lib.hid (HI23.out.below (Nat.le_refl _) hb4)
      have HRE := Lib.hid (refElem_any p t w4 hp0 hp3 (by have := HSZ.out; omega))
      obtain ⟨el, hel⟩ : ∃ el, elt p t.data.toList = el := ⟨_, rfl⟩
      rw [hel] at HRE ⊢
      clear hel hb4 HB3 HT3 HI13 HI23
      go_wp2_with fail
      refine HRE.out.mono ?_
      rintro e w5 ⟨rfl, hb5⟩
      have HB5 := Lib.hid (HB4.out.trans (hb5.mono hs4))
      have HT5 := Lib.hid (HT4.out.below hb5 (by omega))
      have hs5 : w.heap.size ≤ w5.heap.size := HB5.out.size
      have hm1 := ints_map (HI14.out.below (Nat.le_refl _) hb5)
      have hm2 := ints_map (HI24.out.below (Nat.le_refl _) hb5)
      obtain ⟨a1', c1', he1, hc1⟩ := hm1
      obtain ⟨a2', c2', he2, hc2⟩ := hm2
      simp only [Value.slice.injEq] at he1 he2
      obtain ⟨rfl, -, rfl⟩ := he1
      obtain ⟨rfl, -, rfl⟩ := he2
      have HC1 := Lib.hid hc1
      have HC2 := Lib.hid hc2
      obtain ⟨S, hS⟩ : ∃ S, stm p t.data.toList = S := ⟨_, rfl⟩
      rw [hS] at HC1 HC2
      clear hc1 hc2 hS hb5 HRE HI14 HI24 HB4 HT4
      go_wp2_with fail
      go_loop [10, 11, 50] (fun _ _ i => ∃ k : Nat, k ≤ n ∧ i = .int .i64 k) (fun _ _ i => n - (intOf i).toNat)
      case atStart => exact ⟨0, by omega, rfl⟩
      case round =>
        obtain ⟨k, hk, rfl⟩ := hrel
        by_cases hlt : k < n
        · obtain ⟨b2, o2, rfl, hcl⟩ := HC2.out k hlt
          obtain ⟨b1, o1, rfl, hcl1⟩ := HC1.out k hlt
          generalize S k = v at *
          go_wp2
          go_round
          case rel => exact ⟨k + 1, by omega, by go_num⟩
          case measure => simp [intOf]; omega
        · go_wp2_with (go_at_call 7; refine (awake3_any _ HT5.out).mono ?_; rintro e w6 ⟨rfl, hb6⟩)
          go_ret
          exact ⟨rfl, HB5.out.trans (hb6.mono hs5)⟩
    · have hsz' : decide ((300 : Int) < (t.size : Int)) = true := decide_eq_true (by omega)
      clear hsz
      go_enter Tryd.func5, Tryd.ntmps5
      go_wp2_with (first
        | (go_at_call 16; refine (light_any _ _ _ hs).mono ?_; rintro e w' ⟨rfl, rfl⟩)
        | (go_at_call 7; refine (awake3_any _ HT.out).mono ?_; rintro e w' ⟨rfl, hbe⟩))
      go_ret
      exact ⟨rfl, hbe⟩
  · have hl' := long_dec hl
    clear hl
    go_enter Tryd.func5, Tryd.ntmps5
    go_wp2_with (first
      | (go_at_call 16; refine (light_any _ _ _ hs).mono ?_; rintro e w' ⟨rfl, rfl⟩)
      | (go_at_call 7; refine (awake3_any _ HT.out).mono ?_; rintro e w' ⟨rfl, hbe⟩))
    go_ret
    exact ⟨rfl, hbe⟩
end Go.Proofs.YtidmcemcmalfnaaDoor
