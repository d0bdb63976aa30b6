
/- Contract of the document's answer for Interpolate, and all answers that are errors. -/
import Derived.Test.YtpohhgbmdgjipaaRfW
import Derived.Test.YtpohhgbmdgjipaaPoints
namespace Go.Proofs.Ytpohhgbmdgjipaa
open Go.RowKit Go.Sort
open Num
set_option linter.unusedVariables false

/-- The error of points. -/
def ec (xs ys : List Int) : Int := if xs.length = ys.length then plc xs else 1
theorem ec_eq {xs ys : List Int} (h : xs.length = ys.length) : ec xs ys = plc xs := if_pos h
theorem add_mul_eq' (p v c d : Int) : (v + c * d) % p = addF p v (mulF p c d) := by unfold addF mulF; rw [Int.add_emod_emod]
theorem ec_ne {xs ys : List Int} (h : ¬ xs.length = ys.length) : ec xs ys = 1 := if_neg h

set_option maxHeartbeats 1000000 in
theorem ref_weights_err (p x : Int) (aa : Option Addr) (n ca : Nat) (xs : List Int) (w : World) (hsx : Ints w (.slice aa n ca) xs) (hnx : Hid (n = xs.length)) (hok : plc xs ≠ 0) (hl : n ≤ 1000) (hc : n ≤ ca) (hc2 : ca ≤ 9223372036854775807) :
    Calls Try.prog 25 #[.int .i64 p, .slice aa n ca, .int .i64 x] w fun e w' => e = .returned (.tuple #[.slice none 0 0, .int .i64 (plc xs)]) ∧ w = w' := by
  by_cases h0 : n = 0
  · have hx : xs = [] := List.length_eq_zero_iff.1 (by rw [← hnx.out, h0])
    have HP : Hid (plc xs = 1) := by show _ = _; rw [hx, plc_nil]
    subst h0
    clear hok
    go_enter Try.func25, Try.ntmps25
    go_wp2
    go_ret2
    exact ⟨by rw [HP.out]; rfl, rfl⟩
  · have hx : xs ≠ [] := fun e => by have := hnx.out; rw [e] at this; exact h0 this
    have z1 : ((n : Int) == 0) = false := by simp; omega
    have HPL := Lib.hid (ref_places_core aa n ca xs w hsx hnx (by omega) hc hc2)
    rw [plc_of hx] at hok ⊢
    have hbn : (plc0 xs != 0) = true := by simpa using hok
    have hbn' : (plc0 xs == 0) = false := by simpa using hok
    generalize plc0 xs = e0 at *
    clear hx
    go_enter Try.func25, Try.ntmps25
    go_wp2_with (go_at_call 44; refine HPL.out.mono ?_; rintro e w' ⟨rfl, rfl⟩)
    go_ret2
    exact ⟨rfl, rfl⟩

set_option maxRecDepth 100000 in
set_option maxHeartbeats 2000000 in
theorem ref_interp_core (p x : Int) (ax ay : Option Addr) (n cx cy : Nat) (xs ys : List Int) (w : World) (hp : PrmI p) (hp2 : p ≤ 1073741824) (hx : El p x) (hxs : Els p xs) (hys : Els p ys)
    (hsx : Ints w (.slice ax n cx) xs) (hsy : Ints w (.slice ay n cy) ys) (hnx : Hid (n = xs.length)) (hny : Hid (n = ys.length)) (hok : Hid (plc xs = 0)) (hn : n ≤ 1000) (hc : n ≤ cx) (hc2 : cx ≤ 9223372036854775807) :
    Calls Try.prog 27 #[.int .i64 p, .slice ax n cx, .slice ay n cy, .int .i64 x] w fun e w' => e = .returned (.tuple #[.int .i64 (wsum p xs ys x n % p), .int .i64 0]) ∧ Below w.heap.size w w' := by
  have hp0 := hp.1
  have hp1 : 1 ≤ p := by omega
  have h0 : 0 < n := by rw [hnx.out]; exact List.length_pos_iff.2 (fun e => by have h := hok.out; rw [e, plc_nil] at h; cases h)
  have z1 : ((n : Int) == 0) = false := by simp; omega
  have HW := Lib.hid (ref_weights_core p x ax n cx xs w hp hp2 hx hxs hsx hnx hok hn hc hc2)
  go_enter Try.func27, Try.ntmps27
  go_wp2_with fail
  refine HW.out.mono ?_; rintro e w1 ⟨v, rfl, hgw, hb1⟩
  have hsy1 := Lib.hid (hsy.below (Nat.le_refl _) hb1)
  have hwl : (wts p xs x).length = n := by rw [wts_len, hnx.out]
  have hIw := hgw.reads (by rw [hwl]; omega)
  have HIW := Lib.hid hIw
  have HB := Lib.hid hb1
  obtain ⟨aw, cw, rfl, _, _⟩ := hIw
  rw [hwl] at HIW ⊢
  clear hb1 hsx hsy hwl hgw HW
  go_wp2
  go_loop [12, 13, 14, 37] (fun t _ _ i => ∃ k : Nat, ∃ s : Int, k ≤ n ∧ i = .int .i64 k ∧ t = .int .i64 s ∧ El p s ∧ Hid (Cg p s (wsum p xs ys x k))) (fun _ _ _ i => n - (intOf i).toNat)
  case atStart => exact ⟨0, 0, Nat.zero_le _, rfl, rfl, el_zero hp1, Lib.hid (Cg.refl p 0)⟩
  case round =>
    obtain ⟨k, s, hk, rfl, rfl, hs, hcg⟩ := hrel
    by_cases hlt : k < n
    · obtain ⟨x0, off, rfl, hcx⟩ := ints_at HIW.out (by rw [wts_len, hnx.out]) (k := k) hlt
      obtain ⟨y0, offy, rfl, hcy⟩ := ints_at hsy1.out hny.out (k := k) hlt
      rw [wts_getD (by rw [← hnx.out]; exact hlt)] at hcx
      have ew := wt_el hp1 xs x k
      have ey := els_at hp1 hys k
      have HS : Hid (Cg p (addF p s (mulF p (wt p xs x k) (ys.getD k 0))) (wsum p xs ys x (k + 1))) := interp_step hcg.out rfl
      rw [← add_mul_eq' p s (wt p xs x k) (ys.getD k 0)] at HS
      clear hcg
      generalize wt p xs x k = c at *
      generalize ys.getD k 0 = d at *
      obtain ⟨c0, c1⟩ := ew
      obtain ⟨d0, d1⟩ := ey
      obtain ⟨s0, s1⟩ := hs
      obtain ⟨m1, m2⟩ := mul_bound hp2 c0 c1 d0 d1
      go_wp2
      go_round
      case rel => exact ⟨k + 1, _, by omega, by go_num, rfl, el_mod hp1 _, HS⟩
      case measure => simp [intOf]; omega
    · obtain rfl : k = n := by omega
      have HE : Hid (s = wsum p xs ys x k % p) := by
        show _ = _
        rw [← hcg.out.eq]; exact (Int.emod_eq_of_lt hs.1 hs.2).symm
      clear hcg
      go_wp2
      go_ret2
      exact ⟨ret_pair HE.out, HB.out⟩

set_option maxHeartbeats 1000000 in
theorem ref_interp_err (p x : Int) (ax ay : Option Addr) (n m cx cy : Nat) (xs ys : List Int) (w : World) (hsx : Ints w (.slice ax n cx) xs) (hnx : Hid (n = xs.length)) (hny : Hid (m = ys.length)) (hok : ec xs ys ≠ 0) (hl : n ≤ 1000) (hl2 : m ≤ 1000) (hc : n ≤ cx) (hc2 : cx ≤ 9223372036854775807) :
    Calls Try.prog 27 #[.int .i64 p, .slice ax n cx, .slice ay m cy, .int .i64 x] w fun e w' => e = .returned (.tuple #[.int .i64 0, .int .i64 (ec xs ys)]) ∧ w = w' := by
  by_cases h0 : n = 0
  · have hx : xs = [] := List.length_eq_zero_iff.1 (by rw [← hnx.out, h0])
    have HP : Hid (ec xs ys = 1) := by show _ = _; unfold ec; rw [hx, plc_nil]; split <;> rfl
    subst h0
    clear hok
    go_enter Try.func27, Try.ntmps27
    go_wp2
    go_ret2
    exact ⟨by rw [HP.out]; rfl, rfl⟩
  · have z1 : ((n : Int) == 0) = false := by simp; omega
    by_cases he : n = m
    · subst he
      rw [ec_eq (by rw [← hnx.out, ← hny.out])] at hok ⊢
      have HW := Lib.hid (ref_weights_err p x ax n cx xs w hsx hnx hok hl hc hc2)
      have hbn : (plc xs != 0) = true := by simpa using hok
      have hbn' : (plc xs == 0) = false := by simpa using hok
      generalize plc xs = e0 at *
      go_enter Try.func27, Try.ntmps27
      go_wp2_with (go_at_call 25; refine HW.out.mono ?_; rintro e w' ⟨rfl, rfl⟩)
      go_ret2
      exact ⟨rfl, rfl⟩
    · have z2 : ((n : Int) == (m : Int)) = false := by simp; omega
      have z3 : ((n : Int) != (m : Int)) = true := by simp; omega
      have HP : Hid (ec xs ys = 1) := ec_ne (by rw [← hnx.out, ← hny.out]; exact he)
      clear hok
      go_enter Try.func27, Try.ntmps27
      go_wp2
      go_ret2
      exact ⟨by rw [HP.out]; rfl, rfl⟩
set_option maxHeartbeats 1000000 in
theorem interp_err (p x : Int) (ax ay : Option Addr) (n m cx cy : Nat) (xs ys : List Int) (w : World) (hp2 : p ≤ 1073741824) (hxs : Els p xs) (hsx : Ints w (.slice ax n cx) xs) (hnx : Hid (n = xs.length)) (hny : Hid (m = ys.length)) (hok : ec xs ys ≠ 0) (hl : n ≤ 1000) (hl2 : m ≤ 1000) :
    Calls Try.prog 26 #[.int .i64 p, .slice ax n cx, .slice ay m cy, .int .i64 x] w fun e w' => e = .returned (.tuple #[.int .i64 0, .int .i64 (ec xs ys)]) ∧ Below w.heap.size w w' := by
  by_cases he : n = m
  · subst he
    rw [ec_eq (by rw [← hnx.out, ← hny.out])] at hok ⊢
    have HW := Lib.hid (weights_err (x := x) w hp2 hxs hsx hok)
    generalize plc xs = e0 at *
    go_enter Try.func26, Try.ntmps26
    go_wp2_with (go_at_call 24; refine HW.out.mono ?_; rintro e w1 ⟨rfl, hb1⟩)
    go_loop [12, 29] (fun t i => i = .int .i64 0 ∧ t = .int .i64 0) (fun _ i => 0)
    case atStart => exact ⟨rfl, rfl⟩
    case round =>
      obtain ⟨rfl, rfl⟩ := hrel
      go_wp2
      go_ret2
      exact ⟨rfl, hb1⟩
  · have z2 : ((n : Int) == (m : Int)) = false := by simp; omega
    have z3 : ((n : Int) != (m : Int)) = true := by simp; omega
    have HP : Hid (ec xs ys = 1) := ec_ne (by rw [← hnx.out, ← hny.out]; exact he)
    clear hok
    go_enter Try.func26, Try.ntmps26
    go_wp2
    go_ret2
    exact ⟨by rw [HP.out]; rfl, Below.refl _ _⟩
set_option maxHeartbeats 1000000 in
theorem through_err (p : Int) (ax ay : Option Addr) (n m cx cy : Nat) (xs ys : List Int) (w : World) (hp2 : p ≤ 1073741824) (hxs : Els p xs) (hsx : Ints w (.slice ax n cx) xs) (hnx : Hid (n = xs.length)) (hny : Hid (m = ys.length)) (hok : ec xs ys ≠ 0) (hl : n ≤ 1000) (hl2 : m ≤ 1000) :
    Calls Try.prog 28 #[.int .i64 p, .slice ax n cx, .slice ay m cy] w fun e w' => e = .returned (.tuple #[.slice none 0 0, .int .i64 (ec xs ys)]) ∧ Below w.heap.size w w' := by
  by_cases he : n = m
  · subst he
    rw [ec_eq (by rw [← hnx.out, ← hny.out])] at hok ⊢
    have HCP := Lib.hid (checkPlaces_any _ xs w hsx (els_wf hp2 hxs))
    have hbn : (plc xs != 0) = true := by simpa using hok
    have hbn' : (plc xs == 0) = false := by simpa using hok
    generalize plc xs = e0 at *
    go_enter Try.func28, Try.ntmps28
    go_wp2_with (go_at_call 42; refine HCP.out.mono ?_; rintro e w1 ⟨rfl, hb1⟩)
    go_ret2
    exact ⟨rfl, hb1⟩
  · have z2 : ((n : Int) == (m : Int)) = false := by simp; omega
    have z3 : ((n : Int) != (m : Int)) = true := by simp; omega
    have HP : Hid (ec xs ys = 1) := ec_ne (by rw [← hnx.out, ← hny.out]; exact he)
    clear hok
    go_enter Try.func28, Try.ntmps28
    go_wp2
    go_ret2
    exact ⟨by rw [HP.out]; rfl, Below.refl _ _⟩
set_option maxHeartbeats 1000000 in
theorem ref_through_err (p : Int) (ax ay : Option Addr) (n m cx cy : Nat) (xs ys : List Int) (w : World) (hsx : Ints w (.slice ax n cx) xs) (hnx : Hid (n = xs.length)) (hny : Hid (m = ys.length)) (hok : ec xs ys ≠ 0) (hl : n ≤ 1000) (hl2 : m ≤ 1000) (hc : n ≤ cx) (hc2 : cx ≤ 9223372036854775807) :
    Calls Try.prog 29 #[.int .i64 p, .slice ax n cx, .slice ay m cy] w fun e w' => e = .returned (.tuple #[.slice none 0 0, .int .i64 (ec xs ys)]) ∧ w = w' := by
  by_cases h0 : n = 0
  · have hx : xs = [] := List.length_eq_zero_iff.1 (by rw [← hnx.out, h0])
    have HP : Hid (ec xs ys = 1) := by show _ = _; unfold ec; rw [hx, plc_nil]; split <;> rfl
    subst h0
    clear hok
    go_enter Try.func29, Try.ntmps29
    go_wp2
    go_ret2
    exact ⟨by rw [HP.out]; rfl, rfl⟩
  · have z1 : ((n : Int) == 0) = false := by simp; omega
    by_cases he : n = m
    · subst he
      have hx : xs ≠ [] := fun e => by have := hnx.out; rw [e] at this; exact h0 this
      have HPL := Lib.hid (ref_places_core ax n cx xs w hsx hnx (by omega) hc hc2)
      rw [ec_eq (by rw [← hnx.out, ← hny.out]), plc_of hx] at hok ⊢
      have hbn : (plc0 xs != 0) = true := by simpa using hok
      have hbn' : (plc0 xs == 0) = false := by simpa using hok
      generalize plc0 xs = e0 at *
      go_enter Try.func29, Try.ntmps29
      go_wp2_with (go_at_call 44; refine HPL.out.mono ?_; rintro e w' ⟨rfl, rfl⟩)
      go_ret2
      exact ⟨rfl, rfl⟩
    · have z2 : ((n : Int) == (m : Int)) = false := by simp; omega
      have z3 : ((n : Int) != (m : Int)) = true := by simp; omega
      have HP : Hid (ec xs ys = 1) := ec_ne (by rw [← hnx.out, ← hny.out]; exact he)
      clear hok
      go_enter Try.func29, Try.ntmps29
      go_wp2
      go_ret2
      exact ⟨by rw [HP.out]; rfl, rfl⟩
end Go.Proofs.Ytpohhgbmdgjipaa
