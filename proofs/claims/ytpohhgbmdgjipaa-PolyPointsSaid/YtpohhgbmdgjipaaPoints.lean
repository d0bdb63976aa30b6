
/- The points that layer 2's statements draw; contract of poly.Interpolate; the sanity check. -/
import Derived.Test.YtpohhgbmdgjipaaWts
namespace Go.Proofs.Ytpohhgbmdgjipaa
open Go.RowKit Go.Sort
open Num
set_option linter.unusedVariables false

/-! ### Interpolate -/
def wsum (p : Int) (xs ys : List Int) (x : Int) (n : Nat) : Int := sumTo (fun i => wt p xs x i * ys.getD i 0) n
theorem interp_step {p a b c d s : Int} (h : Cg p a s) (hb : b = addF p a (mulF p c d)) : Cg p b (s + c * d) := by
  subst hb; exact (Cg.addF p _ _).trans (h.add (Cg.mulF p _ _))

set_option maxRecDepth 100000 in
set_option maxHeartbeats 2000000 in
theorem interp_core (p x : Int) (ax ay : Option Addr) (n cx cy : Nat) (xs ys : List Int) (w : World) (hp : PrmI p) (hp2 : p ≤ 1073741824) (hx : El p x) (hxs : Els p xs) (hys : Els p ys)
    (hsx : Ints w (.slice ax n cx) xs) (hsy : Ints w (.slice ay n cy) ys) (hnx : Hid (n = xs.length)) (hny : Hid (n = ys.length)) (hok : Hid (plc xs = 0)) (hn : n ≤ 1000) :
    Calls Try.prog 26 #[.int .i64 p, .slice ax n cx, .slice ay n cy, .int .i64 x] w fun e w' => e = .returned (.tuple #[.int .i64 (wsum p xs ys x n % p), .int .i64 0]) ∧ Below w.heap.size w w' := by
  have hp0 := hp.1
  have hp1 : 1 ≤ p := by omega
  go_enter Try.func26, Try.ntmps26
  go_wp2_with fail
  refine (weights_ok _ hp hp2 hx hxs hsx hok.out (by rw [← hnx.out]; exact hn)).mono ?_; rintro e w1 ⟨v, rfl, hIw, _, hb1⟩
  have hsy1 := Lib.hid (hsy.below (Nat.le_refl _) hb1)
  have HIW := Lib.hid hIw
  have HB := Lib.hid hb1
  obtain ⟨aw, cw, rfl, _, _⟩ := hIw
  have hwl : (wts p xs x).length = n := by rw [wts_len, hnx.out]
  rw [hwl] at HIW ⊢
  clear hb1 hsx hsy hwl
  go_wp2
  go_loop [12, 29] (fun t i => ∃ k : Nat, ∃ s : Int, k ≤ n ∧ i = .int .i64 k ∧ t = .int .i64 s ∧ El p s ∧ Hid (Cg p s (wsum p xs ys x k))) (fun _ i => n - (intOf i).toNat)
  case atStart => exact ⟨0, 0, Nat.zero_le _, rfl, rfl, el_zero hp1, Lib.hid (Cg.refl p 0)⟩
  case round =>
    obtain ⟨k, s, hk, rfl, rfl, hs, hcg⟩ := hrel
    by_cases hlt : k < n
    · obtain ⟨x0, off, rfl, hcx⟩ := ints_at HIW.out (by rw [wts_len, hnx.out]) (k := k) hlt
      obtain ⟨y0, offy, rfl, hcy⟩ := ints_at hsy1.out hny.out (k := k) hlt
      rw [wts_getD (by rw [← hnx.out]; exact hlt)] at hcx
      have ew := wt_el hp1 xs x k
      have ey := els_at hp1 hys k
      have HS : Hid (Cg p (addF p s (mulF p (wt p xs x k) (ys.getD k 0))) (wsum p xs ys x (k + 1))) := interp_step hcg.out rfl
      clear hcg
      generalize wt p xs x k = c at *
      generalize ys.getD k 0 = d at *
      go_wp2_with (first
        | (go_at_call 35; refine (mul_el _ hp1 hp2 ew ey).mono ?_; rintro e w' ⟨rfl, rfl⟩)
        | (go_at_call 41; refine (add_el _ hp1 hp2 hs (el_mul hp1 _ _)).mono ?_; rintro e w' ⟨rfl, rfl⟩))
      go_round
      case rel => exact ⟨k + 1, _, by omega, by go_num, rfl, el_add hp1 _ _, HS⟩
      case measure => simp [intOf]; omega
    · obtain rfl : k = n := by omega
      have HE : Hid (s = wsum p xs ys x k % p) := by
        show _ = _
        rw [← hcg.out.eq]; exact (Int.emod_eq_of_lt hs.1 hs.2).symm
      clear hcg
      go_wp2
      go_ret2
      exact ⟨ret_pair HE.out, HB.out⟩
theorem interp_ok {p x : Int} {sx sy : Value} {xs ys : List Int} (w : World) (hp : PrmI p) (hp2 : p ≤ 1073741824) (hx : El p x) (hxs : Els p xs) (hys : Els p ys) (hsx : Ints w sx xs) (hsy : Ints w sy ys) (hl : xs.length = ys.length) (hok : plc xs = 0) (hn : xs.length ≤ 1000) :
    Calls Try.prog 26 #[.int .i64 p, sx, sy, .int .i64 x] w fun e w' => e = .returned (.tuple #[.int .i64 (wsum p xs ys x xs.length % p), .int .i64 0]) ∧ Below w.heap.size w w' := by
  obtain ⟨ax, cx, rfl, _, _⟩ := id hsx
  obtain ⟨ay, cy, rfl, _, _⟩ := id hsy
  rw [← hl] at hsy ⊢
  exact interp_core p x ax ay xs.length cx cy xs ys w hp hp2 hx hxs hys hsx hsy (Lib.hid rfl) (Lib.hid hl) (Lib.hid hok) hn

/-! ### The sanity check -/
theorem thru_7 : Thru 7 [1, 2] [2, 3] [1, 1] := by
  refine ⟨fun x hx => ?_, rfl, by simp, fun j hj => ?_⟩
  · simp at hx; subst hx; exact ⟨by omega, by omega⟩
  · have : j = 0 ∨ j = 1 := by simp at hj; omega
    rcases this with rfl | rfl
    · exact Cg.of_eq (by simp [E])
    · exact Cg.of_eq (by simp [E])
set_option maxRecDepth 100000 in
set_option maxHeartbeats 2000000 in
theorem awake_any (w : World) : Calls Try.prog 9 #[] w fun e w' => e = .returned (.bool true) ∧ Below w.heap.size w w' := by
  have e12 : Els 7 [1, 2] := fun x hx => by simp at hx; rcases hx with rfl | rfl <;> exact ⟨by omega, by omega⟩
  have e23 : Els 7 [2, 3] := fun x hx => by simp at hx; rcases hx with rfl | rfl <;> exact ⟨by omega, by omega⟩
  have h1 : Ints ((w.alloc (.cells #[.int .i64 1, .int .i64 2] 3)).alloc (.cells #[.int .i64 2, .int .i64 3] 3)) (.slice (some ⟨w.heap.size, 0, none⟩) 2 2) [1, 2] :=
    (ints_two w 1 2 3).below (Nat.le_refl _) ((Below.refl _ _).alloc (Nat.le_refl _) _)
  have h2 : Ints ((w.alloc (.cells #[.int .i64 1, .int .i64 2] 3)).alloc (.cells #[.int .i64 2, .int .i64 3] 3)) (.slice (some ⟨w.heap.size + 1, 0, none⟩) 2 2) [2, 3] := by
    have h := ints_two (w.alloc (.cells #[.int .i64 1, .int .i64 2] 3)) 2 3 3
    rw [World.size_alloc] at h; exact h
  have hb0 : Below w.heap.size w ((w.alloc (.cells #[.int .i64 1, .int .i64 2] 3)).alloc (.cells #[.int .i64 2, .int .i64 3] 3)) := ((Below.refl _ _).alloc (Nat.le_refl _) _).alloc (by simp) _
  have HB0 := Lib.hid hb0
  have HT := Lib.hid (through_ok _ prm_7 (by omega) e12 e23 h1 h2 rfl (by decide) (by simp))
  clear h1 h2 hb0
  generalize hw2 : (w.alloc (.cells #[.int .i64 1, .int .i64 2] 3)).alloc (.cells #[.int .i64 2, .int .i64 3] 3) = w2 at *
  have HW2 := Lib.hid hw2
  clear hw2
  go_enter Try.func9, Try.ntmps9
  go_wp2_with fail
  rw [HW2.out]
  refine HT.out.mono ?_
  rintro e w3 ⟨v, z, rfl, hz, hthru, _, hb3⟩
  obtain rfl : z = [1, 1] := hthru.unique prm_7 (by decide) e12 thru_7
  obtain ⟨a, c, rfl, _, hc⟩ := hz
  obtain ⟨b, off, rfl, hcell⟩ := hc (by simp)
  have c0 := hcell 0 (by simp)
  have c1 := hcell 1 (by simp)
  simp at c0 c1
  have hb4 : Below w3.heap.size w3 (w3.alloc (.cells #[.int .i64 1, .int .i64 0, .int .i64 2, .int .i64 0] 3)) := (Below.refl _ _).alloc (Nat.le_refl _) _
  have HD := Lib.hid (degree_any _ [1, 0, 2, 0] _ (ints_lit w3 [1, 0, 2, 0] 3 (by simp)))
  have HB4 := Lib.hid ((HB0.out.trans (hb3.mono HB0.out.size)).trans (hb4.mono (by have := HB0.out.size; have := hb3.size; omega)))
  clear hcell hc hb3 hb4 hthru
  go_wp2_with (go_at_call 18; refine HD.out.mono ?_; rintro e w5 ⟨rfl, hb5⟩)
  go_ret
  exact ⟨rfl, HB4.out.trans (hb5.mono HB4.out.size)⟩
end Go.Proofs.Ytpohhgbmdgjipaa
