
/- Rotations of SHA-256: the program's and the document's. -/
import Derived.Test.YtidmcemcmalfnaaDoorSha
import Derived.Test.YtidmcemcmalfnaaDoorInts
namespace Go.Proofs.YtidmcemcmalfnaaDoor
open Go.RowKit
set_option linter.unusedVariables false

theorem neg_and (n : Int) (h1 : 1 ≤ n) (h2 : n ≤ 31) : bits .and .u64 (IntKind.u64.wrap (-n)) 31 = 32 - n := by
  rw [IntKind.wrap_u64, show (-n) % 18446744073709551616 = 18446744073709551616 - n by omega, u64_and _ _ (by omega) (by omega) (by omega) (by omega)]
  obtain ⟨k, rfl⟩ := Int.eq_ofNat_of_zero_le (show 0 ≤ n by omega)
  have e : (18446744073709551616 - (k : Int)).toNat &&& (31 : Int).toNat = (18446744073709551616 - k) % 2 ^ 5 := by
    rw [show (31 : Int).toNat = 2 ^ 5 - 1 from rfl, Nat.and_two_pow_sub_one_eq_mod]
    congr 1
    omega
  rw [e]
  omega
theorem rot32_any (x n : Int) (w : World) (h1 : 1 ≤ n) (h2 : n ≤ 31) :
    Calls Tryd.prog 44 #[.int .u32 x, .int .i64 (-n)] w fun e w' => e = .returned (.int .u32 (Sha.rr x n)) ∧ w = w' := by
  have h := neg_and n h1 h2
  have h3 : 32 - (32 - n) = n := by omega
  go_enter Tryd.func44, Tryd.ntmps44
  go_wp2
  go_ret
  refine ⟨?_, rfl⟩
  unfold Sha.rr
  rw [Sha.or_comm]
  rfl
theorem right_any (x n : Int) (w : World) (h1 : 1 ≤ n) (h2 : n ≤ 31) :
    Calls Tryd.prog 40 #[.int .u32 x, .int .i64 n] w fun e w' => e = .returned (.int .u32 (Sha.rr x n)) ∧ w = w' := by
  go_enter Tryd.func40, Tryd.ntmps40
  go_wp2
  go_ret
  exact ⟨rfl, rfl⟩

def rots (x : Int) (l : List Int) : Int := l.foldl (fun m n => bits .xor .u32 m (Sha.rr x n)) 0
theorem rots_succ (x : Int) (l : List Int) (k : Nat) (hk : k < l.length) : bits .xor .u32 (rots x (l.take k)) (Sha.rr x (l.getD k 0)) = rots x (l.take (k + 1)) := by
  unfold rots
  rw [List.take_add_one, List.foldl_append]
  simp [List.getElem?_eq_getElem hk]
theorem turned_any (x : Int) (s : Value) (l : List Int) (w : World) (hs : Ints w s l) (hl : ∀ n ∈ l, 1 ≤ n ∧ n ≤ 31) (hl2 : l.length ≤ 100) :
    Calls Tryd.prog 43 #[.int .u32 x, s] w fun e w' => e = .returned (.int .u32 (rots x l)) ∧ w = w' := by
  obtain ⟨a, c, rfl, hlen, hcell⟩ := hs
  have HC := Lib.hid hcell
  have HL := Lib.hid hl
  clear hcell hl
  go_enter Tryd.func43, Tryd.ntmps43
  go_wp2
  go_loop [5, 7, 10] (fun m _ i => ∃ k : Nat, k ≤ l.length ∧ m = .int .u32 (rots x (l.take k)) ∧ i = .int .i64 k) (fun _ _ i => l.length - (intOf i).toNat)
  case atStart => exact ⟨0, by omega, rfl, rfl⟩
  case round =>
    obtain ⟨k, hk, rfl, rfl⟩ := hrel
    by_cases hlt : k < l.length
    · obtain ⟨b, off, rfl, hc⟩ := HC.out (fun e => by subst e; simp at hlt)
      have hc' := hc k hlt
      clear hc
      have hm : l.getD k 0 ∈ l := by
        rw [List.getD_eq_getElem?_getD, List.getElem?_eq_getElem hlt]
        exact List.getElem_mem hlt
      have hn := HL.out _ hm
      have hr := Lib.hid (rots_succ x l k hlt)
      have hnw : IntKind.i64.wrap (-(l.getD k 0)) = -(l.getD k 0) := by rw [IntKind.wrap_i64]; omega
      clear hm
      generalize l.getD k 0 = n at *
      generalize rots x (l.take k) = m at *
      go_wp2_with (go_at_call 44; refine (rot32_any x n _ hn.1 hn.2).mono ?_; rintro e w' ⟨rfl, rfl⟩)
      go_round
      case rel => exact ⟨k + 1, by omega, by rw [← hr.out], by go_num⟩
      case measure => simp [intOf]; omega
    · obtain rfl : k = l.length := by omega
      have hr : Hid (rots x (l.take l.length) = rots x l) := by rw [List.take_length]; exact Lib.hid rfl
      generalize rots x (l.take l.length) = m at *
      go_wp2
      go_ret
      exact ⟨by rw [← hr.out]; rfl, rfl⟩
theorem turned3 (x a b c : Int) (g : Nat) (w : World) (h : w.heap[g]? = some (.cells #[.int .i64 a, .int .i64 b, .int .i64 c] 3 (0, 0))) (ha : 1 ≤ a ∧ a ≤ 31) (hb : 1 ≤ b ∧ b ≤ 31) (hc : 1 ≤ c ∧ c ≤ 31) :
    Calls Tryd.prog 43 #[.int .u32 x, .slice (some ⟨g, 0, none⟩) 3 3] w fun e w' => e = .returned (.int .u32 (Sha.xr (Sha.xr (Sha.rr x a) (Sha.rr x b)) (Sha.rr x c))) ∧ w = w' := by
  refine (turned_any x _ [a, b, c] w ⟨_, _, rfl, by simp, fun _ => ⟨g, 0, rfl, fun i hi => ?_⟩⟩ (fun n hn => ?_) (by simp)).mono ?_
  · have : i = 0 ∨ i = 1 ∨ i = 2 := by simp at hi; omega
    rcases this with rfl | rfl | rfl <;> simp [World.cell?, h]
  · simp at hn; rcases hn with rfl | rfl | rfl <;> assumption
  · rintro e w' ⟨rfl, rfl⟩
    refine ⟨?_, rfl⟩
    have := Sha.xr_zero (Sha.in_rr x a)
    unfold Sha.xr at *
    simp [rots, this]
theorem turned2 (x a b : Int) (g : Nat) (w : World) (h : w.heap[g]? = some (.cells #[.int .i64 a, .int .i64 b] 3 (0, 0))) (ha : 1 ≤ a ∧ a ≤ 31) (hb : 1 ≤ b ∧ b ≤ 31) :
    Calls Tryd.prog 43 #[.int .u32 x, .slice (some ⟨g, 0, none⟩) 2 2] w fun e w' => e = .returned (.int .u32 (Sha.xr (Sha.rr x a) (Sha.rr x b))) ∧ w = w' := by
  refine (turned_any x _ [a, b] w ⟨_, _, rfl, by simp, fun _ => ⟨g, 0, rfl, fun i hi => ?_⟩⟩ (fun n hn => ?_) (by simp)).mono ?_
  · have : i = 0 ∨ i = 1 := by simp at hi; omega
    rcases this with rfl | rfl <;> simp [World.cell?, h]
  · simp at hn; rcases hn with rfl | rfl <;> assumption
  · rintro e w' ⟨rfl, rfl⟩
    refine ⟨?_, rfl⟩
    have := Sha.xr_zero (Sha.in_rr x a)
    unfold Sha.xr at *
    simp [rots, this]
end Go.Proofs.YtidmcemcmalfnaaDoor
