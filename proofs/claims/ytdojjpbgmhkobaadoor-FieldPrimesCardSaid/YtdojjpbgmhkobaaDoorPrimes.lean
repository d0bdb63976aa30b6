/- The walk of FieldPrimes. -/
import Derived.Test.YtdojjpbgmhkobaaDoorLawA
namespace Go.Proofs.YtdojjpbgmhkobaaDoor
open Go.RowKit
open Num
set_option linter.unusedVariables false

def q4 (p : Int) : Nat → Int
  | 0 => p | 1 => p % 3000 | 2 => p % 1073741834 | _ => 1073741824 + p % 4 - 2
theorem q4_wf (p : Int) (h : (Lit.int .i64 p).wf = true) (k : Nat) : (Lit.int .i64 (q4 p k)).wf = true := by
  unfold q4
  split
  · exact h
  · exact wf64 (by omega) (by omega)
  · exact wf64 (by omega) (by omega)
  · exact wf64 (by omega) (by omega)

set_option maxHeartbeats 1000000 in
theorem fieldPrimes_walk (p : Int) (s : Value) (l : List Int) (w : World) (hw : Wheel w) (wp : (Lit.int .i64 p).wf = true) (hs : Ints w s l) :
    Calls Tryd.prog 4 #[.int .i64 p, s] w fun e w' => e = .returned (.bool true) ∧ Below w.heap.size w w' := by
  by_cases hl : (l.length : Int) ≤ 50
  · have hs' := hs
    obtain ⟨a, c, rfl, hlen, _⟩ := hs'
    have g1 := Int.emod_nonneg p (show (3000 : Int) ≠ 0 by omega)
    have g2 := Int.emod_lt_of_pos p (show (0 : Int) < 3000 by omega)
    have g3 := Int.emod_nonneg p (show (1073741834 : Int) ≠ 0 by omega)
    have g4 := Int.emod_lt_of_pos p (show (0 : Int) < 1073741834 by omega)
    have g5 := Int.emod_nonneg p (show (4 : Int) ≠ 0 by omega)
    have g6 := Int.emod_lt_of_pos p (show (0 : Int) < 4 by omega)
    go_enter Tryd.func4, Tryd.ntmps4
    go_wp2_with (go_at_call 31; refine (mod_any _ _ _ (by omega) (by omega)).mono ?_; rintro e w' ⟨rfl, rfl⟩)
    have hc : ∀ k, k < 4 → (w.alloc (.cells #[.int .i64 p, .int .i64 (p % 3000), .int .i64 (p % 1073741834), .int .i64 (1073741824 + p % 4 - 2)] 3)).cell? ⟨w.heap.size, k, none⟩ = some (.int .i64 (q4 p k)) := fun k hk => by
      rw [cell_new]
      have : k = 0 ∨ k = 1 ∨ k = 2 ∨ k = 3 := by omega
      rcases this with rfl | rfl | rfl | rfl <;> rfl
    have hbel : Below w.heap.size w (w.alloc (.cells #[.int .i64 p, .int .i64 (p % 3000), .int .i64 (p % 1073741834), .int .i64 (1073741824 + p % 4 - 2)] 3)) := (Below.refl _ _).alloc (Nat.le_refl _) _
    have hw2 := start_wheel hw hbel
    have hs2 := hs.below (Nat.le_refl _) hbel
    have HB := Lib.hid hbel
    clear hbel hs hw
    generalize w.alloc (.cells #[.int .i64 p, .int .i64 (p % 3000), .int .i64 (p % 1073741834), .int .i64 (1073741824 + p % 4 - 2)] 3) = w2 at *
    go_loop [6, 22] (fun _ i => ∃ k : Nat, k ≤ 4 ∧ i = .int .i64 k) (fun _ i => 4 - (intOf i).toNat)
    case atStart => exact ⟨0, by omega, rfl⟩
    case round =>
      obtain ⟨k, hk, rfl⟩ := hrel
      by_cases hlt : k < 4
      · have hx := hc k hlt
        have wq := q4_wf p wp k
        clear hc g1 g2 g3 g4 g5 g6
        generalize q4 p k = q at *
        go_wp2_with (first
          | (go_at_call 32; refine (valid_any _ _ hw2 wq).mono ?_; rintro e w' ⟨rfl, rfl⟩)
          | (go_at_call 33; refine (ref_valid _ _ wq).mono ?_; rintro e w' ⟨rfl, rfl⟩)
          | (go_at_call 26; refine (elements_any _ _ _ _ hw2 wq hs2).mono ?_; rintro e w' ⟨rfl, rfl⟩)
          | (go_at_call 27; refine (ref_elements _ _ _ _ wq hs2).mono ?_; rintro e w' ⟨rfl, rfl⟩))
        go_round
        case rel => exact ⟨k + 1, by omega, by go_num⟩
        case measure => simp [intOf]; omega
      · clear hc
        go_wp2_with (go_at_call 9; refine (awake_any _ hw2).mono ?_; rintro e w' ⟨rfl, rfl⟩)
        go_ret
        exact ⟨rfl, HB.out⟩
  · obtain ⟨a, c, rfl, hlen, hcell⟩ := hs
    clear hcell
    go_enter Tryd.func4, Tryd.ntmps4
    go_wp2_with (go_at_call 9; refine (awake_any _ hw).mono ?_; rintro e w' ⟨rfl, rfl⟩)
    go_ret
    exact ⟨rfl, Below.refl _ _⟩
end Go.Proofs.YtdojjpbgmhkobaaDoor
