
/- The calendar's small functions, the program's and the document's: leap years, the days of a month, the first day of a year. -/
import Derived.Test.YtogpjoldfcmbfaaDoorArith
import Derived.Test.YtogpjoldfcmbfaaDoorYMth
namespace Go.Proofs.YtogpjoldfcmbfaaDoor
open Go.RowKit
open Cal
set_option linter.unusedVariables false

/-- The table of the months' days, as it lies in memory. -/
def lenCells : Array Value := #[.int .i64 31, .int .i64 28, .int .i64 31, .int .i64 30, .int .i64 31, .int .i64 30, .int .i64 31, .int .i64 31, .int .i64 30, .int .i64 31, .int .i64 30, .int .i64 31]
def tabL : Nat → Int
  | 0 => 31 | 1 => 28 | 2 => 31 | 3 => 30 | 4 => 31 | 5 => 30 | 6 => 31 | 7 => 31 | 8 => 30 | 9 => 31 | 10 => 30 | _ => 31
def Lens (w : World) : Prop := ∃ t fr, w.heap[0]? = some (.cells lenCells t fr)
theorem Lens.size {w : World} (h : Lens w) : 0 < w.heap.size := by
  obtain ⟨t, fr, h⟩ := h
  by_cases hz : 0 < w.heap.size
  · exact hz
  · rw [Array.getElem?_eq_none (by omega)] at h; cases h
theorem Lens.below {w w' : World} (h : Lens w) (b : Below w.heap.size w w') : Lens w' := by
  have hz := h.size
  obtain ⟨t, fr, h⟩ := h
  exact ⟨t, fr, by rw [b.block _ hz]; exact h⟩
theorem Lens.cell {w : World} (h : Lens w) (k : Nat) (hk : k < 12) : w.cell? ⟨0, k, none⟩ = some (.int .i64 (tabL k)) := by
  obtain ⟨t, fr, h⟩ := h
  have e : ∀ k, k < 12 → lenCells[k]? = some (.int .i64 (tabL k)) := by
    intro k hk
    have : k = 0 ∨ k = 1 ∨ k = 2 ∨ k = 3 ∨ k = 4 ∨ k = 5 ∨ k = 6 ∨ k = 7 ∨ k = 8 ∨ k = 9 ∨ k = 10 ∨ k = 11 := by omega
    rcases this with rfl | rfl | rfl | rfl | rfl | rfl | rfl | rfl | rfl | rfl | rfl | rfl <;> rfl
  unfold World.cell?
  simp only [h]
  exact e k hk
theorem tab_range (k : Nat) : 28 ≤ tabL k ∧ tabL k ≤ 31 := by unfold tabL; split <;> omega
theorem tab_len (y : Int) (k : Nat) (hk : k < 12) : lenD y ((k : Int) + 1) = if k = 1 ∧ leapB y = true then tabL k + 1 else tabL k := by
  have : k = 0 ∨ k = 1 ∨ k = 2 ∨ k = 3 ∨ k = 4 ∨ k = 5 ∨ k = 6 ∨ k = 7 ∨ k = 8 ∨ k = 9 ∨ k = 10 ∨ k = 11 := by omega
  rcases this with rfl | rfl | rfl | rfl | rfl | rfl | rfl | rfl | rfl | rfl | rfl | rfl
  · rfl
  · show lenD y 2 = _
    unfold lenD; rw [if_neg (by omega), if_pos rfl]
    cases leapB y <;> rfl
  all_goals rfl

set_option maxHeartbeats 1000000 in
theorem leap_any (y : Int) (w : World) :
    Calls Tryd.prog 12 #[.int .i64 y] w fun e w' => e = .returned (.bool (leapB y)) ∧ w = w' := by
  by_cases h1 : 1 ≤ y
  · by_cases h2 : y ≤ 9999
    · obtain ⟨b1, e1⟩ : ∃ b, decide (y % 4 = 0) = b := ⟨_, rfl⟩
      obtain ⟨b2, e2⟩ : ∃ b, decide (y % 100 = 0) = b := ⟨_, rfl⟩
      obtain ⟨b3, e3⟩ : ∃ b, decide (y % 400 = 0) = b := ⟨_, rfl⟩
      have HR : Hid (leapB y = (b1 && (!b2 || b3))) := by
        show _ = _
        unfold leapB; rw [e1, e2, e3]; simp [h1, h2]
      have t1 : y.tmod 4 = y % 4 := Int.tmod_eq_emod_of_nonneg (by omega)
      have t2 : y.tmod 100 = y % 100 := Int.tmod_eq_emod_of_nonneg (by omega)
      have t3 : y.tmod 400 = y % 400 := Int.tmod_eq_emod_of_nonneg (by omega)
      have f1 : (y % 4 == 0) = b1 := by rw [← e1]; exact (Bool.beq_eq_decide_eq _ _)
      have f2 : (y % 100 == 0) = b2 := by rw [← e2]; exact (Bool.beq_eq_decide_eq _ _)
      have f2' : (y % 100 != 0) = !b2 := by rw [← f2]; rfl
      have f3 : (y % 400 == 0) = b3 := by rw [← e3]; exact (Bool.beq_eq_decide_eq _ _)
      rw [HR.out]
      have r1 := Int.emod_nonneg y (show (4 : Int) ≠ 0 by omega)
      have r2 := Int.emod_nonneg y (show (100 : Int) ≠ 0 by omega)
      have r3 := Int.emod_nonneg y (show (400 : Int) ≠ 0 by omega)
      have s1 := Int.emod_lt_of_pos y (show (0 : Int) < 4 by omega)
      have s2 := Int.emod_lt_of_pos y (show (0 : Int) < 100 by omega)
      have s3 := Int.emod_lt_of_pos y (show (0 : Int) < 400 by omega)
      clear HR e1 e2 e3
      generalize y % 4 = q1 at *
      generalize y % 100 = q2 at *
      generalize y % 400 = q3 at *
      go_enter Tryd.func12, Tryd.ntmps12
      cases b1
      · go_wp2
        go_ret
        exact ⟨rfl, rfl⟩
      cases b2
      · go_wp2
        go_ret
        exact ⟨rfl, rfl⟩
      · go_wp2
        go_ret
        exact ⟨ret_bool (by simp), rfl⟩
    · have HR : Hid (leapB y = false) := by show _ = _; unfold leapB; simp [h2]
      rw [HR.out]
      go_enter Tryd.func12, Tryd.ntmps12
      go_wp2
      go_ret
      exact ⟨rfl, rfl⟩
  · have HR : Hid (leapB y = false) := by show _ = _; unfold leapB; simp [h1]
    rw [HR.out]
    go_enter Tryd.func12, Tryd.ntmps12
    go_wp2
    go_ret
    exact ⟨rfl, rfl⟩

set_option maxHeartbeats 1000000 in
theorem length_any (y : Int) (k : Nat) (w : World) (hw : Lens w) (hk : k < 12) :
    Calls Tryd.prog 26 #[.int .i64 y, .int .i64 ((k : Int) + 1)] w fun e w' => e = .returned (.int .i64 (lenD y ((k : Int) + 1))) ∧ w = w' := by
  have hc := hw.cell k hk
  have HT := Lib.hid (tab_len y k hk)
  obtain ⟨r1, r2⟩ := tab_range k
  have HL := Lib.hid (leap_any y w)
  generalize lenD y ((k : Int) + 1) = A at HT ⊢
  generalize tabL k = T at *
  obtain ⟨b, hb⟩ : ∃ b, leapB y = b := ⟨_, rfl⟩
  rw [hb] at HT HL
  clear hb hw
  by_cases h1 : k = 1
  · subst h1
    go_enter Tryd.func26, Tryd.ntmps26
    cases b
    · go_wp2_with (go_at_call 12; refine HL.out.mono ?_; rintro e w' ⟨rfl, rfl⟩)
      go_ret
      exact ⟨ret_int (by rw [HT.out]; simp), rfl⟩
    · go_wp2_with (go_at_call 12; refine HL.out.mono ?_; rintro e w' ⟨rfl, rfl⟩)
      go_ret
      exact ⟨ret_int (by rw [HT.out]; simp), rfl⟩
  · have HT2 : Hid (A = T) := by show _ = _; rw [HT.out, if_neg (by omega)]
    have h2 : ((k : Int) + 1 == 2) = false := by simp only [beq_eq_false_iff_ne]; omega
    have h3 : IntKind.i64.wrap ((k : Int) + 1 - 1) = (k : Int) := by rw [IntKind.wrap_i64]; omega
    clear HT h1
    go_enter Tryd.func26, Tryd.ntmps26
    go_wp2
    go_ret
    exact ⟨ret_int HT2.out.symm, rfl⟩
end Go.Proofs.YtogpjoldfcmbfaaDoor
