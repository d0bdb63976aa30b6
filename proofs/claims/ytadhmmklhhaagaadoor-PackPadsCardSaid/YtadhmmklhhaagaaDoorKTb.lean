
/- The two tables that the program's package pack reads: the wheel of field, and the powers of 256. -/
import Derived.Test.YtadhmmklhhaagaaDoorValid
namespace Go.Proofs.YtadhmmklhhaagaaDoor
open Go.RowKit
set_option linter.unusedVariables false

/-- The powers of 256, as they lie in memory. -/
def powCells : Array Value := #[.int .i64 256, .int .i64 65536, .int .i64 16777216]
def Pows (w : World) : Prop := ∃ t fr, w.heap[0]? = some (.cells powCells t fr)
/-- Both tables hold what their initialisers lay. -/
structure Tb (w : World) : Prop where
  whl : Wheel w
  pow : Pows w
theorem Tb.size {w : World} (h : Tb w) : max 1 0 < w.heap.size := by
  have h1 := h.whl.size
  obtain ⟨t, fr, h⟩ := h.pow
  by_cases hz : 0 < w.heap.size
  · omega
  · rw [Array.getElem?_eq_none (by omega)] at h; cases h
theorem Tb.below {w w' : World} (h : Tb w) {B : Nat} (hB : max 1 0 < B) (b : Below B w w') : Tb w' := by
  refine ⟨h.whl.below (by omega) b, ?_⟩
  obtain ⟨t, fr, h⟩ := h.pow
  exact ⟨t, fr, by rw [b.block _ (by omega)]; exact h⟩
def pw3 : Nat → Int
  | 0 => 256 | 1 => 65536 | _ => 16777216
theorem Tb.cell {w : World} (h : Tb w) {k : Nat} (hk : k < 3) : w.cell? ⟨0, k, none⟩ = some (.int .i64 (pw3 k)) := by
  obtain ⟨t, fr, h⟩ := h.pow
  have h3 : k = 0 ∨ k = 1 ∨ k = 2 := by omega
  rcases h3 with rfl | rfl | rfl <;> simp [World.cell?, h, powCells, pw3]
end Go.Proofs.YtadhmmklhhaagaaDoor
