
/- Slices of integers that are read; contracts of Elements, Same and the place of a list. -/
import Derived.Test.YtadhmmklhhaagaaDoorValid
namespace Go.Proofs.YtadhmmklhhaagaaDoor
open Go.RowKit
open Num
set_option linter.unusedVariables false

theorem cell_lt {w : World} {a : Addr} {v : Value} (h : w.cell? a = some v) : a.block < w.heap.size := by
  by_cases hz : a.block < w.heap.size
  · exact hz
  · exfalso
    unfold World.cell? at h
    rw [Array.getElem?_eq_none (by omega)] at h
    simp at h
theorem getD_at {l : List Int} {k : Nat} (h : k < l.length) : l.getD k 0 = l[k] := by simp [List.getD, h]

/-- A slice that reads as a list of integers. -/
def Ints (w : World) (s : Value) (l : List Int) : Prop :=
  ∃ a c, s = .slice a l.length c ∧ l.length ≤ 140737488355328 ∧
    (l ≠ [] → ∃ b off, a = some ⟨b, off, none⟩ ∧ ∀ i, i < l.length → w.cell? ⟨b, off + i, none⟩ = some (.int .i64 (l.getD i 0)))

theorem Ints.below {w w' : World} {s : Value} {l : List Int} (h : Ints w s l) {B : Nat} (hB : w.heap.size ≤ B) (b : Below B w w') : Ints w' s l := by
  obtain ⟨a, c, h1, h2, h3⟩ := h
  refine ⟨a, c, h1, h2, fun hl => ?_⟩
  obtain ⟨b', off, ha, hc⟩ := h3 hl
  refine ⟨b', off, ha, fun i hi => ?_⟩
  have h := hc i hi
  have hlt : b' < w.heap.size := cell_lt h
  rw [b.cell (p := ⟨b', off + i, none⟩) (by show b' < B; omega)]
  exact h
theorem ints_nil (w : World) : Ints w (.slice none 0 0) [] := ⟨none, 0, rfl, by simp, fun h => absurd rfl h⟩

def okB (p n : Int) : Bool := decide (0 ≤ n) && decide (n < p)
noncomputable def elB (p : Int) (l : List Int) : Bool := l.all (okB p) && vB p
theorem elB_bad {p : Int} {l : List Int} {k : Nat} (hk : k < l.length) (h : ¬ (0 ≤ l.getD k 0 ∧ l.getD k 0 < p)) : elB p l = false := by
  unfold elB
  have h1 : l.all (okB p) = false := by
    rw [List.all_eq_false]
    refine ⟨l[k], List.getElem_mem hk, ?_⟩
    rw [getD_at hk] at h
    unfold okB
    simp
    omega
  rw [h1]; rfl
theorem elB_good {p : Int} {l : List Int} (h : ∀ k, k < l.length → 0 ≤ l.getD k 0 ∧ l.getD k 0 < p) : elB p l = vB p := by
  unfold elB
  have h1 : l.all (okB p) = true := by
    rw [List.all_eq_true]
    intro x hx
    obtain ⟨k, hk, rfl⟩ := List.mem_iff_getElem.1 hx
    have := h k hk
    rw [getD_at hk] at this
    unfold okB
    simp
    omega
  rw [h1, Bool.true_and]

end Go.Proofs.YtadhmmklhhaagaaDoor
