
/- Sums of pairs and lists: the program's Pair and List. -/
import Derived.Test.YtkpdjeiocdppoaaSTxt
namespace Go.Proofs.Ytkpdjeiocdppoaa
open Go.RowKit
set_option linter.unusedVariables false

/-- A slice that reads as a list of strings. -/
def Strs (w : World) (s : Value) (l : List ByteArray) : Prop :=
  ∃ a c, s = .slice a l.length c ∧ l.length ≤ 140737488355328 ∧ (∀ x ∈ l, x.size ≤ 140737488355328) ∧
    (l ≠ [] → ∃ b off, a = some ⟨b, off, none⟩ ∧ ∀ i, i < l.length → w.cell? ⟨b, off + i, none⟩ = some (.string (l.getD i ByteArray.empty)))
theorem Strs.below {w w' : World} {s : Value} {l : List ByteArray} (h : Strs w s l) {B : Nat} (hB : w.heap.size ≤ B) (b : Below B w w') : Strs w' s l := by
  obtain ⟨a, c, h1, h2, h3, h4⟩ := h
  refine ⟨a, c, h1, h2, h3, fun hl => ?_⟩
  obtain ⟨b', off, ha, hc⟩ := h4 hl
  refine ⟨b', off, ha, fun i hi => ?_⟩
  have h := hc i hi
  have hlt : b' < w.heap.size := cell_lt h
  rw [b.cell (p := ⟨b', off + i, none⟩) (by show b' < B; omega)]
  exact h
theorem Strs.at {w : World} {a : Option Addr} {n c : Nat} {l : List ByteArray} (h : Strs w (.slice a n c) l) {k : Nat} (hk : k < n) : ∃ b off, a = some ⟨b, off, none⟩ ∧ w.cell? ⟨b, off + k, none⟩ = some (.string (l.getD k ByteArray.empty)) := by
  obtain ⟨a', c', hv, _, _, hc⟩ := h
  simp only [Value.slice.injEq] at hv
  obtain ⟨rfl, rfl, _⟩ := hv
  obtain ⟨b, off, ha, hx⟩ := hc (fun e => by subst e; simp at hk)
  exact ⟨b, off, ha, hx k hk⟩
/-- The texts of a list, each behind its length. -/
def txts (l : List ByteArray) : List UInt8 := l.flatMap fun s => txt s.data.toList
theorem txts_next (l : List ByteArray) (k : Nat) (hk : k < l.length) : txts (l.take k) ++ txt (l.getD k ByteArray.empty).data.toList = txts (l.take (k + 1)) := by
  unfold txts
  rw [List.take_add_one, List.flatMap_append, List.getElem?_eq_getElem hk]
  simp [List.getElem?_eq_getElem hk]
theorem txts_len (l : List ByteArray) (h : ∀ x ∈ l, x.size ≤ 3000) : (txts l).length ≤ 4000 * l.length := by
  induction l with
  | nil => simp [txts]
  | cons x r ih =>
    have h1 := ih (fun y hy => h y (List.mem_cons_of_mem _ hy))
    have h2 := h x (List.mem_cons_self ..)
    unfold txts at h1 ⊢
    rw [List.flatMap_cons, List.length_append, txt_len, ← Lib.size_eq, List.length_cons]
    omega

end Go.Proofs.Ytkpdjeiocdppoaa
