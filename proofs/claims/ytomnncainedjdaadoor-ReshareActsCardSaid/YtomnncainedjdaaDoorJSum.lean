
/- The program's package refresh: Sum. -/
import Derived.Test.YtomnncainedjdaaDoorJPr4
namespace Go.Proofs.YtomnncainedjdaaDoor
open Go.RowKit Go.Sort
open Num
set_option linter.unusedVariables false

/-- A list of lists of shares that a slice reads as. -/
def ListsS (w : World) (s : Value) (LL : List (List Shr)) : Prop := ∃ a c, s = .slice a LL.length c ∧ LL.length ≤ 1000 ∧ LL.length ≤ c ∧ c ≤ 9223372036854775807 ∧ (LL ≠ [] → ∃ b off, a = some ⟨b, off, none⟩ ∧
  ∀ i, i < LL.length → ∃ v, w.cell? ⟨b, off + i, none⟩ = some v ∧ Shares w v (LL.getD i []))
theorem ListsS.below {w w' : World} {s : Value} {LL : List (List Shr)} (h : ListsS w s LL) {B : Nat} (hB : w.heap.size ≤ B) (b : Below B w w') : ListsS w' s LL := by
  obtain ⟨a, c, rfl, h1, h2, h3, h4⟩ := h
  refine ⟨a, c, rfl, h1, h2, h3, fun hl => ?_⟩
  obtain ⟨b', off, rfl, hc⟩ := h4 hl
  refine ⟨b', off, rfl, fun i hi => ?_⟩
  obtain ⟨v, c1, c2⟩ := hc i hi
  have hlt := cell_lt c1
  exact ⟨v, by rw [b.cell (p := ⟨b', off + i, none⟩) (by show b' < B; exact Nat.lt_of_lt_of_le hlt hB)]; exact c1, c2.below hB b⟩
theorem ListsS.at {w : World} {a : Option Addr} {n c : Nat} {LL : List (List Shr)} (h : ListsS w (.slice a n c) LL) {i : Nat} (hi : i < n) : ∃ b off v, a = some ⟨b, off, none⟩ ∧ w.cell? ⟨b, off + i, none⟩ = some v ∧ Shares w v (LL.getD i []) := by
  obtain ⟨a', c', hv, _, _, _, hx⟩ := h
  simp only [Value.slice.injEq] at hv
  obtain ⟨rfl, rfl, rfl⟩ := hv
  obtain ⟨b, off, rfl, hc⟩ := hx (fun e => by subst e; simp at hi)
  obtain ⟨v, h1, h2⟩ := hc i hi
  exact ⟨b, off, v, rfl, h1, h2⟩
theorem sumGo_step {p k n : Int} {M Z : List Shr} {r : List (List Shr)} (h : apE p k n M Z = 0) : sumGo p k n M (Z :: r) = sumGo p k n (apR p k n M Z) r := by
  unfold apR
  rw [if_pos h]
  show (if apE p k n M Z = 0 then _ else _) = _
  rw [if_pos h]
theorem sumGo_stop {p k n : Int} {M Z : List Shr} {r : List (List Shr)} (h : apE p k n M Z ≠ 0) : sumGo p k n M (Z :: r) = (apE p k n M Z, []) := by
  show (if apE p k n M Z = 0 then _ else _) = _
  rw [if_neg h]
theorem drop_getD {LL : List (List Shr)} {j : Nat} (h : j < LL.length) : LL.drop j = LL.getD j [] :: LL.drop (j + 1) := by
  rw [List.drop_eq_getElem_cons h]
  simp [List.getD, h]
/-- What Sum keeps in memory. -/
structure SuW (w0 W : World) (g : Nat) (p k n : Int) (v : Value) (LL : List (List Shr)) : Prop where
  pl : PlanAt W g p k n
  ls : ListsS W v LL
  be : Below g w0 W
  wh : Wheel W
  ta : 0 < g
theorem SuW.below {w0 W W' : World} {g : Nat} {p k n : Int} {v : Value} {LL : List (List Shr)} (h : SuW w0 W g p k n v LL) (b : Below W.heap.size W W') : SuW w0 W' g p k n v LL := by
  have h1 := h.pl.lt
  have h3 := h.ta
  exact ⟨h.pl.below h1 b, h.ls.below (Nat.le_refl _) b, h.be.trans (b.mono (by omega)), h.wh.below (by omega) b, h.ta⟩
end Go.Proofs.YtomnncainedjdaaDoor
