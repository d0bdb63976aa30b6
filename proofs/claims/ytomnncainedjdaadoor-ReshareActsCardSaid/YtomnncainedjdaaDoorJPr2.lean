
/- The program's package refresh: good, ofAll, the search for a holder. -/
import Derived.Test.YtomnncainedjdaaDoorJMth
import Derived.Test.YtomnncainedjdaaDoorHPk
import Derived.Deep.RegionHeld3
/-! The program's package refresh: good, ofAll, the search for a holder. -/
namespace Go.Proofs.YtomnncainedjdaaDoor
open Go.RowKit Go.Sort
open Num
set_option linter.unusedVariables false

/-- Whether a plan is valid and a list good. -/
noncomputable def gdB (p k n : Int) (L : List Shr) : Bool := planB p k n && goodB p n L
theorem gdB_and {p k n : Int} {L : List Shr} : gdB p k n L = true ↔ planB p k n = true ∧ goodB p n L = true := by unfold gdB; rw [Bool.and_eq_true]
theorem combE_gd (p k n : Int) (L : List Shr) : (combE p k n L != 1) = gdB p k n L := by
  cases h : gdB p k n L with
  | true =>
    have h2 := gdB_and.1 h
    have : combE p k n L ≠ 1 := by
      unfold combE
      rw [if_pos h2]
      split <;> omega
    simpa using this
  | false =>
    have h2 : ¬ (planB p k n = true ∧ goodB p n L = true) := fun e => by rw [gdB_and.2 e] at h; cases h
    have : combE p k n L = 1 := by unfold combE; rw [if_neg h2]
    simp [this]
/-- The place of a holder's share, or -1. -/
def IdxR (Z : List Shr) (h r : Int) : Prop := (∃ i : Nat, i < Z.length ∧ r = (i : Int) ∧ (Z.getD i (0, [])).1 = h) ∨ (r = -1 ∧ hasB Z h = false)
theorem hasB_none {Z : List Shr} {h : Int} (hn : ∀ j, j < Z.length → (Z.getD j (0, [])).1 ≠ h) : hasB Z h = false := by
  unfold hasB
  refine List.any_eq_false.2 fun z hz e => ?_
  obtain ⟨j, hj, rfl⟩ := List.mem_iff_getElem.1 hz
  have := hn j hj
  rw [getS_at hj] at this
  exact this (by simpa using e)
theorem IdxR.neg {Z : List Shr} {h r : Int} (x : IdxR Z h r) : decide (r < 0) = !hasB Z h := by
  rcases x with ⟨i, hi, rfl, e⟩ | ⟨rfl, e⟩
  · have : hasB Z h = true := by rw [← e, getS_at hi]; exact hasB_at (List.getElem_mem _)
    rw [this]; simp
  · rw [e]; rfl
end Go.Proofs.YtomnncainedjdaaDoor
/-! The program's package refresh: rows of shares in the making; copies. -/
namespace Go.Proofs.YtomnncainedjdaaDoor
open Go.RowKit Go.Sort
open Num
set_option linter.unusedVariables false

/-- A row of n shares in block q that is being written: what place i reads as. -/
structure PutS (W : World) (g q n : Nat) (Z : Nat → Int × Value) (f : Nat → Shr) : Prop where
  row : RowS W q n Z
  val : ∀ i, i < n → (Z i).1 = (f i).1 ∧ Ints W (Z i).2 (f i).2 ∧ ∀ b, (Z i).2.ownBlock = some b → g ≤ b ∧ b ≠ q
  lo : g ≤ q
  lt : q < W.heap.size
theorem PutS.below {W W' : World} {g q n : Nat} {Z : Nat → Int × Value} {f : Nat → Shr} (h : PutS W g q n Z f) (b : Below W.heap.size W W') : PutS W' g q n Z f :=
  ⟨h.row.of_block (b.block q h.lt), fun i hi => ⟨(h.val i hi).1, (h.val i hi).2.1.below (Nat.le_refl _) b, (h.val i hi).2.2⟩, h.lo, Nat.lt_of_lt_of_le h.lt b.size⟩
theorem PutS.congr {W : World} {g q n : Nat} {Z : Nat → Int × Value} {f f' : Nat → Shr} (h : PutS W g q n Z f) (e : ∀ i, i < n → f i = f' i) : PutS W g q n Z f' :=
  ⟨h.row, fun i hi => by rw [← e i hi]; exact h.val i hi, h.lo, h.lt⟩
theorem putS_start (w : World) (g N : Nat) (t : TypeId) (hg : g ≤ w.heap.size) : PutS (w.alloc (.cells (madeCells #[.int .i64 0, .slice none 0 0] (N * 2)) t)) g w.heap.size N (fun _ => (0, .slice none 0 0)) (fun _ => (0, [])) := by
  have h := (made_start w g N 0 (fun _ => 0) (fun _ _ => 0) t hg).row
  simp only [Nat.not_lt_zero, if_false] at h
  exact ⟨h, fun i hi => ⟨rfl, ints_zero _ _ _, fun b hb => by simp [Value.ownBlock] at hb⟩, hg, by simp⟩
theorem PutS.put {W : World} {g q n : Nat} {Z : Nat → Int × Value} {f : Nat → Shr} (h : PutS W g q n Z f) {i : Nat} (hi : i < n) (x : Int) {v : Value} {l : List Int} (hv : Ints W v l) (hb : ∀ b, v.ownBlock = some b → g ≤ b ∧ b ≠ q) :
    PutS ((W.setCell ⟨q, i * 2, none⟩ (.int .i64 x)).setCell ⟨q, i * 2 + 1, none⟩ v) g q n (fun j => if j = i then (x, v) else Z j) (fun j => if j = i then (x, l) else f j) := by
  have hbut : But q W ((W.setCell ⟨q, i * 2, none⟩ (.int .i64 x)).setCell ⟨q, i * 2 + 1, none⟩ v) := (But.set W ⟨q, i * 2, none⟩ _).trans (But.set _ ⟨q, i * 2 + 1, none⟩ _)
  have hr := h.row.store hi (x, v)
  refine ⟨hr, fun j hj => ?_, h.lo, Nat.lt_of_lt_of_le h.lt hbut.size⟩
  by_cases e : j = i
  · simp only [if_pos e]
    exact ⟨trivial, hv.but hbut (fun b h2 => (hb b h2).2), hb⟩
  · simp only [if_neg e]
    have hh := h.val j hj
    exact ⟨hh.1, hh.2.1.but hbut (fun b h2 => (hh.2.2 b h2).2), hh.2.2⟩
theorem PutS.shares {W : World} {g q n : Nat} {Z : Nat → Int × Value} {f : Nat → Shr} {L : List Shr} (h : PutS W g q n Z f) (hl : L.length = n) (hn : n ≤ 1000) (e : ∀ i, i < n → L.getD i (0, []) = f i) : SharesN W g (.slice (some ⟨q, 0, none⟩) n n) L := by
  subst hl
  refine ⟨_, _, rfl, hn, Nat.le_refl _, by omega, fun _ => ⟨q, 0, rfl, h.lo, fun i hi => ?_⟩⟩
  obtain ⟨k0, k1, _, _⟩ := h.row i hi
  obtain ⟨e1, e2, e3⟩ := h.val i hi
  rw [Nat.zero_add, e i hi]
  exact ⟨_, by rw [← e1]; exact k0, k1, e2, fun b hb => (e3 b hb).1⟩
/-- The first j shares of a list, and then none. -/
def toL (L : List Shr) (j i : Nat) : Shr := if i < j then L.getD i (0, []) else (0, [])
theorem toL_zero (L : List Shr) (i : Nat) : ((0, []) : Shr) = toL L 0 i := by unfold toL; rw [if_neg (by omega)]
theorem toL_step {L : List Shr} {j : Nat} {s : Shr} (h : L.getD j (0, []) = s) (i : Nat) : (if i = j then s else toL L j i) = toL L (j + 1) i := by
  unfold toL
  by_cases e : i = j
  · subst e; rw [if_pos rfl, if_pos (by omega), h]
  · rw [if_neg e]
    by_cases e2 : i < j
    · rw [if_pos e2, if_pos (by omega)]
    · rw [if_neg e2, if_neg (by omega)]
theorem toL_all {L : List Shr} {n i : Nat} (hi : i < n) : L.getD i (0, []) = toL L n i := by unfold toL; rw [if_pos hi]
end Go.Proofs.YtomnncainedjdaaDoor
