
/- The words of a block: the program's schedule. -/
import Derived.Test.YtogpjoldfcmbfaaDoorSRot
import Derived.Test.YtogpjoldfcmbfaaDoorArith
import Derived.Deep.OwnRows
import Derived.Test.YtogpjoldfcmbfaaDoorThru
namespace Go.Proofs.YtogpjoldfcmbfaaDoor
open Go.RowKit
set_option linter.unusedVariables false

theorem results_cell {P : Program} {fn : Func} {p : Tmp} {ty : TypeId} (h : fn.results = #[.cell p ty]) (tmps : Array Value) (w : World) :
    (results fn tmps).run P w = ((asAddr (tmps.getD p undef)).run P w).andThen fun a w₁ => (loadVar ty a).run P w₁ := by
  simp only [results, h]
  simp [Sem.run_bind, Result.andThen]
  try (cases ((asAddr (tmps.getD p undef)).run P w) <;> simp)
theorem below_setRow {B : Nat} {w w' : World} (h : Below B w w') {g : Nat} (hg : B ≤ g) (c : Array Value) : Below B w (w'.setRow g c) :=
  ⟨h.os, h.tape, h.output, by simp [World.setRow]; exact h.size, fun k hk => by
    rw [← h.block k hk]
    simp only [World.setRow, Array.getElem?_modify]
    rw [if_neg (by omega)]⟩
def zeros64 : Array Value := Array.replicate 64 (.int .u32 0)
theorem rowIs_zeros (w : World) (c : Array Value) (t : TypeId) (h : c = zeros64) : (w.alloc (.cells c t)).rowIs w.heap.size t 64 (fun _ => .int .u32 0) := by
  subst h
  exact World.rowIs_alloc w zeros64 t _ (fun i hi => by
    have hi' : i < 64 := by simpa [zeros64] using hi
    simp [zeros64, hi'])
def row1 (l : List UInt8) (k j : Nat) : Value := .int .u32 (Sha.pw l k j)
theorem row1_step (l : List UInt8) (k j : Nat) : (if j = k / 4 then Value.int .u32 (Sha.pw l (k + 1) (k / 4)) else row1 l k j) = row1 l (k + 1) j := by
  unfold row1
  by_cases h : j = k / 4
  · rw [if_pos h, h]
  · rw [if_neg h, Sha.pw_other l k j h]

def row2 (V : Nat → Int) (k j : Nat) : Value := .int .u32 (if j < 16 + k then V j else 0)
theorem row2_zero (l : List UInt8) (j : Nat) : row1 l 64 j = row2 (Sha.W l) 0 j := by
  unfold row1 row2
  rw [Sha.pw_end]
  by_cases h : j < 16
  · rw [if_pos h, if_pos (by omega), Sha.W_first l j h]
  · rw [if_neg h, if_neg (by omega)]
theorem row2_old (V : Nat → Int) (k j : Nat) (h : j < 16 + k) : row2 V k j = .int .u32 (V j) := by
  unfold row2; rw [if_pos h]
theorem row2_step (V : Nat → Int) (k t : Nat) (x : Int) (ht : t = 16 + k) (hx : V t = x) (j : Nat) : (if j = t then Value.int .u32 x else row2 V k j) = row2 V (k + 1) j := by
  subst hx ht
  unfold row2
  by_cases h : j = 16 + k
  · rw [if_pos h, if_pos (by omega), h]
  · rw [if_neg h]
    by_cases h2 : j < 16 + k
    · rw [if_pos h2, if_pos (by omega)]
    · rw [if_neg h2, if_neg (by omega)]
def Rec (V : Nat → Int) : Prop := ∀ t j2 j7 j15 j16 : Nat, 16 ≤ t → t < 64 → t = j2 + 2 → t = j7 + 7 → t = j15 + 15 → t = j16 + 16 →
    V t = Sha.ad (Sha.ad (Sha.ad (Sha.s1 (V j2)) (V j7)) (Sha.s0 (V j15))) (V j16)
theorem W_rec (l : List UInt8) : Rec (Sha.W l) := fun t j2 j7 j15 j16 h h2 e2 e7 e15 e16 => by
  obtain rfl : j2 = 14 + j16 := by omega
  obtain rfl : j7 = 9 + j16 := by omega
  obtain rfl : j15 = 1 + j16 := by omega
  obtain rfl : t = 16 + j16 := by omega
  exact Sha.W_next l j16 (by omega)

end Go.Proofs.YtogpjoldfcmbfaaDoor
