
/- What the calendar's statements keep in memory; remainders. -/
import Derived.Test.YtogpjoldfcmbfaaDoorYWit
namespace Go.Proofs.YtogpjoldfcmbfaaDoor
open Go.RowKit Go.Sort Go.Shelf
open Cal
set_option linter.unusedVariables false

/-- Block g holds the numbers l. -/
def LitI (w : World) (g : Nat) (l : List Int) : Prop := g < w.heap.size ∧ ∀ k, k < l.length → w.cell? ⟨g, k, none⟩ = some (.int .i64 (l.getD k 0))
theorem LitI.below {w w' : World} {g : Nat} {l : List Int} (h : LitI w g l) (b : Below w.heap.size w w') : LitI w' g l :=
  ⟨Nat.lt_of_lt_of_le h.1 b.size, fun k hk => by rw [b.cell h.1]; exact h.2 k hk⟩
theorem lit3 (w : World) (x y z : Int) (t : TypeId) : LitI (w.alloc (.cells #[.int .i64 x, .int .i64 y, .int .i64 z] t)) w.heap.size [x, y, z] :=
  ⟨by simp, fun k hk => by
    have : k = 0 ∨ k = 1 ∨ k = 2 := by simp at hk; omega
    rcases this with rfl | rfl | rfl <;> (rw [World.cell?_alloc_at _ _ _ _ (by simp)]; rfl)⟩
theorem lit2 (w : World) (x y : Int) (t : TypeId) : LitI (w.alloc (.cells #[.int .i64 x, .int .i64 y] t)) w.heap.size [x, y] :=
  ⟨by simp, fun k hk => by
    have : k = 0 ∨ k = 1 := by simp at hk; omega
    rcases this with rfl | rfl <;> (rw [World.cell?_alloc_at _ _ _ _ (by simp)]; rfl)⟩
theorem al_below (w : World) (o : Obj) : Below w.heap.size w (w.alloc o) := (Below.refl _ _).alloc (Nat.le_refl _) o

theorem mod_q (n p : Int) (hp : 1 ≤ p) (hp2 : p ≤ 4611686018427387904) : ∃ q, 0 ≤ q ∧ q < p ∧ Hid (q = n % p) ∧ Hid (∀ w, Calls Tryd.prog 9 #[.int .i64 n, .int .i64 p] w fun e w' => e = .returned (.int .i64 q) ∧ w = w') :=
  ⟨n % p, Int.emod_nonneg _ (by omega), Int.emod_lt_of_pos _ (by omega), rfl, fun w => mod_any n p w hp hp2⟩
theorem neq_self (x : Int) : (x != x) = false := by simp
theorem neqb_self (x : Bool) : (x != x) = false := by simp
end Go.Proofs.YtogpjoldfcmbfaaDoor
