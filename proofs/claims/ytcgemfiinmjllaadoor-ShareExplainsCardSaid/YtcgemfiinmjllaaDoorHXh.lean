
/- The holders that are held: a map of the call's own, of booleans. -/
import Derived.Test.YtcgemfiinmjllaaDoorHXq
import Derived.Maps.OwnOps
import Derived.Maps.Views
namespace Go.Proofs.YtcgemfiinmjllaaDoor
open Go.RowKit Go.Sort
open Go.Maps (Keyed int_keyed)
open Num
set_option linter.unusedVariables false

theorem intKeys : Keyed Tryd.prog 3 := int_keyed Tryd.underlying3
theorem zeroBoolM (w : World) : (zeroValue 4).run Tryd.prog w = .ok (.bool false) w := by kernel_rfl
/-- Block b is a map that says of every number whether it stands in the list. -/
def HeldAt (w : World) (b n : Nat) (xs : List Int) : Prop := ∃ D : DataW Unit, w.ownsMap Tryd.prog 3 (plainElem Tryd.prog 4) b n D ∧ Go.Maps.IsMap D ∧ ∀ h : Int, (Lit.int .i64 h).wf = true → D.atKey (.int .i64 h) (.lit (.bool false)) = .lit (.bool (decide (h ∈ xs)))
theorem heldAt_made (w : World) : HeldAt (w.alloc (.map #[] 0)) w.heap.size 0 [] := ⟨_, World.ownsMap_made _ _ _ _, ⟨[], rfl⟩, fun h _ => by simp [DataW.atKey]⟩
theorem HeldAt.kept {w w' : World} {b n : Nat} {xs : List Int} {row : Option Nat} (h : HeldAt w b n xs) (k : w.grownBy w' row) (hne : some b ≠ row) : HeldAt w' b n xs := by
  obtain ⟨D, h1, h2⟩ := h
  exact ⟨D, h1.kept k hne, h2⟩
set_option maxRecDepth 100000 in
theorem HeldAt.look {w : World} {b n : Nat} {xs : List Int} (h : HeldAt w b n xs) {t : TypeId} (ht : Tryd.prog.underlying t = some (.map 3 4)) (x : Int) (hx : (Lit.int .i64 x).wf = true) : (Instr.lookup t (.map (some b)) (.int .i64 x) false).run Tryd.prog w = .ok (.bool (decide (x ∈ xs))) w := by
  obtain ⟨D, h1, _, h2⟩ := h
  obtain ⟨v, ps, hrun, hv⟩ := h1.lookup intKeys ht (zeroBoolM w) (plainElem_bool Tryd.underlying4 false) (Go.Maps.keyOf_int_mk Tryd.underlying3 hx)
  rw [h2 x hx] at hv
  have : v = .bool (decide (x ∈ xs)) := by
    unfold plainElem at hv
    rw [Tryd.underlying4] at hv
    cases v with
    | bool y =>
      simp only [Option.some.injEq, Prod.mk.injEq, DataW.lit.injEq, Lit.bool.injEq] at hv
      rw [hv.1]
    | _ => simp at hv
  rw [hrun, this]
set_option maxRecDepth 100000 in
theorem HeldAt.put {w : World} {b n : Nat} {xs : List Int} (h : HeldAt w b n xs) {t : TypeId} (ht : Tryd.prog.underlying t = some (.map 3 4)) (x : Int) (hx : (Lit.int .i64 x).wf = true) (hn : n < maxLen) :
    ∃ w', (Instr.mapUpdate t (.map (some b)) (.int .i64 x) (.bool true)).run Tryd.prog w = .ok () w' ∧ HeldAt w' b (n + 1) (xs ++ [x]) ∧ w.grownBy w' (some b) := by
  obtain ⟨D, h1, hm, h2⟩ := h
  obtain ⟨w', hrun, h3, h4⟩ := h1.update intKeys ht hn (Go.Maps.keyOf_int_mk Tryd.underlying3 hx) (plainElem_bool Tryd.underlying4 true)
  refine ⟨w', hrun, ⟨_, h3, Go.Maps.IsMap.put hm _ _, fun y hy => ?_⟩, h4⟩
  by_cases e : y = x
  · subst e
    rw [Go.Maps.atKey_put_same hm (by simp [WideAt.IsKeyLit])]
    simp
  · rw [Go.Maps.atKey_put_other (fun e2 => e (by simpa using e2)), h2 y hy]
    simp [e]
end Go.Proofs.YtcgemfiinmjllaaDoor
