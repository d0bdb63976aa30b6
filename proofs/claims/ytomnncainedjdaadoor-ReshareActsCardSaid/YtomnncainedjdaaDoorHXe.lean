
/- The points of Explain: the program's explaining. -/
import Derived.Test.YtomnncainedjdaaDoorHXc
namespace Go.Proofs.YtomnncainedjdaaDoor
open Go.RowKit Go.Sort
open Num
set_option linter.unusedVariables false

theorem contains_any (L : List Shr) (x : Int) : (L.map fun s : Shr => s.1).contains x = L.any fun s => s.1 == x := by
  rw [Bool.eq_iff_iff]
  simp only [List.contains_iff_mem, List.any_eq_true, List.mem_map, beq_iff_eq]
theorem seenB_all (L : List Shr) (i : Nat) : seenB L L.length i = (L.map fun s : Shr => s.1).contains (i : Int) := by
  unfold seenB
  rw [List.take_length, contains_any]
/-- What has been put together behind the known shares. -/
def expQ (L : List Shr) (S : List Int) (h : Nat) : List Shr := (0, S) :: (L ++ (freeU (L.map fun s : Shr => s.1) h).map fun x => (x, []))
theorem expQ_len (L : List Shr) (S : List Int) (h : Nat) : (expQ L S h).length = 1 + L.length + (freeU (L.map fun s : Shr => s.1) h).length := by
  unfold expQ
  rw [List.length_cons, List.length_append, List.length_map]; omega
theorem expQ_skip {L : List Shr} {S : List Int} {h : Nat} (e : (L.map fun s : Shr => s.1).contains ((h + 1 : Nat) : Int) = true) : expQ L S (h + 1) = expQ L S h := by
  unfold expQ
  rw [freeU_succ, if_pos e, List.append_nil]
theorem expQ_add {L : List Shr} {S : List Int} {h : Nat} (e : (L.map fun s : Shr => s.1).contains ((h + 1 : Nat) : Int) = false) : expQ L S (h + 1) = expQ L S h ++ [(((h + 1 : Nat) : Int), [])] := by
  unfold expQ
  rw [freeU_succ, if_neg (by rw [e]; simp)]
  simp
theorem expQ_end {L : List Shr} {S : List Int} {h K : Nat} (hl : L.length < K) (hh : h ≤ 32) (e : (expQ L S h).length = K) : expQ L S h = expP K L S := by
  rw [expQ_len] at e
  unfold expQ expP
  rw [freeT_eq hh (c := K - 1 - L.length) (by omega)]
theorem expQ_zero (L : List Shr) (S : List Int) : expQ L S 0 = (0, S) :: L := by simp [expQ, freeU]

/-- A share of a list that came in, in a later world; its values lie below the call's own memory. -/
theorem Shares.at2 {w W : World} {a : Option Addr} {n c : Nat} {L : List Shr} (h : Shares w (.slice a n c) L) (hb : Below w.heap.size w W) {i : Nat} (hi : i < n) :
    ∃ b off v, a = some ⟨b, off, none⟩ ∧ W.cell? ⟨b, off + i * 2, none⟩ = some (.int .i64 (L.getD i (0, [])).1) ∧ W.cell? ⟨b, off + i * 2 + 1, none⟩ = some v ∧ Ints W v (L.getD i (0, [])).2 ∧ ∀ q, v.ownBlock = some q → (L.getD i (0, [])).2 ≠ [] → q < w.heap.size := by
  obtain ⟨b, off, v, e, c0, c1, hI⟩ := h.at hi
  have hlt := cell_lt c0
  exact ⟨b, off, v, e, by rw [hb.cell (p := ⟨b, off + i * 2, none⟩) hlt]; exact c0, by rw [hb.cell (p := ⟨b, off + i * 2 + 1, none⟩) hlt]; exact c1, hI.below (Nat.le_refl _) hb, hI.blk⟩
theorem cells_new2 (w : World) (x y : Value) (t : TypeId) (k : Nat) (hk : w.heap.size = k) : (w.alloc (.cells #[x, y] t)).cell? ⟨k, 0, none⟩ = some x ∧ (w.alloc (.cells #[x, y] t)).cell? ⟨k, 1, none⟩ = some y := by
  subst hk
  exact ⟨by rw [cell_new]; rfl, by rw [cell_new]; rfl⟩

end Go.Proofs.YtomnncainedjdaaDoor
