
/- The document's padded string. -/
import Derived.Test.YtogpjoldfcmbfaaDoorROwn
import Derived.Test.YtogpjoldfcmbfaaDoorSSum
namespace Go.Proofs.YtogpjoldfcmbfaaDoor
open Go.RowKit
set_option linter.unusedVariables false

theorem bytes_own (w : World) (s : ByteArray) (hs : s.size ≤ 1000000000) : ∃ g cap W', (convert 9 44 (.string s)).run Tryd.prog w = .ok (.slice (some ⟨g, 0, none⟩) s.size cap) W' ∧ OwnB W' w.heap.size (.slice (some ⟨g, 0, none⟩) s.size cap) s.data.toList ∧ Below w.heap.size w W' := by
  have hr := run_bytes_of_string (P := Tryd.prog) w 9 44 5 s Tryd.underlying9 Tryd.underlying44 Tryd.underlying5
  have hge := grownCap_ge w s.size 0 5
  have hcm : grownCap w s.size 0 5 ≤ maxLen := grownCap_le_maxLen w s.size 0 5 (by unfold maxLen; omega)
  have hsz : (bytesRow s (grownCap w s.size 0 5)).size = grownCap w s.size 0 5 := by
    unfold bytesRow
    simp
    omega
  refine ⟨_, _, _, hr, .inr ⟨w.heap.size, _, _, _, by rw [← Lib.size_eq], Nat.le_refl _, heap_alloc_new w.drew _, .inr (Nat.le_refl _), by rw [← Lib.size_eq]; exact hge, hcm, hsz, fun j hj => ?_⟩, ((Below.refl _ _).drew).alloc (Nat.le_refl _) _⟩
  rw [← Lib.size_eq] at hj
  unfold bytesRow Sha.bt
  rw [Array.getElem?_append_left (by simp; exact hj)]
  simp [List.getD, hj]

def lenSl : Value → Nat
  | .slice _ n _ => n
  | _ => 0
theorem OwnB.slc {w : World} {base : Nat} {v : Value} {l : List UInt8} (h : OwnB w base v l) (hl : 0 < l.length) : ∃ g cap, v = .slice (some ⟨g, 0, none⟩) l.length cap := by
  rcases h with ⟨_, rfl⟩ | ⟨g, cap, _, _, h, _⟩
  · simp at hl
  · exact ⟨g, cap, h⟩

section
variable {ops : Array Oper} {rest : List Oper} {o : Oper} {a : Act} {Q : Exit → Act → World → Prop}
theorem wpList_append_ex (w : World) (hgd : o.guard = none) (s x : Operand) (t1 t2 : TypeId) (ho : o.op = .call { callee := .builtin .append, args := #[s, x], argTypes := #[t1, t2] })
    (v sv : Value) (hs : a.eval s = v) (hx : a.eval x = sv) (R : Value → World → Prop) (hrun : ∃ v' W', (Builtin.append_ #[t1, t2] o.type #[v, sv]).run Tryd.prog w = .ok v' W' ∧ R v' W')
    (h : ∀ v' W', R v' W' → wpList Tryd.prog ops Q rest (a.put o.dst v') W') : wpList Tryd.prog ops Q (o :: rest) a w := by
  obtain ⟨v', W', hr, hR⟩ := hrun
  exact wpList_append_run w hgd s x t1 t2 ho v sv v' W' hs hx hr (h v' W' hR)
end
structure Pushed (B : Nat) (W : World) (l : List UInt8) (v' : Value) (W' : World) : Prop where
  own : OwnB W' B v' l
  bel : Below B W W'
/-- One byte more, by a slice literal of one. -/
theorem push_one {W : World} {B : Nat} {v : Value} {l : List UInt8} (h : OwnB W B v l) (hB : B ≤ W.heap.size) (b : UInt8) (bv : Int) (hb : bv = (b.toNat : Int)) (hl : l.length + 1 ≤ 1000000000000) (ty : TypeId) :
    ∃ v' W', (Builtin.append_ #[44, 44] ty #[v, .slice (some ⟨W.heap.size, 0, none⟩) 1 1]).run Tryd.prog (W.alloc (.cells #[.int .u8 bv] 5)) = .ok v' W' ∧ Pushed B W (l ++ [b]) v' W' := by
  have hba : Below W.heap.size W (W.alloc (.cells #[.int .u8 bv] 5)) := (Below.refl _ _).alloc (Nat.le_refl _) _
  have hc : (W.alloc (.cells #[.int .u8 bv] 5)).heap[W.heap.size]? = some (.cells #[.int .u8 bv] 5 (0, 0)) := heap_alloc_new _ _
  obtain ⟨v', W', h1, h2, h3⟩ := append_own (h.below (Nat.le_refl _) hba) (Nat.le_trans hB hba.size) (.slice (some ⟨W.heap.size, 0, none⟩) 1 1) 44 [b] 1 rfl (src_slice rfl (fun j hj => by
    obtain rfl : j = 0 := by omega
    show (match (W.alloc (.cells #[.int .u8 bv] 5)).heap[W.heap.size]? with | some (.cells c _ _) => c[0]? | _ => none) = _
    rw [hc, hb]
    rfl)) hl ty
  exact ⟨v', W', h1, h2, (hba.mono hB).trans h3⟩
theorem eight_take (n j : Nat) (hj : j < 8) : (Sha.eight n).take j ++ [hfb n 8 j] = (Sha.eight n).take (j + 1) := by
  rw [← hf8, List.take_add_one]
  congr 1
  simp [hf, hj]

theorem eb_val (N j e : Nat) (hj : j < 8) (he : e = 8 * (7 - j)) : (N : Int) * 8 / 2 ^ e % 256 = ((hfb (8 * N) 8 j).toNat : Int) := by
  have h := shift_val (8 * N) (7 - j)
  rw [hfb_val, show 8 - 1 - j = 7 - j by omega, ← h, he, show ((8 * N : Nat) : Int) = (N : Int) * 8 by omega]
end Go.Proofs.YtogpjoldfcmbfaaDoor
