
/- SHA-256 of a string: the document's Sum. -/
import Derived.Test.YtkpdjeiocdppoaaRPad
import Derived.Test.YtkpdjeiocdppoaaRBlk
namespace Go.Proofs.Ytkpdjeiocdppoaa
open Go.RowKit
set_option linter.unusedVariables false

theorem wpStill_load_row {P : Program} {ops : Array Oper} {w : World} {Q : Act → Prop} {a : Act} {o : Oper} {rest : List Oper} (hgd : o.guard = none) (ty : TypeId) (x : Operand) (ho : o.op = .load ty x)
    (g : Nat) (hx : a.eval x = .pointer (some ⟨g, 0, none⟩)) (t : TypeId) (cs : Array Value) (fr : Nat × Nat) (d : TypeDesc) (hg : w.heap[g]? = some (.cells cs t fr))
    (hu : P.underlying ty = some d) (hd : (match d with | .struct _ | .array _ _ => true | _ => false) = true) (hi : (P.info? ty).map (·.size) = some cs.size)
    (h : wpStill P ops w Q rest (a.put o.dst (.agg cs))) : wpStill P ops w Q (o :: rest) a := by
  refine wpStill_step fun K hK => ?_
  have hw : Region.wanted o (yielded ops a.tmps) = true := by simp [Region.wanted, hgd]
  rw [if_pos hw]
  unfold Oper.still execOp
  simp only [ho, hx, Instr.loadAt, Instr.sureAddr, Sem.run_bind, Sem.run_pure, Result.andThen_ok, run_loadVar_row w g t ty cs fr d hg hu hd hi]
  rw [Oper.stillUpon_value]
  exact hK _ h
/-- Bytes more, by a slice literal. -/
theorem push_many {W : World} {B : Nat} {v : Value} {l : List UInt8} (h : OwnB W B v l) (hB : B ≤ W.heap.size) (bs : List UInt8) (cs : Array Value) (k : Nat) (hk : bs.length = k) (hcs : ∀ j, j < k → cs[j]? = some (.int .u8 (Sha.bt bs j))) (hl : l.length + k ≤ 1000000000000) (ty : TypeId) :
    ∃ v' W', (Builtin.append_ #[48, 48] ty #[v, .slice (some ⟨W.heap.size, 0, none⟩) k k]).run Try.prog (W.alloc (.cells cs 5)) = .ok v' W' ∧ Pushed B W (l ++ bs) v' W' := by
  have hba : Below W.heap.size W (W.alloc (.cells cs 5)) := (Below.refl _ _).alloc (Nat.le_refl _) _
  have hc : (W.alloc (.cells cs 5)).heap[W.heap.size]? = some (.cells cs 5 (0, 0)) := heap_alloc_new _ _
  obtain ⟨v', W', h1, h2, h3⟩ := append_own (h.below (Nat.le_refl _) hba) (Nat.le_trans hB hba.size) (.slice (some ⟨W.heap.size, 0, none⟩) k k) 48 bs k hk (src_slice hk (fun j hj => by
    show (match (W.alloc (.cells cs 5)).heap[W.heap.size]? with | some (.cells c _ _) => c[j]? | _ => none) = _
    rw [hc]
    exact hcs j hj)) hl ty
  exact ⟨v', W', h1, h2, (hba.mono hB).trans h3⟩
theorem four_cells (x a b c d : Int) (hx : Sha.In x) (ha : a = x / 16777216 % 256) (hb : b = x / 65536 % 256) (hc : c = x / 256 % 256) (hd : d = x % 256) (j : Nat) (hj : j < 4) : (#[Value.int .u8 a, .int .u8 b, .int .u8 c, .int .u8 d] : Array Value)[j]? = some (.int .u8 (Sha.bt (Sha.four x) j)) := by
  obtain ⟨n, rfl⟩ := Int.eq_ofNat_of_zero_le hx.1
  have e1 : ((n : Int) / 16777216).toNat = n / 16777216 := by omega
  have e2 : ((n : Int) / 65536).toNat = n / 65536 := by omega
  have e3 : ((n : Int) / 256).toNat = n / 256 := by omega
  have : j = 0 ∨ j = 1 ∨ j = 2 ∨ j = 3 := by omega
  rcases this with rfl | rfl | rfl | rfl
  · simp [Sha.bt, Sha.four, e1, ha]
  · simp [Sha.bt, Sha.four, e2, hb]
  · simp [Sha.bt, Sha.four, e3, hc]
  · simp [Sha.bt, Sha.four, hd]
theorem hsCells_eight : Eight HsCells Sha.H0 := ⟨hsCells_size, hsCells_all, fun j hj => by
  have : j = 0 ∨ j = 1 ∨ j = 2 ∨ j = 3 ∨ j = 4 ∨ j = 5 ∨ j = 6 ∨ j = 7 := by omega
  rcases this with rfl | rfl | rfl | rfl | rfl | rfl | rfl | rfl <;> rfl⟩
theorem pad_mod (m : List UInt8) : (Sha.pad m).length % 64 = 0 := by
  have h := Sha.zs_eq m.length
  rw [Sha.pad_len]
  omega

theorem two_new (w : World) (c d : Array Value) (t1 t2 : TypeId) : ((w.alloc (.cells c t1)).alloc (.cells d t2)).heap[w.heap.size]? = some (.cells c t1 (0, 0)) ∧ ((w.alloc (.cells c t1)).alloc (.cells d t2)).heap[w.heap.size + 1]? = some (.cells d t2 (0, 0)) := by
  obtain ⟨w1, h1⟩ : ∃ w1, w.alloc (.cells c t1) = w1 := ⟨_, rfl⟩
  have s1 : w1.heap.size = w.heap.size + 1 := by rw [← h1]; simp
  have f1 : w1.heap[w.heap.size]? = some (.cells c t1 (0, 0)) := by rw [← h1]; exact heap_alloc_new _ _
  have b2 : Below w1.heap.size w1 (w1.alloc (.cells d t2)) := (Below.refl _ _).alloc (Nat.le_refl _) _
  rw [h1]
  refine ⟨by rw [b2.block _ (by omega)]; exact f1, ?_⟩
  rw [← s1]
  exact heap_alloc_new _ _
theorem setRow_ne (w : World) (g k : Nat) (c : Array Value) (h : k ≠ g) : (w.setRow g c).heap[k]? = w.heap[k]? := by
  simp only [World.setRow, Array.getElem?_modify]
  rw [if_neg (fun e => h e.symm)]
end Go.Proofs.Ytkpdjeiocdppoaa
