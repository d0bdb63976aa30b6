
/- Bytes are added to a running sum: the program's write. -/
import Derived.Test.YtogpjoldfcmbfaaDoorSMix
import Derived.Test.YtogpjoldfcmbfaaDoorShaB
import Derived.Test.YtogpjoldfcmbfaaDoorSNumb
import Derived.Lib.BufferWrite
namespace Go.Proofs.YtogpjoldfcmbfaaDoor
open Go.RowKit
set_option linter.unusedVariables false

theorem take_bytes (l : List UInt8) (k : Nat) : (l.map fun b : UInt8 => Value.int .u8 (b.toNat : Int)).take k = Lib.byteCells (l.take k) := by
  simp [Lib.byteCells, List.map_take]

/-- 'copy(dst, s)' of as many bytes as there is room for. -/
theorem run_copy_min {P : Program} (w : World) (dT sT ty elem : TypeId) (g o dLen dCap k : Nat) (s : ByteArray) (cur : Array Value) (t : TypeId)
    (hu : P.underlying dT = some (.slice elem)) (hs : (P.info? elem).map (·.size) = some 1) (hg : w.heap[g]? = some (.cells cur t (0, 0))) (hk : k = min s.size dLen) (hfit : o + k ≤ cur.size) :
    (Builtin.copy_ #[dT, sT] ty #[.slice (some ⟨g, o, none⟩) dLen dCap, .string s]).run P w =
      .ok (goInt k) (w.setRow g (cur.toList.take o ++ Lib.byteCells (s.data.toList.take k) ++ cur.toList.drop (o + k)).toArray) := by
  have hks : k ≤ s.size := by omega
  have hlen : (Lib.byteCells (s.data.toList.take k)).length = k := by rw [Lib.byteCells_length, List.length_take, ← Lib.size_eq]; omega
  have hst := run_storeCells_at P g o t (Lib.byteCells (s.data.toList.take k)) 0 cur w hg (by rw [hlen]; simpa using hfit) (Lib.byteCells_one _)
  rw [hlen] at hst
  simp only [Nat.add_zero] at hst
  have hmin : Nat.min s.size dLen = k := hk.symm
  cases hq : P.info? elem with
  | none => simp [hq] at hs
  | some i =>
    simp [Builtin.copy_, run_underlying hu, Builtin.lenOf, Builtin.firstCells, sizeOf, typeInfo, hq, hmin]
    rw [take_bytes, hst]
    simp [Result.andThen]
theorem infoU8' : (Tryd.prog.info? 5).map (·.size) = some 1 := by kernel_rfl
theorem slice_block (g r : Nat) (hr : r < 64) (w : World) : (Instr.sliceAt 104 (.pointer (some ⟨g, 8, none⟩)) (some (.int .i64 r)) none none).run Tryd.prog w = .ok (.slice (some ⟨g, 8 + r, none⟩) (64 - r) (64 - r)) w := by
  have hl : Tryd.prog.arrayLen 104 = 64 := by kernel_rfl
  have he : Tryd.prog.elem 104 = 5 := by kernel_rfl
  have hu : Tryd.prog.underlying 104 = some (.array (Tryd.prog.arrayLen 104) (Tryd.prog.elem 104)) := by kernel_rfl
  have hz : (sizeOf 5).run Tryd.prog w = .ok 1 w := by kernel_rfl
  have ha : (⟨g, 8, none⟩ : Addr).add r = ⟨g, 8 + r, none⟩ := by unfold Addr.add; split <;> simp_all
  rw [run_sliceAt_array_l w 104 ⟨g, 8, none⟩ hu .i64 (r : Int) (by omega) (by rw [hl]; omega), hl, he, hz]
  have hne : ¬ 64 = r := by omega
  simp [Result.andThen, slicedAt, hne, ha]

/-- The pieces of the string that is added. -/
def lenOf : Value → Nat
  | .string s => s.size
  | _ => 0
end Go.Proofs.YtogpjoldfcmbfaaDoor
