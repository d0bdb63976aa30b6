
/- The running sum as it lies in memory, and the program's tables. -/
import Derived.Test.YtogpjoldfcmbfaaDoorSSch
namespace Go.Proofs.YtogpjoldfcmbfaaDoor
open Go.RowKit
set_option linter.unusedVariables false

/-- The cells of a running sum: eight words, 64 bytes, the length. -/
def runRow (U B : Nat → Int) (n : Int) (j : Nat) : Value := if j < 8 then .int .u32 (U j) else if j < 72 then .int .u8 (B (j - 8)) else .int .i64 n
/-- The program's constants, as they lie in memory. -/
def KsCells : Array Value := (Sha.Ks.map (Value.int .u32 ·)).toArray
def HsCells : Array Value := (Sha.H0.list.map (Value.int .u32 ·)).toArray
theorem post_end0 {P : Program} {fn : Func} {R : Ending → World → Prop} {a : Act} {w : World} (hr : fn.results = #[]) (hd : a.defers = []) (hR : R (.returned (.tuple #[])) w) : bodyPost P fn R .normal a w :=
  ⟨hd, .tuple #[], by simp [results, hr], hR⟩
theorem aggU32 (w : World) : (isAgg 77).run Tryd.prog w = .ok false w := by kernel_rfl
theorem sizeU32 (w : World) : (sizeOf 77).run Tryd.prog w = .ok 1 w := by kernel_rfl
theorem index_arr {t : TypeId} {n : Nat} (hu : Tryd.prog.underlying t = some (.array n 77)) {cs : Array Value} {k : Nat} {v : Value} (hk : k < n) (hv : cs[k]? = some v) (w : World) :
    (Instr.index t (.agg cs) (.int .i64 k)).run Tryd.prog w = .ok v w := by
  have ha : ∀ w, (isAgg 77).run Tryd.prog w = .ok false w := aggU32
  have hz : ∀ w, (sizeOf 77).run Tryd.prog w = .ok 1 w := sizeU32
  simp [Instr.index, asIntOf, run_underlying hu, part, ha, hz, hv]
  intro h
  omega
end Go.Proofs.YtogpjoldfcmbfaaDoor
