
/- An empty running sum: the program's begin. -/
import Derived.Test.YtogpjoldfcmbfaaDoorSWr
namespace Go.Proofs.YtogpjoldfcmbfaaDoor
open Go.RowKit
set_option linter.unusedVariables false

def zeroRun : Array Value := Array.replicate 8 (.int .u32 0) ++ Array.replicate 64 (.int .u8 0) ++ #[.int .i64 0]
theorem zeroRun_size : zeroRun.size = 73 := by rfl
def beginRun : Array Value := (((((((zeroRun.setIfInBounds 0 (.int .u32 0x6a09e667)).setIfInBounds 1 (.int .u32 0xbb67ae85)).setIfInBounds 2 (.int .u32 0x3c6ef372)).setIfInBounds 3 (.int .u32 0xa54ff53a)).setIfInBounds 4 (.int .u32 0x510e527f)).setIfInBounds 5 (.int .u32 0x9b05688c)).setIfInBounds 6 (.int .u32 0x1f83d9ab)).setIfInBounds 7 (.int .u32 0x5be0cd19)
/-- The cells of a running sum that is handed over as a value. -/
def RunVal (cs : Array Value) (m : List UInt8) : Prop := cs.size = 73 ∧ cs.all (·.oneCell') = true ∧ ∃ blk, Sha.Blk m blk ∧ ∀ j, j < 73 → cs[j]? = some (runRow (fun j => (Sha.hw m).list.getD j 0) (Sha.bt blk) m.length j)
theorem begin_all : beginRun.all (·.oneCell') = true := by kernel_rfl
theorem begin_list : beginRun = ((List.range 73).map (runRow (fun j => Sha.H0.list.getD j 0) (Sha.bt (List.replicate 64 0)) 0)).toArray := by kernel_rfl
theorem begin_val : RunVal beginRun [] := by
  refine ⟨rfl, begin_all, List.replicate 64 0, Sha.blk_nil _ (by simp), fun j hj => ?_⟩
  rw [begin_list]
  simp [hj]
  rfl
end Go.Proofs.YtogpjoldfcmbfaaDoor
