
/- What the frames of layer 3's statements share. -/
import Derived.Test.YtpgbjnenllfmlaaGreatDoorSMix
import Derived.Test.YtpgbjnenllfmlaaGreatDoorFrame
import Derived.ShutString
import Derived.Lib.LaidTab
namespace Go.Proofs.YtpgbjnenllfmlaaGreatDoor
open Go.ChangeShapes Go.WideShapes Go.ChangeAt Go.RowKit

theorem gKs : Tryz.prog.globalNamed "reportescrow/digest.constants" = some 2 := by kernel_rfl
theorem gHs : Tryz.prog.globalNamed "reportescrow/digest.initial" = some 0 := by kernel_rfl
theorem gKsType : (Tryz.prog.globals[2]?).map (·.type) = some 85 := by kernel_rfl
theorem gHsType : (Tryz.prog.globals[0]?).map (·.type) = some 83 := by kernel_rfl
theorem cellsU32 : Tryz.prog.cellsOf 82 = 1 := by kernel_rfl
theorem cells64 : Tryz.prog.cellsOf 85 = 64 := by kernel_rfl
theorem cells8 : Tryz.prog.cellsOf 83 = 8 := by kernel_rfl
theorem heap_of_tab {W : World} {name : String} {zs : List Int} {g : Nat} (hg : Tryz.prog.globalNamed name = some g) (h : Lib.TabIs Tryz.prog W name .u32 zs) : ∃ t fr, W.heap[g]? = some (.cells ((zs.map (Value.int .u32 ·)).toArray) t fr) := by
  unfold Lib.TabIs World.var? at h
  rw [hg] at h
  simp only [Option.bind_some] at h
  split at h
  · rename_i cs t fr hh
    refine ⟨t, fr, ?_⟩
    rw [hh]
    have := Option.some.inj h
    subst this
    rfl
  · cases h
theorem tabs_of {W : World} (h1 : Lib.TabIs Tryz.prog W "reportescrow/digest.constants" .u32 Sha.Ks) (h2 : Lib.TabIs Tryz.prog W "reportescrow/digest.initial" .u32 Sha.H0.list) : Tabs W :=
  ⟨heap_of_tab gKs h1, heap_of_tab gHs h2⟩
end Go.Proofs.YtpgbjnenllfmlaaGreatDoor
