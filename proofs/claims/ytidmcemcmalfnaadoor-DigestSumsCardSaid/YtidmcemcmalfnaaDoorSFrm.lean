
/- What the frames of layer 3's statements share. -/
import Derived.Test.YtidmcemcmalfnaaDoorSRun
import Derived.Test.YtidmcemcmalfnaaDoorFrame
import Derived.ShutString
import Derived.Lib.LaidTab
namespace Go.Proofs.YtidmcemcmalfnaaDoor
open Go.ChangeShapes Go.WideShapes Go.ChangeAt Go.RowKit

theorem gKs : Tryd.prog.globalNamed "reportescrow/digest.constants" = some 1 := by kernel_rfl
theorem gHs : Tryd.prog.globalNamed "reportescrow/digest.initial" = some 0 := by kernel_rfl
theorem gKsType : (Tryd.prog.globals[1]?).map (·.type) = some 49 := by kernel_rfl
theorem gHsType : (Tryd.prog.globals[0]?).map (·.type) = some 41 := by kernel_rfl
theorem cellsU32 : Tryd.prog.cellsOf 40 = 1 := by kernel_rfl
theorem cells64 : Tryd.prog.cellsOf 49 = 64 := by kernel_rfl
theorem cells8 : Tryd.prog.cellsOf 41 = 8 := by kernel_rfl
theorem heap_of_tab {W : World} {name : String} {zs : List Int} {g : Nat} (hg : Tryd.prog.globalNamed name = some g) (h : Lib.TabIs Tryd.prog W name .u32 zs) : ∃ t fr, W.heap[g]? = some (.cells ((zs.map (Value.int .u32 ·)).toArray) t fr) := by
  unfold Lib.TabIs World.var? at h
  rw [hg] at h
  simp only [Option.bind_some] at h
  split at h
  · rename_i cs t fr hh
    refine ⟨t, fr, ?_⟩
    rw [hh]
    have := Option.some.inj h
    subst this
    rfl
  · cases h
theorem tabs_of {W : World} (h1 : Lib.TabIs Tryd.prog W "reportescrow/digest.constants" .u32 Sha.Ks) (h2 : Lib.TabIs Tryd.prog W "reportescrow/digest.initial" .u32 Sha.H0.list) : Tabs W :=
  ⟨heap_of_tab gKs h1, heap_of_tab gHs h2⟩
theorem wf_u8 {a : Int} (h : (Lit.int .u8 a).wf = true) : ∃ n : Nat, a = n ∧ n < 256 := by
  simp [Lit.wf, IntKind.min, IntKind.max, IntKind.signed, IntKind.bits] at h
  exact ⟨a.toNat, by omega, by omega⟩
theorem wf_u16 {a : Int} (h : (Lit.int .u16 a).wf = true) : ∃ n : Nat, a = n ∧ n < 65536 := by
  simp [Lit.wf, IntKind.min, IntKind.max, IntKind.signed, IntKind.bits] at h
  exact ⟨a.toNat, by omega, by omega⟩
end Go.Proofs.YtidmcemcmalfnaaDoor
