
/- What the frames of layer 3's statements share. -/
import Derived.Test.YtkpdjeiocdppoaaSRun
import Derived.Test.YtkpdjeiocdppoaaFrame
import Derived.ShutString
import Derived.Lib.LaidTab
namespace Go.Proofs.Ytkpdjeiocdppoaa
theorem cellsU32 : Try.prog.cellsOf 66 = 1 := by kernel_rfl
theorem heap_of_tab {W : World} {name : String} {zs : List Int} {g : Nat} (hg : Try.prog.globalNamed name = some g) (h : Lib.TabIs Try.prog W name .u32 zs) : ∃ t fr, W.heap[g]? = some (.cells ((zs.map (Value.int .u32 ·)).toArray) t fr) := by
  unfold Lib.TabIs World.var? at h
  rw [hg] at h
  simp only [Option.bind_some] at h
  split at h
  · rename_i cs t fr hh
    refine ⟨t, fr, ?_⟩
    rw [hh]
    have := Option.some.inj h
    subst this
    rfl
  · cases h
theorem wf_u8 {a : Int} (h : (Lit.int .u8 a).wf = true) : ∃ n : Nat, a = n ∧ n < 256 := by
  simp [Lit.wf, IntKind.min, IntKind.max, IntKind.signed, IntKind.bits] at h
  exact ⟨a.toNat, by omega, by omega⟩
theorem wf_u16 {a : Int} (h : (Lit.int .u16 a).wf = true) : ∃ n : Nat, a = n ∧ n < 65536 := by
  simp [Lit.wf, IntKind.min, IntKind.max, IntKind.signed, IntKind.bits] at h
  exact ⟨a.toNat, by omega, by omega⟩
end Go.Proofs.Ytkpdjeiocdppoaa
