
/- What the frames of the calendar's statements share: the table of the months' days. -/
import Derived.Test.YtogpjoldfcmbfaaDoorYPr1
import Derived.ProofKit
import Derived.LaidMore
import Derived.ShutString
import Derived.ChangeOld
import Derived.Stop.Joined
import Derived.Lib.LaidTab
namespace Go.Proofs.YtogpjoldfcmbfaaDoor
open Go.ChangeShapes Go.WideShapes Go.ChangeAt Go.RowKit

theorem own : ownKnob Tryd.prog.godebug = none := by kernel_rfl
theorem laidOut : laidOutB Tryd.prog = true := by kernel_rfl
theorem gLn : Tryd.prog.globalNamed "reportescrow/calendar.lengths" = some 0 := by kernel_rfl
theorem gLnType : (Tryd.prog.globals[0]?).map (·.type) = some 53 := by kernel_rfl
theorem cellsInt : Tryd.prog.cellsOf 3 = 1 := by kernel_rfl
theorem cellsLn : Tryd.prog.cellsOf 53 = 12 := by kernel_rfl

theorem lens_of_tab {W : World} (h : Lib.TabIs Tryd.prog W "reportescrow/calendar.lengths" .i64 [31, 28, 31, 30, 31, 30, 31, 31, 30, 31, 30, 31]) : Lens W := by
  unfold Lib.TabIs World.var? at h
  rw [gLn] at h
  simp only [Option.bind_some] at h
  split at h
  · rename_i cs t fr hh
    refine ⟨t, fr, ?_⟩
    rw [hh]
    have := Option.some.inj h
    subst this
    rfl
  · cases h
end Go.Proofs.YtogpjoldfcmbfaaDoor
