
/- What the frames of the statements of layer 11 share: the library's tables out of the rows' premises. -/
import Derived.Test.YtmegmgcfnihhiaaDoorRows
import Derived.Test.YtmegmgcfnihhiaaDoorOFo
import Derived.Test.YtmegmgcfnihhiaaDoorFrame
import Derived.Stop.LaidErr
import Derived.Lay
import Derived.ShutString
import Derived.Lib.LaidTab
import Derived.Lib.LaidU8T
namespace Go.Proofs.YtmegmgcfnihhiaaDoor
open Go.ChangeShapes Go.WideShapes Go.ChangeAt Go.RowKit Go.Shelf
set_option linter.unusedVariables false

theorem first_eq : (Rows.laid_unicode_utf8_first : DataW Unit) = Lib.firstData := by kernel_rfl
theorem accept_eq : (Rows.laid_unicode_utf8_acceptRanges : DataW Unit) = Lib.acceptData := by kernel_rfl
theorem space_eq : (Rows.laid_strings_asciiSpace : DataW Unit) = Lib.tabData .u8 Lib.asciiSpaceTab := by kernel_rfl
theorem gSpc : Tryd.prog.globalNamed "strings.asciiSpace" = some 1 := by kernel_rfl
theorem gSpcType : (Tryd.prog.globals[1]?).map (·.type) = some 62 := by kernel_rfl
theorem cellsU8 : Tryd.prog.cellsOf 5 = 1 := by kernel_rfl
theorem cellsSpc : Tryd.prog.cellsOf 62 = 256 := by kernel_rfl
theorem u8extra : U8Extra Tryd.prog Tryd.lays197_ren := ⟨by kernel_rfl, by kernel_rfl, by kernel_rfl, by kernel_rfl, by kernel_rfl, by kernel_rfl, by kernel_rfl⟩

theorem tbw_of {W : World} (h : laidMet Tryd.prog [("unicode/utf8.acceptRanges", Rows.laid_unicode_utf8_acceptRanges), ("unicode.White_Space", Rows.laid_unicode_White_Space), ("strings.asciiSpace", Rows.laid_strings_asciiSpace), ("unicode/utf8.first", Rows.laid_unicode_utf8_first)] W) : Tbw W := by
  have h2 := laidMet.tail (laidMet.tail h)
  rw [space_eq] at h2
  have ra := Lib.laidMet.reads h (n := "unicode/utf8.acceptRanges") (d := Rows.laid_unicode_utf8_acceptRanges) (.head _)
  have rf := Lib.laidMet.reads h (n := "unicode/utf8.first") (d := Rows.laid_unicode_utf8_first) (.tail _ (.tail _ (.tail _ (.head _))))
  rw [accept_eq] at ra
  rw [first_eq] at rf
  exact ⟨utf8Tabs_of_readsT (ρ := Tryd.lays197_ren) { Tryd.lays197 with } u8extra rf ra, Lib.tabIs_of_head gSpc gSpcType Tryd.underlying62 Tryd.underlying5 cellsU8 cellsSpc h2⟩
end Go.Proofs.YtmegmgcfnihhiaaDoor
