
/- What the frames of the calendar's statements about texts share: the listed variables of the library. -/
import Derived.Test.YtogpjoldfcmbfaaDoorRows
import Derived.Test.YtogpjoldfcmbfaaDoorYFrm
import Derived.Test.YtogpjoldfcmbfaaDoorYPaq
import Derived.Stop.LaidErr
import Derived.Lay
import Derived.ShutString
import Derived.Lib.LaidTab
namespace Go.Proofs.YtogpjoldfcmbfaaDoor
open Go.ChangeShapes Go.WideShapes Go.ChangeAt Go.RowKit
set_option linter.unusedVariables false

theorem gPwType : (Tryd.prog.globals[3]?).map (·.type) = some 99 := by kernel_rfl
theorem cellsU64 : Tryd.prog.cellsOf 47 = 1 := by kernel_rfl
theorem cellsPw : Tryd.prog.cellsOf 99 = 20 := by kernel_rfl
theorem gSyType : (Tryd.prog.globals[1]?).map (·.type) = some 49 := by kernel_rfl
theorem cellsEs : Tryd.prog.cellsOf 97 = 1 := by kernel_rfl
theorem cellsStr : Tryd.prog.cellsOf 9 = 1 := by kernel_rfl
theorem starEs : "*" ++ "errors.errorString" = "*errors.errorString" := by decide
theorem rowEs (u : TypeId) (h : Tryd.prog.typeName? 3 u = some "*errors.errorString") : u = 95 :=
  typeName_ptr_named (nm := "errors.errorString") (by rw [starEs]; kernel_rfl) (by kernel_rfl) (by decide) u (by rw [starEs]; exact h)
theorem pow_eq : (Rows.laid_internal_strconv_uint64pow10 : DataW Unit) = Lib.tabData .u64 Lib.pow10Tab := by kernel_rfl
theorem len_eq : (Rows.laid_reportescrow_calendar_lengths : DataW Unit) = Lib.tabData .i64 [31, 28, 31, 30, 31, 30, 31, 31, 30, 31, 30, 31] := by kernel_rfl

theorem txs_of {W : World} (h : laidMet Tryd.prog [("math/bits.deBruijn32tab", Rows.laid_math_bits_deBruijn32tab), ("math/bits.deBruijn64tab", Rows.laid_math_bits_deBruijn64tab), ("internal/strconv.uint64pow10", Rows.laid_internal_strconv_uint64pow10), ("reportescrow/calendar.lengths", Rows.laid_reportescrow_calendar_lengths)] W) : Txs W := by
  have h2 := laidMet.tail (laidMet.tail h)
  rw [pow_eq, len_eq] at h2
  exact ⟨lens_of_tab (Lib.tabIs_of_head gLn gLnType Tryd.underlying53 Tryd.underlying3 cellsInt cellsLn (laidMet.tail h2)), Lib.tabIs_of_head gPw gPwType Tryd.underlying99 Tryd.underlying47 cellsU64 cellsPw h2⟩
theorem txp_of {W : World} (h : laidMet Tryd.prog [("math/bits.deBruijn32tab", Rows.laid_math_bits_deBruijn32tab), ("math/bits.deBruijn64tab", Rows.laid_math_bits_deBruijn64tab), ("internal/strconv.uint64pow10", Rows.laid_internal_strconv_uint64pow10), ("strconv.ErrRange", Rows.laid_strconv_ErrRange), ("strconv.ErrSyntax", Rows.laid_strconv_ErrSyntax), ("reportescrow/calendar.lengths", Rows.laid_reportescrow_calendar_lengths)] W) : Txp W := by
  have h2 := laidMet.tail (laidMet.tail h)
  rw [pow_eq, len_eq] at h2
  have h4 := laidMet.tail (laidMet.tail h2)
  unfold Rows.laid_strconv_ErrSyntax at h4
  obtain ⟨a0, s0, hv, _, _, _⟩ := laid_sentinel h4 gSy gSyType Tryd.underlying49 rowEs Tryd.underlying95 Tryd.underlying97 rfl rfl Tryd.underlying9 cellsEs cellsStr
  exact ⟨⟨lens_of_tab (Lib.tabIs_of_head gLn gLnType Tryd.underlying53 Tryd.underlying3 cellsInt cellsLn (laidMet.tail h4)), Lib.tabIs_of_head gPw gPwType Tryd.underlying99 Tryd.underlying47 cellsU64 cellsPw h2⟩, _, _, hv⟩
end Go.Proofs.YtogpjoldfcmbfaaDoor
