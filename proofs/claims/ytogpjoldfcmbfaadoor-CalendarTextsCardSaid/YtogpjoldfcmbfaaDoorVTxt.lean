
/- Texts written, and numbers of items read: the document's PutText and count. -/
import Derived.Test.YtogpjoldfcmbfaaDoorVInt
namespace Go.Proofs.YtogpjoldfcmbfaaDoor
open Go.RowKit
set_option linter.unusedVariables false

theorem cat_list (a b : ByteArray) : (a ++ b).data.toList = a.data.toList ++ b.data.toList := by
  rw [ByteArray.data_append]; simp
/-- A text as it is written. -/
def gtxt (s : List UInt8) : List UInt8 := Vi.grp (Vi.zz (s.length : Int)) ++ s
theorem gtxt_len (s : List UInt8) (h : s.length ≤ 1000000000) : (gtxt s).length ≤ s.length + 10 := by
  unfold gtxt
  rw [List.length_append]
  have := Vi.grp_len10 (Vi.zz_lt (s.length : Int) (by omega))
  omega
/-- The number of items at a place. -/
def cntR (l : List UInt8) (a most : Int) : Int × Int × Int :=
  if (intR l a).2.2 = 0 then (if (intR l a).1 < 0 then (0, a, 4) else if most < (intR l a).1 then (0, a, 3) else ((intR l a).1, (intR l a).2.1, 0)) else (0, a, (intR l a).2.2)
end Go.Proofs.YtogpjoldfcmbfaaDoor
