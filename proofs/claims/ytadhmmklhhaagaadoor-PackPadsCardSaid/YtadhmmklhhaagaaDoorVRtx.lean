
/- Texts read: the document's Text. -/
import Derived.Test.YtadhmmklhhaagaaDoorVTxt
namespace Go.Proofs.YtadhmmklhhaagaaDoor
open Go.RowKit
set_option linter.unusedVariables false

theorem intR_in (l : List UInt8) (a : Int) (h : (intR l a).2.2 = 0) : 0 ≤ (intR l a).2.1 ∧ (intR l a).2.1 ≤ (l.length : Int) := by
  unfold intR at h ⊢
  split at h
  · cases h
  · rename_i hr
    rw [if_neg hr]
    cases hg : Vi.rd (l.drop a.toNat) 0 0 with
    | missing => rw [hg] at h; cases h
    | form => rw [hg] at h; cases h
    | got u k =>
      obtain ⟨x, k', _, rfl, _, _, hk, _⟩ := Vi.rd_only _ _ _ _ _ hg
      rw [List.length_drop] at hk
      show 0 ≤ a + ((0 + k' : Nat) : Int) ∧ a + ((0 + k' : Nat) : Int) ≤ _
      omega
/-- The text at a place: the text, the place after it, the error. -/
def txtR (l : List UInt8) (a : Int) : List UInt8 × Int × Int :=
  if (intR l a).2.2 = 0 then (if (intR l a).1 < 0 then ([], a, 4) else if (l.length : Int) - (intR l a).2.1 < (intR l a).1 then ([], a, 5) else ((l.drop (intR l a).2.1.toNat).take (intR l a).1.toNat, (intR l a).2.1 + (intR l a).1, 0)) else ([], a, (intR l a).2.2)
def triT (r : List UInt8 × Int × Int) : Ending := .returned (.tuple #[.string ⟨r.1.toArray⟩, .int .i64 r.2.1, .int .i64 r.2.2])
theorem cut_toList (s : ByteArray) (p n : Nat) : (⟨((s.data.toList.drop p).take n).toArray⟩ : ByteArray) = s.extract p (p + n) := by
  have h : (s.extract p (p + n)).data.toList = (s.data.toList.drop p).take n := by
    rw [ByteArray.data_extract, Array.toList_extract, List.extract_eq_take_drop, Nat.add_sub_cancel_left]
  rw [← h]
end Go.Proofs.YtadhmmklhhaagaaDoor
