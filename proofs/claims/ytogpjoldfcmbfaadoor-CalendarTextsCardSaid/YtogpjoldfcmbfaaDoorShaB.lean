
/- SHA-256: what has been summed so far; mathematics alone. -/
import Derived.Test.YtogpjoldfcmbfaaDoorSha
namespace Go.Proofs.YtogpjoldfcmbfaaDoor
namespace Sha
set_option linter.unusedVariables false

/-- The words behind all full blocks of m. -/
def hw (m : List UInt8) : St := hs m (m.length / 64)
/-- The block in which the rest of m waits. -/
def Blk (m blk : List UInt8) : Prop := blk.length = 64 ∧ blk.take (m.length % 64) = m.drop (64 * (m.length / 64))
/-- Bytes laid over the block from r on. -/
def lay (blk x : List UInt8) (r : Nat) : List UInt8 := blk.take r ++ x ++ blk.drop (r + x.length)
theorem lay_len {blk x : List UInt8} {r : Nat} (h : blk.length = 64) (hr : r + x.length ≤ 64) : (lay blk x r).length = 64 := by
  unfold lay; simp; omega
theorem bt_lay {blk x : List UInt8} {r : Nat} (h : blk.length = 64) (hr : r + x.length ≤ 64) (i : Nat) :
    bt (lay blk x r) i = if i < r then bt blk i else if i < r + x.length then bt x (i - r) else bt blk i := by
  have hl1 : (blk.take r).length = r := by rw [List.length_take]; omega
  unfold bt lay
  simp only [List.getD]
  by_cases h1 : i < r
  · rw [if_pos h1, List.append_assoc, List.getElem?_append_left (by omega), List.getElem?_take_of_lt h1]
  · rw [if_neg h1]
    by_cases h2 : i < r + x.length
    · rw [if_pos h2, List.append_assoc, List.getElem?_append_right (by omega), List.getElem?_append_left (by omega), hl1]
    · rw [if_neg h2, List.getElem?_append_right (by rw [List.length_append]; omega), List.getElem?_drop, List.length_append, hl1, show r + x.length + (i - (r + x.length)) = i by omega]
theorem blk_part {m blk x : List UInt8} (h : Blk m blk) (hlt : m.length % 64 + x.length < 64) : Blk (m ++ x) (lay blk x (m.length % 64)) ∧ hw (m ++ x) = hw m := by
  obtain ⟨h1, h2⟩ := h
  have e1 : (m ++ x).length / 64 = m.length / 64 := by rw [List.length_append]; omega
  have e2 : (m ++ x).length % 64 = m.length % 64 + x.length := by rw [List.length_append]; omega
  refine ⟨⟨lay_len h1 (by omega), ?_⟩, ?_⟩
  · rw [e1, e2, List.drop_append_of_le_length (by omega)]
    unfold lay
    rw [List.append_assoc, List.take_append, List.length_take, h1]
    rw [List.take_of_length_le (by rw [List.length_take]; omega), h2]
    congr 1
    rw [List.take_append_of_le_length (by omega), List.take_of_length_le (by omega)]
  · unfold hw
    rw [e1, hs_app m x _ (by omega)]
theorem blk_full {m blk x : List UInt8} (h : Blk m blk) (hf : m.length % 64 + x.length = 64) : hw (m ++ x) = comp (hw m) (lay blk x (m.length % 64)) ∧ ∀ b2 : List UInt8, b2.length = 64 → Blk (m ++ x) b2 := by
  obtain ⟨h1, h2⟩ := h
  have e1 : (m ++ x).length / 64 = m.length / 64 + 1 := by rw [List.length_append]; omega
  have e2 : (m ++ x).length % 64 = 0 := by rw [List.length_append]; omega
  refine ⟨?_, fun b2 hb2 => ⟨hb2, ?_⟩⟩
  · unfold hw
    rw [e1, hs, hs_app m x _ (by omega)]
    congr 1
    unfold lay
    have hd : List.drop 64 blk = [] := List.drop_of_length_le (by omega)
    rw [hf, hd, List.append_nil, h2, List.drop_append_of_le_length (by omega), List.take_of_length_le]
    rw [List.length_append, List.length_drop]; omega
  · rw [e1, e2, List.take_zero, List.drop_of_length_le]
    rw [List.length_append]; omega
theorem blk_nil (b : List UInt8) (h : b.length = 64) : Blk [] b := ⟨h, by simp⟩
theorem hw_nil : hw [] = H0 := rfl
end Sha
end Go.Proofs.YtogpjoldfcmbfaaDoor
