
/- The document's block. -/
import Derived.Test.YtkpdjeiocdppoaaRF1
import Derived.Test.YtkpdjeiocdppoaaSMix
import Derived.Lib.BufferWrite
namespace Go.Proofs.Ytkpdjeiocdppoaa
open Go.RowKit
set_option linter.unusedVariables false

theorem still_ofD {P : Program} {f : FuncId} {args : Array Value} {w : World} {v : Value} (h : Calls P f args w fun e w' => e = .returned v ∧ w = w') : Calls P f args w fun e w' => e = .returned v ∧ w' = w :=
  h.mono fun _ _ ⟨a, b⟩ => ⟨a, b.symm⟩
def zeros8 : Array Value := Array.replicate 8 (.int .u32 0)
def rowA (l : List UInt8) (k j : Nat) : Value := .int .u32 (if j < k then Sha.wd l j else 0)
theorem rowA_step (l : List UInt8) (k : Nat) (x : Int) (h : Sha.wd l k = x) (j : Nat) : (if j = k then Value.int .u32 x else rowA l k j) = rowA l (k + 1) j := by
  subst h
  unfold rowA
  by_cases e : j = k
  · subst e; simp
  · rw [if_neg e]
    by_cases h1 : j < k
    · rw [if_pos h1, if_pos (by omega)]
    · rw [if_neg h1, if_neg (by omega)]
theorem rowA_end (l : List UInt8) (j : Nat) : rowA l 16 j = row2 (Sha.W l) 0 j := by
  unfold rowA row2
  by_cases h : j < 16
  · rw [if_pos h, if_pos (by omega), Sha.W_first l j h]
  · rw [if_neg h, if_neg (by omega)]
theorem wd_drop (l : List UInt8) (k : Nat) : Sha.wd (l.drop (4 * k)) 0 = Sha.wd l k := by
  unfold Sha.wd Sha.bt
  simp only [List.getD, List.getElem?_drop]
  simp
/-- Eight words as cells. -/
structure Eight (cs : Array Value) (H : Sha.St) : Prop where
  size : cs.size = 8
  all : cs.all (·.oneCell') = true
  cell : ∀ j, j < 8 → cs[j]? = some (.int .u32 (H.list.getD j 0))
theorem ex_toList (s : ByteArray) (k n : Nat) (h : n = s.size) : (s.extract k n).data.toList = s.data.toList.drop k := by
  subst h
  rw [ByteArray.data_extract, Array.toList_extract]
  simp only [List.extract]
  rw [List.take_of_length_le]
  rw [List.length_drop, ← Lib.size_eq]
  omega

theorem t1_eq2 (a b c d e f g h kk x : Int) : IntKind.u32.wrap (IntKind.u32.wrap (IntKind.u32.wrap (IntKind.u32.wrap (h + bits BinOp.xor IntKind.u32 (bits BinOp.xor IntKind.u32 (Sha.rr e 6) (Sha.rr e 11)) (Sha.rr e 25)) +
    bits BinOp.xor IntKind.u32 (bits BinOp.and IntKind.u32 e f) (bits BinOp.and IntKind.u32 (bits BinOp.xor IntKind.u32 IntKind.u32.max e) g)) + kk) + x) = Sha.t1 ⟨a, b, c, d, e, f, g, h⟩ kk x := t1_eq a b c d e f g h kk x
theorem t2_eq2 (a b c d e f g h : Int) : IntKind.u32.wrap (bits BinOp.xor IntKind.u32 (bits BinOp.xor IntKind.u32 (Sha.rr a 2) (Sha.rr a 13)) (Sha.rr a 22) +
    bits BinOp.xor IntKind.u32 (bits BinOp.xor IntKind.u32 (bits BinOp.and IntKind.u32 a b) (bits BinOp.and IntKind.u32 a c)) (bits BinOp.and IntKind.u32 b c)) = Sha.t2 ⟨a, b, c, d, e, f, g, h⟩ := by
  simp only [IntKind.wrap_u32']
  rfl
def p8row (U Y : Nat → Int) (k j : Nat) : Value := .int .u32 (part8 U Y k j)
theorem p8row_step (U Y : Nat → Int) (k : Nat) (v y : Int) (hv : U k = v) (hy : Y k = y) (j : Nat) : (if j = k then Value.int .u32 (Sha.ad v y) else p8row U Y k j) = p8row U Y (k + 1) j := by
  subst hv hy
  unfold p8row part8
  by_cases e : j = k
  · subst e; simp
  · rw [if_neg e]
    by_cases h1 : j < k
    · rw [if_pos h1, if_pos (by omega)]
    · rw [if_neg h1, if_neg (by omega)]
theorem eight_all (a b c d e f g h : Int) : (#[Value.int .u32 a, .int .u32 b, .int .u32 c, .int .u32 d, .int .u32 e, .int .u32 f, .int .u32 g, .int .u32 h] : Array Value).all (·.oneCell') = true := by
  simp [Value.oneCell']
theorem eight_lit (a b c d e f g h : Int) : Eight #[.int .u32 a, .int .u32 b, .int .u32 c, .int .u32 d, .int .u32 e, .int .u32 f, .int .u32 g, .int .u32 h] ⟨a, b, c, d, e, f, g, h⟩ :=
  ⟨rfl, eight_all a b c d e f g h, fun j hj => list8 a b c d e f g h j hj⟩
end Go.Proofs.Ytkpdjeiocdppoaa
