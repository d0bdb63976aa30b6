
/- Pairs, streams and elements: the document's. -/
import Derived.Test.YtkpdjeiocdppoaaRSum
import Derived.Test.YtkpdjeiocdppoaaSElt
import Derived.Test.YtkpdjeiocdppoaaOwn
namespace Go.Proofs.Ytkpdjeiocdppoaa
open Go.RowKit
set_option linter.unusedVariables false

theorem hf_cells (n : Nat) (a b c d : Int) (ha : a = (n : Int) / 16777216 % 256) (hb : b = (n : Int) / 65536 % 256) (hc : c = (n : Int) / 256 % 256) (hd : d = (n : Int) % 256) (j : Nat) (hj : j < (hf n 4).length) :
    (#[Value.int .u8 a, .int .u8 b, .int .u8 c, .int .u8 d] : Array Value)[j]? = some (.int .u8 ((hf n 4)[j].toNat : Int)) := by
  rw [hf_len] at hj
  have : j = 0 ∨ j = 1 ∨ j = 2 ∨ j = 3 := by omega
  have e : hf n 4 = [hfb n 4 0, hfb n 4 1, hfb n 4 2, hfb n 4 3] := rfl
  rcases this with rfl | rfl | rfl | rfl
  · simp only [e]; subst ha; simp [hfb_val]
  · simp only [e]; subst hb; simp [hfb_val]
  · simp only [e]; subst hc; simp [hfb_val]
  · simp only [e]; subst hd; simp [hfb_val]
theorem cat_toList (a b : ByteArray) : (a ++ b).data.toList = a.data.toList ++ b.data.toList := by
  rw [ByteArray.data_append]; simp
def GathR (w : World) (base : Nat) (v : Value) (l : List Int) : Prop := Gath w base v l
theorem GathR.belowD {w w' : World} {base : Nat} {v : Value} {l : List Int} (h : Gath w base v l) (b : Below w.heap.size w w') : Gath w' base v l :=
  World.ownsRow.kept (row := none) h ⟨b.os, b.tape, b.output, b.size, fun k hk _ => b.block k hk⟩ (by
    cases e : v.ownBlock with
    | none => exact .inl rfl
    | some g => exact .inr (by simp))

end Go.Proofs.Ytkpdjeiocdppoaa
