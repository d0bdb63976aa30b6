
/- slices.Backward over a slice of integers: its iterator's contract. -/
import Derived.Test.YtpohhgbmdgjipaaLin
import Derived.RangeFuncNested
import Derived.RangeFuncBound
import Derived.RangeFuncBox
import Derived.RangeFuncCalls
import Derived.RangeFuncLeaves
import Derived.Shelf.Abstract
import Derived.Shelf.RegionOpen
import Derived.OwnWalkIn
import Derived.TacticsInMore
import Derived.LoopNIn
import Derived.LoopIn
namespace Go.Proofs.Ytpohhgbmdgjipaa
open Go.RowKit Go.Shelf
open Num
set_option linter.unusedVariables false
attribute [local go_sem] Oper.semAt_some

/-- The box holds the slice, and each of its places an allowed number. -/
def Reads (R : Nat → Int → Prop) (Bs : Nat) (a : Option Addr) (len cap : Nat) (W : World) : Prop :=
  W.cell? ⟨Bs, 0, none⟩ = some (.slice a len cap) ∧ ∀ j, j < len → ∃ b off v, a = some ⟨b, off, none⟩ ∧ R j v ∧ W.cell? ⟨b, off + j, none⟩ = some (.int .i64 v)
theorem Reads.of_cells {R : Nat → Int → Prop} {Bs : Nat} {a : Option Addr} {len cap : Nat} {W W' : World} (h : Reads R Bs a len cap W) (hc : ∀ p : Addr, ∀ v, W.cell? p = some v → W'.cell? p = some v) : Reads R Bs a len cap W' :=
  ⟨hc _ _ h.1, fun j hj => by obtain ⟨b, off, v, ha, hR, hv⟩ := h.2 j hj; exact ⟨b, off, v, ha, hR, hc _ _ hv⟩⟩
/-- A turn of an object that is no cells leaves every cell. -/
theorem cell_putObj {W : World} {l : Nat} {o o' : Obj} (hl : W.heap[l]? = some o) (ho : o.isCells = false) {p : Addr} {v : Value} (h : W.cell? p = some v) : (W.putObj l o').cell? p = some v :=
  cell_kept h (grownBy_putObj' W l o') (fun r e => by cases e; exact ⟨o, hl, ho⟩)

abbrev BX (len : Nat) (R : Nat → Int → Prop) := { x : Nat × Int // x.1 < len ∧ R x.1 x.2 }
/-- The places from the last one down, the first k of them. -/
def down (len k : Nat) : List Nat := (List.range k).map fun j => len - 1 - j
theorem down_succ (len k : Nat) : down len (k + 1) = down len k ++ [len - 1 - k] := by simp [down, List.range_succ]
theorem down_length (len k : Nat) : (down len k).length = k := by simp [down]

set_option maxRecDepth 100000 in
set_option maxHeartbeats 2000000 in
theorem back1_in (n : Nat) (hn : 1 ≤ n) (l Bs : Nat) (a : Option Addr) (len cap : Nat) (R : Nat → Int → Prop) (hreach : len ≤ 140737488355328) (J Jx : List (BX len R) → World → Prop)
    (hY : ∀ pre x W, J pre W → pre.length < len → YieldAt Fence.wide (n - 1) Try.prog l #[.int .i64 (x.1.1 : Int), .int .i64 x.1.2] W fun e W' =>
      (e = .returned (.bool true) ∧ J (pre ++ [x]) W' ∧ (Reads R Bs a len cap W → Reads R Bs a len cap W')) ∨ (e = .returned (.bool false) ∧ Jx (pre ++ [x]) W'))
    (W : World) (hQ : Reads R Bs a len cap W) (h0 : J [] W) :
    CallsIn Fence.wide n Try.prog 47 #[.func (.yield l) #[] #[], .pointer (some ⟨Bs, 0, none⟩)] W fun e W' => (∃ v, e = .returned v) ∧
      ((∃ ys : List (BX len R), ys.map (·.1.1) = down len len ∧ J ys W') ∨ (∃ pre : List (BX len R), (∃ k, k ≤ len ∧ pre.map (·.1.1) = down len k) ∧ Jx pre W')) := by
  refine callsIn_of_wp Try.func47 rfl trivial ?_ rfl
  simp only [Try.ntmps47, List.size_toArray, List.length_cons, List.length_nil, Nat.reduceAdd, Nat.reduceSub, Array.replicate_succ, Array.replicate_zero, List.push_toArray, List.append_toArray, List.nil_append, List.cons_append]
  have hc0 := hQ.1
  gi_wp2
  gi_loopw [3] (fun i wr => ∃ r : Nat, ∃ pre : List (BX len R), r ≤ len ∧ i = .int .i64 ((r : Int) - 1) ∧ Hid (pre.map (·.1.1) = down len (len - r)) ∧ J pre wr ∧ Reads R Bs a len cap wr)
    (fun i _ => (intOf i + 1).toNat)
  case atStart => exact ⟨len, [], Nat.le_refl _, rfl, Lib.hid (by simp [down]), h0, hQ⟩
  case round =>
    obtain ⟨r, pre, hr, rfl, hpre, hJs, hq⟩ := hrel
    have hcb := hq.1
    by_cases hlt : 0 < r
    · obtain ⟨m, rfl⟩ : ∃ m, r = m + 1 := ⟨r - 1, by omega⟩
      obtain ⟨b, off, v, rfl, hRv, hcv⟩ := hq.2 m (by omega)
      have hm0 : ((m + 1 : Nat) : Int) - 1 = (m : Int) := by omega
      obtain ⟨fn, tmps, assign, body, hy, hR⟩ := hY pre ⟨(m, v), by omega, hRv⟩ wr hJs (by have := congrArg List.length hpre.out; rw [List.length_map, down_length] at this; omega)
      dsimp only at hy
      have HR := Lib.hid hR
      have HQ := Lib.hid hq
      clear hR hq hJs
      rw [hm0]
      gi_wp2
      refine HR.out.mono ?_
      have hpre' : Hid ((pre ++ [(⟨(m, v), by omega, hRv⟩ : BX len R)]).map (·.1.1) = down len (len - m)) := by
        show _ = _
        have e : len - m = len - (m + 1) + 1 := by omega
        rw [List.map_append, hpre.out, e, down_succ]
        simp; omega
      rintro e W3 (⟨rfl, hJ3, hk3⟩ | ⟨rfl, hJx3⟩)
      · have HQ3 := Lib.hid (hk3 HQ.out)
        clear hk3
        gi_wp2
        go_roundw
        case rel => exact ⟨m, pre ++ [⟨(m, v), by omega, hRv⟩], by omega, rfl, hpre', hJ3, HQ3.out⟩
        case measure => simp [intOf]
      · gi_wp2
        refine bodyPost_ret (results_none rfl _ _ _) rfl ?_
        exact ⟨⟨_, rfl⟩, .inr ⟨pre ++ [⟨(m, v), by omega, hRv⟩], ⟨len - m, by omega, hpre'.out⟩, hJx3⟩⟩
    · obtain rfl : r = 0 := by omega
      gi_wp2
      go_end0
      exact ⟨⟨_, rfl⟩, .inl ⟨pre, by have := hpre.out; simpa using this, hJs⟩⟩

theorem backward_any (a : Option Addr) (len cap : Nat) (w : World) :
    Calls Try.prog 34 #[.slice a len cap] w fun e w' => e = .returned (.func (.func 47) #[] #[.pointer (some ⟨w.heap.size, 0, none⟩)]) ∧ w' = w.alloc (.cells #[.slice a len cap] 22) := by
  go_enter Try.func34, Try.ntmps34
  go_wp2
  go_ret
  exact ⟨rfl, rfl⟩

/-- The iterator's contract: the places from the last one down, each with an allowed number. -/
theorem back_stops (n : Nat) (hn : 1 ≤ n) (Bs : Nat) (a : Option Addr) (len cap : Nat) (R : Nat → Int → Prop) (hreach : len ≤ 140737488355328) (w : World) (hQ : Reads R Bs a len cap w) :
    SeqStopsK Fence.wide n Try.prog 47 #[.pointer (some ⟨Bs, 0, none⟩)] (fun x : BX len R => #[Value.int .i64 (x.1.1 : Int), Value.int .i64 x.1.2]) (fun A B => Reads R Bs a len cap A → Reads R Bs a len cap B)
      (fun ys => ys.map (·.1.1) = down len len) (fun pre => ∃ k, k ≤ len ∧ pre.map (·.1.1) = down len k) len w := fun l J Jx W hW _ _ hY h0 =>
  back1_in n hn l Bs a len cap R hreach J Jx hY W (hQ.of_cells fun p v h => by rw [hW.cell (cell_lt h)]; exact h) h0
end Go.Proofs.Ytpohhgbmdgjipaa
