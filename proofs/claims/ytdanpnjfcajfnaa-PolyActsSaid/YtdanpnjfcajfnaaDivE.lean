
/- poly.Divide by nothing. -/
import Derived.Test.YtdanpnjfcajfnaaClone
import Derived.Test.YtdanpnjfcajfnaaWts
namespace Go.Proofs.Ytdanpnjfcajfnaa
open Go.RowKit Go.Shelf Go.Sort
open Num
set_option linter.unusedVariables false
attribute [local go_sem] Oper.semAt_some

set_option maxRecDepth 100000 in
set_option maxHeartbeats 800000 in
/-- A divisor that is nothing. -/
theorem divide_err (p : Int) (va : Value) (ab : Option Addr) (lb cb : Nat) (b : List Int) (w : World) (hsb : Ints w (.slice ab lb cb) b) (hn : dg b = 0) :
    Calls Try.prog 14 #[.int .i64 p, va, .slice ab lb cb] w fun e w' =>
      e = .returned (.tuple #[.slice none 0 0, .slice none 0 0, .int .i64 7]) ∧ Below w.heap.size w w' := by
  have hb0 : Below w.heap.size w ((w.alloc (.cells #[.int .i64 p] 3)).alloc (.cells #[.slice ab lb cb] 22)) := ((Below.refl _ _).alloc (Nat.le_refl _) _).alloc (by simp) _
  have HDG := Lib.hid (degree_any _ b _ (hsb.below (Nat.le_refl _) hb0))
  rw [hn, show ((0 : Nat) : Int) - 1 = -1 from rfl] at HDG
  have HB0 := Lib.hid hb0
  have b0 := Boxed.new w 3 (.int .i64 p)
  have b1 := Boxed.new (w.alloc (.cells #[.int .i64 p] 3)) 22 (.slice ab lb cb)
  rw [World.size_alloc] at b1
  have c0 := (b0.alloc (.cells #[.slice ab lb cb] 22)).cell
  have c1 := b1.cell
  clear b0 b1 hb0
  refine (callsIn_wide (n := 6)).1 (callsIn_of_wp_marks Try.func14 rfl trivial ?_ rfl)
  simp only [Try.ntmps14, List.size_toArray, List.length_cons, List.length_nil, Nat.reduceAdd, Nat.reduceSub, Array.replicate_succ, Array.replicate_zero, List.push_toArray, List.append_toArray, List.nil_append, List.cons_append]
  have hsz0 : ((w.alloc (.cells #[.int .i64 p] 3)).alloc (.cells #[.slice ab lb cb] 22)).heap.size = w.heap.size + 2 := by simp
  generalize hw0 : (w.alloc (.cells #[.int .i64 p] 3)).alloc (.cells #[.slice ab lb cb] 22) = w0 at *
  have HW0 := Lib.hid hw0
  clear hw0
  gi_wp2_with (rw [HW0.out]; refine ⟨trivial, ?_⟩; gi_at_call 18; refine (callsIn_wide.2 HDG.out).mono ?_; rintro e w1 ⟨rfl, hb1⟩)
  exact ⟨_, results_tmp3 rfl _ _ _, rfl, (HB0.out.trans (hb1.mono HB0.out.size)).trans (((Below.refl _ _).alloc (Nat.le_refl _) _).mono (Nat.le_trans HB0.out.size hb1.size))⟩
end Go.Proofs.Ytdanpnjfcajfnaa
