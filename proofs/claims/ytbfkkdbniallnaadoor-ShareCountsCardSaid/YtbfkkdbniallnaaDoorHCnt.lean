
/- The walk through ShareCounts. -/
import Derived.Test.YtbfkkdbniallnaaDoorHXp
namespace Go.Proofs.YtbfkkdbniallnaaDoor
open Go.RowKit Go.Sort
open Num
set_option linter.unusedVariables false

/-- The digits of a number, the last one first. -/
def dg (n k : Nat) : List Int := (List.range k).map fun i => ((n / 5 ^ i % 5 : Nat) : Int)
theorem dg_succ (n k : Nat) : dg n k ++ [((n / 5 ^ k % 5 : Nat) : Int)] = dg n (k + 1) := by simp [dg, List.range_succ]
theorem dg_len (n k : Nat) : (dg n k).length = k := by simp [dg]
theorem dg_els (n k : Nat) : Els 5 (dg n k) := fun x hx => by
  obtain ⟨i, _, rfl⟩ := List.mem_map.1 hx
  exact ⟨by omega, by omega⟩
/-- The view of the first j holders. -/
def vw (K s n : Nat) : Nat → Nat
  | 0 => 0
  | j + 1 => 5 * vw K s n j + (E (((s : Nat) : Int) :: dg n K) ((j + 1 : Nat) : Int) % 5).toNat
/-- How often a view has come up. -/
def cnt (K s n v : Nat) : Nat := ((List.range n).filter fun m => vw K s m K == v).length
theorem cnt_zero (K s v : Nat) : cnt K s 0 v = 0 := rfl
theorem cnt_succ (K s n v : Nat) : cnt K s (n + 1) v = cnt K s n v + (if vw K s n K = v then 1 else 0) := by
  unfold cnt
  rw [List.range_succ, List.filter_append, List.length_append]
  by_cases h : vw K s n K = v
  · simp [h]
  · simp [h]
theorem cnt_all : ∀ K, K < 3 → ∀ s, s < 5 → ∀ v, v < 5 ^ K → cnt K s (5 ^ K) v = 1 := by decide +kernel
theorem vw_lt : ∀ K, K < 3 → ∀ s, s < 5 → ∀ n, n < 5 ^ K → vw K s n K < 5 ^ K := by decide +kernel
theorem vw_small : ∀ K, K < 3 → ∀ s, s < 5 → ∀ n, n < 5 ^ K → ∀ j, j ≤ K → vw K s n j < 625 := by decide +kernel
def selN (s0 s1 r : Nat) : Nat := if r = 0 then s0 else s1
/-- What the counters hold. -/
def cf (K s0 s1 W n i : Nat) : Int := if i / 625 < W then (cnt K (selN s0 s1 (i / 625)) (5 ^ K) (i % 625) : Nat) else if i / 625 = W then (cnt K (selN s0 s1 (i / 625)) n (i % 625) : Nat) else 0
theorem cf_zero (K s0 s1 i : Nat) : cf K s0 s1 0 0 i = 0 := by
  unfold cf
  rw [if_neg (by omega)]
  split
  · rw [cnt_zero]; rfl
  · rfl
theorem cf_next (K s0 s1 W i : Nat) : cf K s0 s1 W (5 ^ K) i = cf K s0 s1 (W + 1) 0 i := by
  unfold cf
  by_cases h : i / 625 < W
  · rw [if_pos h, if_pos (by omega)]
  · rw [if_neg h]
    by_cases h2 : i / 625 = W
    · rw [if_pos h2, if_pos (by omega)]
    · rw [if_neg h2, if_neg (by omega)]
      split
      · rw [cnt_zero]; rfl
      · rfl
theorem cf_step {K s0 s1 W n s i : Nat} (hs : selN s0 s1 W = s) (hv : vw K s n K < 625) : cf K s0 s1 W (n + 1) i = if i = W * 625 + vw K s n K then cf K s0 s1 W n i + 1 else cf K s0 s1 W n i := by
  unfold cf
  by_cases h : i / 625 < W
  · rw [if_pos h, if_pos h, if_neg (by omega)]
  · rw [if_neg h, if_neg h]
    by_cases h2 : i / 625 = W
    · rw [if_pos h2, if_pos h2, h2, hs, cnt_succ]
      by_cases h3 : vw K s n K = i % 625
      · rw [if_pos h3, if_pos (by omega)]; push_cast; rfl
      · rw [if_neg h3, if_neg (by omega)]; rfl
    · rw [if_neg h2, if_neg h2, if_neg (by omega)]
theorem cf_at {K s0 s1 W n s v : Nat} (hs : selN s0 s1 W = s) (hv : v < 625) : cf K s0 s1 W n (W * 625 + v) = (cnt K s n v : Nat) := by
  unfold cf
  have h1 : (W * 625 + v) / 625 = W := by omega
  have h2 : (W * 625 + v) % 625 = v := by omega
  rw [h1, h2, if_neg (by omega), if_pos rfl, hs]
theorem cf_end {K s0 s1 r v : Nat} (hK : K < 3) (h0 : s0 < 5) (h1 : s1 < 5) (hr : r < 2) (hv : v < 5 ^ K) : cf K s0 s1 2 0 (r * 625 + v) = 1 := by
  have hb : 5 ^ K ≤ 25 := by
    have : K = 0 ∨ K = 1 ∨ K = 2 := by omega
    rcases this with rfl | rfl | rfl <;> decide
  unfold cf
  have e1 : (r * 625 + v) / 625 = r := by omega
  have e2 : (r * 625 + v) % 625 = v := by omega
  rw [e1, e2, if_pos hr]
  have : cnt K (selN s0 s1 r) (5 ^ K) v = 1 := cnt_all K hK _ (by unfold selN; split <;> assumption) v hv
  rw [this]; rfl
theorem zeros1250 : Tryd.zeroCells64 = Array.replicate 1250 (.int .i64 0) := by kernel_rfl
/-- What ShareCounts keeps. -/
structure CtW (w0 W : World) (g K1 H : Nat) (s0 s1 : Nat) (f : Nat → Int) : Prop where
  pl : PlanAt W g 5 (K1 : Int) (H : Int)
  row : W.rowIs (g + 1) 64 1250 (fun i => .int .i64 (f i))
  ss : ∃ t, W.heap[g + 2]? = some (.cells #[.int .i64 (s0 : Int), .int .i64 (s1 : Int)] t (0, 0))
  be : Below g w0 W
  wh : Wheel W
  sz : g + 2 < W.heap.size
  ta : 0 < g
theorem CtW.below {w0 W W' : World} {g K1 H s0 s1 : Nat} {f : Nat → Int} (h : CtW w0 W g K1 H s0 s1 f) (b : Below W.heap.size W W') : CtW w0 W' g K1 H s0 s1 f := by
  have hz := h.sz
  have ht := h.ta
  obtain ⟨t, hs⟩ := h.ss
  exact ⟨h.pl.below (by omega) b, h.row.of_block (b.block _ (by omega)), ⟨t, by rw [b.block _ hz]; exact hs⟩, h.be.trans (b.mono (by omega)), h.wh.below (by omega) b, Nat.lt_of_lt_of_le hz b.size, ht⟩
theorem CtW.set {w0 W : World} {g K1 H s0 s1 : Nat} {f f' : Nat → Int} (h : CtW w0 W g K1 H s0 s1 f) (i : Nat) (v : Int) (e : ∀ j, j < 1250 → f' j = if j = i then v else f j) : CtW w0 (W.setCell ⟨g + 1, i, none⟩ (.int .i64 v)) g K1 H s0 s1 f' := by
  have hb := set1_below (B := g + 1) W (g := g + 1) i (.int .i64 v) (Nat.le_refl _)
  obtain ⟨t, hs⟩ := h.ss
  refine ⟨h.pl.below (Nat.lt_succ_self g) hb, (h.row.set i (.int .i64 v)).congr fun j hj => ?_, ⟨t, by rw [blk_other _ _ _ _ (by omega)]; exact hs⟩, h.be.trans (hb.mono (Nat.le_succ g)), h.wh.below (by have := h.ta; omega) hb, by simpa using h.sz, h.ta⟩
  rw [e j hj]
  by_cases e2 : j = i
  · rw [if_pos e2, if_pos e2]
  · rw [if_neg e2, if_neg e2]
theorem CtW.congr {w0 W : World} {g K1 H s0 s1 : Nat} {f f' : Nat → Int} (h : CtW w0 W g K1 H s0 s1 f) (e : ∀ j, f j = f' j) : CtW w0 W g K1 H s0 s1 f' := by
  obtain rfl : f = f' := funext e
  exact h
theorem ct_row (w : World) (K s0 s1 : Nat) : (w.alloc (.cells Tryd.zeroCells64 64)).rowIs w.heap.size 64 1250 (fun i => .int .i64 (cf K s0 s1 0 0 i)) := by
  rw [zeros1250]
  have h := World.rowIs_alloc w (Array.replicate 1250 (.int .i64 0)) 64 (fun i => .int .i64 (cf K s0 s1 0 0 i)) (fun i hi => by
    rw [Array.size_replicate] at hi
    simp [hi, cf_zero])
  rw [Array.size_replicate] at h
  exact h
end Go.Proofs.YtbfkkdbniallnaaDoor
