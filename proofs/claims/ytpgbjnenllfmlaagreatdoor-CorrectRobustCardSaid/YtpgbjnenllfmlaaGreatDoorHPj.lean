
/- What the program's Deal checks, and the polynomials that hide a secret. -/
import Derived.Test.YtpgbjnenllfmlaaGreatDoorHPa
import Derived.Test.YtpgbjnenllfmlaaGreatDoorHDea
import Derived.Laws.CopyOwn
import Derived.Test.YtpgbjnenllfmlaaGreatDoorHTur
import Derived.Test.YtpgbjnenllfmlaaGreatDoorHFit
import Derived.Deep.WholeRow
/-! What the program's Deal checks, and the polynomials that hide a secret. -/
namespace Go.Proofs.YtpgbjnenllfmlaaGreatDoor
open Go.RowKit Go.Sort
open Num
set_option linter.unusedVariables false

/-! ### The polynomials -/
def zeros16 : Array Value := #[.int .i64 0, .int .i64 0, .int .i64 0, .int .i64 0, .int .i64 0, .int .i64 0, .int .i64 0, .int .i64 0, .int .i64 0, .int .i64 0, .int .i64 0, .int .i64 0, .int .i64 0, .int .i64 0, .int .i64 0, .int .i64 0]
def head16 (x : Int) : List Value := .int .i64 x :: List.replicate 15 (.int .i64 0)
theorem zeros16_set (x : Int) : zeros16.setIfInBounds 0 (.int .i64 x) = (head16 x).toArray := rfl
def hidA (l : List Int) : List Value := (List.range 16).map fun i => Value.int .i64 (l.getD i 0)
theorem hidA_len (l : List Int) : (hidA l).length = 16 := by simp [hidA]
theorem hidA_all (l : List Int) : (hidA l).toArray.all (·.oneCell') = true := all_oneCell_toArray (fun v hv => by
  obtain ⟨i, _, rfl⟩ := List.mem_map.1 hv
  rfl)
theorem splice_hid (x : Int) (rr : List Int) (h : rr.length ≤ 15) : splice (head16 x) 1 (rr.map (Value.int .i64)) = hidA (x :: rr) := by
  refine List.ext_getElem (by rw [length_splice]; simp [head16, hidA]; simp [head16]; omega) fun i h1 h2 => ?_
  rw [hidA_len] at h2
  have e2 : (hidA (x :: rr))[i]? = some (Value.int .i64 ((x :: rr).getD i 0)) := by simp [hidA, h2]
  have e1 : (splice (head16 x) 1 (rr.map (Value.int .i64)))[i]? = some (Value.int .i64 ((x :: rr).getD i 0)) := by
    unfold splice head16
    rcases i with _ | i
    · simp
    · have e : (Value.int IntKind.i64 x :: List.replicate 15 (Value.int IntKind.i64 0)).take 1 = [Value.int IntKind.i64 x] := rfl
      rw [e, List.singleton_append, List.getElem?_cons_succ]
      by_cases hi : i < rr.length
      · rw [List.getElem?_append_left (by simpa using hi)]
        simp [List.getD, hi]
      · rw [List.getElem?_append_right (by simp; omega)]
        simp only [List.length_map, List.getElem?_drop]
        rw [show 1 + rr.length + (i - rr.length) = i + 1 by omega, List.getElem?_cons_succ, List.getElem?_replicate, if_pos (by omega)]
        simp [List.getD, show rr.length ≤ i by omega]
  rw [List.getElem?_eq_getElem h1] at e1
  rw [List.getElem?_eq_getElem (by rw [hidA_len]; exact h2)] at e2
  have := e1.trans e2.symm
  simpa using this
theorem infoIntS : (Tryz.prog.info? 3).map (·.size) = some 1 := by kernel_rfl
end Go.Proofs.YtpgbjnenllfmlaaGreatDoor
/-! The polynomials that hide a secret: the program's hiding. -/
namespace Go.Proofs.YtpgbjnenllfmlaaGreatDoor
open Go.RowKit Go.Sort
open Num
set_option linter.unusedVariables false

end Go.Proofs.YtpgbjnenllfmlaaGreatDoor
/-! Shares as they are made, in memory. -/
namespace Go.Proofs.YtpgbjnenllfmlaaGreatDoor
open Go.RowKit Go.Sort
open Num
set_option linter.unusedVariables false

/-- The shares as they are made: their row, and a row of values for each of the first k. -/
structure MadeS (w : World) (g q N S k : Nat) (G : Nat → Nat) (f : Nat → Nat → Int) : Prop where
  row : RowS w q N (fun j => if j < k then (((j + 1 : Nat) : Int), .slice (some ⟨G j, 0, none⟩) S S) else (0, .slice none 0 0))
  val : ∀ j, j < k → w.rowIs (G j) 3 S (fun i => .int .i64 (f j i))
  up : ∀ i j, i < j → j < k → G i < G j
  lo : ∀ j, j < k → q < G j
  qlo : g ≤ q
  lt : q < w.heap.size
theorem madeCells2 (N i : Nat) (h : i < N) : (madeCells #[.int .i64 0, .slice none 0 0] (N * 2))[i * 2]? = some (Value.int .i64 0) ∧ (madeCells #[.int .i64 0, .slice none 0 0] (N * 2))[i * 2 + 1]? = some (Value.slice none 0 0) := by
  unfold madeCells
  have e1 : i * 2 < N * 2 := by omega
  have e2 : i * 2 + 1 < N * 2 := by omega
  have m1 : i * 2 % 2 = 0 := by omega
  have m2 : (i * 2 + 1) % 2 = 1 := by omega
  constructor
  · rw [Array.getElem?_map, Array.getElem?_range]
    simp [e1, m1]
  · rw [Array.getElem?_map, Array.getElem?_range]
    simp [e2, m2]
theorem made_start (w : World) (g N S : Nat) (G : Nat → Nat) (f : Nat → Nat → Int) (t : TypeId) (hg : g ≤ w.heap.size) : MadeS (w.alloc (.cells (madeCells #[.int .i64 0, .slice none 0 0] (N * 2)) t)) g w.heap.size N S 0 G f := by
  refine ⟨fun i hi => ?_, fun j hj => by omega, fun i j h1 h2 => by omega, fun j hj => by omega, hg, by simp⟩
  obtain ⟨h1, h2⟩ := madeCells2 N i hi
  have hb : (w.alloc (.cells (madeCells #[.int .i64 0, .slice none 0 0] (N * 2)) t)).heap[w.heap.size]? = some (.cells (madeCells #[.int .i64 0, .slice none 0 0] (N * 2)) t (0, 0)) := heap_alloc_new w _
  simp only [Nat.not_lt_zero, if_false]
  refine ⟨?_, ?_, ?_, ?_⟩
  · rw [cell_new]; exact h1
  · rw [cell_new]; exact h2
  · exact frozen_of_row _ _ _ _ _ hb
  · exact frozen_of_row _ _ _ _ _ hb
theorem MadeS.grow {w w' : World} {g q N S k : Nat} {G : Nat → Nat} {f : Nat → Nat → Int} (h : MadeS w g q N S k G f) (b : Below w.heap.size w w') : MadeS w' g q N S k G f :=
  ⟨h.row.of_block (b.block q h.lt), fun j hj => (h.val j hj).of_block (b.block _ (h.val j hj).lt), h.up, h.lo, h.qlo, Nat.lt_of_lt_of_le h.lt b.size⟩
theorem MadeS.congr {w : World} {g q N S k : Nat} {G : Nat → Nat} {f f' : Nat → Nat → Int} (h : MadeS w g q N S k G f) (e : ∀ j i, j < k → i < S → f j i = f' j i) : MadeS w g q N S k G f' :=
  ⟨h.row, fun j hj => (h.val j hj).congr fun i hi => by rw [e j i hj hi], h.up, h.lo, h.qlo, h.lt⟩
theorem rowS_congr {w : World} {q n : Nat} {Z Z' : Nat → Int × Value} (h : RowS w q n Z) (e : ∀ i, i < n → Z i = Z' i) : RowS w q n Z' := fun i hi => by rw [← e i hi]; exact h i hi
theorem blk_other (w : World) (q o : Nat) (x : Value) {b : Nat} (hb : b ≠ q) : (w.setCell ⟨q, o, none⟩ x).heap[b]? = w.heap[b]? := Below.heap_setCell w ⟨q, o, none⟩ x b (fun e => hb e)
theorem setCells2_other (w : World) (q o : Nat) (x y : Value) {b : Nat} (hb : b ≠ q) : (w.setCells q o [x, y]).heap[b]? = w.heap[b]? := by
  show ((w.setCell ⟨q, o, none⟩ x).setCell ⟨q, o + 1, none⟩ y).heap[b]? = _
  rw [blk_other _ _ _ _ hb, blk_other _ _ _ _ hb]
theorem setCells2_size (w : World) (q o : Nat) (x y : Value) : (w.setCells q o [x, y]).heap.size = w.heap.size := by
  show ((w.setCell ⟨q, o, none⟩ x).setCell ⟨q, o + 1, none⟩ y).heap.size = _
  simp
theorem MadeS.push {w : World} {g q N S k : Nat} {G : Nat → Nat} (h : MadeS w g q N S k G (fun _ _ => 0)) (hk : k < N) :
    MadeS ((w.alloc (.cells (madeCells #[.int .i64 0] S) 3)).setCells q (k * 2) [.int .i64 ((k + 1 : Nat) : Int), .slice (some ⟨w.heap.size, 0, none⟩) S S]) g q N S (k + 1) (fun j => if j = k then w.heap.size else G j) (fun _ _ => 0) := by
  have h1 := h.grow (w' := w.alloc (.cells (madeCells #[.int .i64 0] S) 3)) ((Below.refl _ _).alloc (Nat.le_refl _) _)
  have hv0 := World.rowIs_made w (.int .i64 0) S 3
  have hlt := h.lt
  refine ⟨?_, fun j hj => ?_, fun i j hij hj => ?_, fun j hj => ?_, h.qlo, ?_⟩
  · refine rowS_congr (h1.row.store hk (((k + 1 : Nat) : Int), .slice (some ⟨w.heap.size, 0, none⟩) S S)) fun i hi => ?_
    by_cases e : i = k
    · subst e; simp
    · by_cases e2 : i < k
      · simp [e, e2, show i < k + 1 by omega]
      · simp [e, e2, show ¬ i < k + 1 by omega]
  · by_cases e : j = k
    · subst e
      simp only [if_true]
      exact hv0.of_block (setCells2_other _ _ _ _ _ (by omega))
    · simp only [if_neg e]
      have := h.lo j (by omega)
      exact (h1.val j (by omega)).of_block (setCells2_other _ _ _ _ _ (by omega))
  · by_cases e : j = k
    · subst e
      have h3 : i ≠ j := by omega
      simp only [if_neg h3, if_true]
      exact (h.val i hij).lt
    · have h3 : i ≠ k := by omega
      simp only [if_neg h3, if_neg e]
      exact h.up i j hij (by omega)
  · by_cases e : j = k
    · subst e; simp only [if_true]; exact h.lt
    · simp only [if_neg e]; exact h.lo j (by omega)
  · rw [setCells2_size]; simp; omega
theorem MadeS.inj {w : World} {g q N S k : Nat} {G : Nat → Nat} {f : Nat → Nat → Int} (h : MadeS w g q N S k G f) {i j : Nat} (hi : i < k) (hj : j < k) (hne : i ≠ j) : G i ≠ G j := by
  rcases Nat.lt_or_gt_of_ne hne with h1 | h1
  · have := h.up i j h1 hj; omega
  · have := h.up j i h1 hi; omega
theorem MadeS.set {w : World} {g q N S k : Nat} {G : Nat → Nat} {f : Nat → Nat → Int} (h : MadeS w g q N S k G f) {j i : Nat} (hj : j < k) (v : Int) : MadeS (w.setCell ⟨G j, i, none⟩ (.int .i64 v)) g q N S k G (fun j' i' => if j' = j ∧ i' = i then v else f j' i') := by
  have hq := h.lo j hj
  refine ⟨h.row.of_block (blk_other _ _ _ _ (by omega)), fun j' hj' => ?_, h.up, h.lo, h.qlo, by simpa using h.lt⟩
  by_cases e : j' = j
  · subst e
    refine ((h.val j' hj').set i (.int .i64 v)).congr fun i' hi' => ?_
    by_cases e2 : i' = i
    · subst e2; simp
    · simp [e2]
  · refine ((h.val j' hj').of_block (blk_other _ _ _ _ (h.inj hj' hj e))).congr fun i' hi' => ?_
    simp [e]
theorem MadeS.shares {w : World} {g q N S : Nat} {G : Nat → Nat} {f : Nat → Nat → Int} (h : MadeS w g q N S N G f) {L : List Shr} (hl : L.length = N) (hN : N ≤ 1000) (hS : S ≤ 1000000)
    (he : ∀ j, j < N → L.getD j (0, []) = (((j + 1 : Nat) : Int), (List.range S).map (f j))) : SharesN w g (.slice (some ⟨q, 0, none⟩) N N) L := by
  subst hl
  refine ⟨_, _, rfl, hN, Nat.le_refl _, by omega, fun _ => ⟨q, 0, rfl, h.qlo, fun i hi => ?_⟩⟩
  obtain ⟨c0, c1, _, _⟩ := h.row i hi
  simp only [if_pos hi] at c0 c1
  rw [he i hi, Nat.zero_add]
  have hq := h.lo i hi
  have hg := h.qlo
  refine ⟨_, c0, c1, ?_, fun b hb => by simp [Value.ownBlock] at hb; omega⟩
  exact (row_gath (base := g) (f := f i) (h.val i hi) (by omega) (by unfold maxLen; omega)).reads (by simp; omega)
/-- What has been stored behind m elements and t shares of the next one. -/
def ffv (p : Int) (K : Nat) (s r : List Int) (m t j i : Nat) : Int := if i < m ∨ (i = m ∧ j < t) then E (polyL K s r i) ((j + 1 : Nat) : Int) % p else 0
theorem ffv_zero (p : Int) (K : Nat) (s r : List Int) (j i : Nat) : ffv p K s r 0 0 j i = 0 := by unfold ffv; rw [if_neg (by omega)]
theorem ffv_next (p : Int) (K : Nat) (s r : List Int) {N m j i : Nat} (hj : j < N) : ffv p K s r m N j i = ffv p K s r (m + 1) 0 j i := by
  unfold ffv
  by_cases h : i < m ∨ (i = m ∧ j < N)
  · rw [if_pos h, if_pos (by omega)]
  · rw [if_neg h, if_neg (by omega)]
theorem ffv_step {p : Int} {K : Nat} {s r : List Int} {m t : Nat} {v : Int} (hv : E (polyL K s r m) ((t + 1 : Nat) : Int) % p = v) (j i : Nat) : (if j = t ∧ i = m then v else ffv p K s r m t j i) = ffv p K s r m (t + 1) j i := by
  subst hv
  unfold ffv
  by_cases h : j = t ∧ i = m
  · obtain ⟨rfl, rfl⟩ := h
    rw [if_pos ⟨rfl, rfl⟩, if_pos (by omega)]
  · rw [if_neg h]
    by_cases h2 : i < m ∨ (i = m ∧ j < t)
    · rw [if_pos h2, if_pos (by omega)]
    · rw [if_neg h2, if_neg (by omega)]
theorem ffv_all {p : Int} {K : Nat} {s r : List Int} {S j i : Nat} (hi : i < S) : ffv p K s r S 0 j i = E (polyL K s r i) ((j + 1 : Nat) : Int) % p := by unfold ffv; rw [if_pos (by omega)]
theorem dealF_get {p : Int} {K N : Nat} {s r : List Int} {j : Nat} (hj : j < N) : (dealF p K N s r).getD j (0, []) = (((j + 1 : Nat) : Int), dealV p K s r ((j + 1 : Nat) : Int)) := by simp [dealF, List.getD, hj]
theorem run_make_share (N : Nat) (hN : N ≤ 1000) (w : World) : (Instr.makeSlice 23 (.int .i64 (N : Int)) (.int .i64 (N : Int))).run Tryz.prog w = .ok (.slice (some ⟨w.heap.size, 0, none⟩) N N) (w.alloc (.cells (madeCells #[.int .i64 0, .slice none 0 0] (N * 2)) 42)) := by
  obtain ⟨i0, hi, hz0, hz1, hz2⟩ := info_parts infoShare
  have h := run_make (P := Tryz.prog) w 23 42 i0 (.agg #[.int .i64 0, .slice none 0 0]) Tryz.underlying23 hi hz0 .i64 .i64 (N : Int) (N : Int) (by omega) (Int.le_refl _) (by rw [hz2]; push_cast; omega) (by omega)
  rw [hz1, Int.toNat_natCast] at h
  exact h
theorem polyL_len_eq {K S m : Nat} {s r : List Int} (hr : r.length = S * K) (hm : m < S) : (polyL K s r m).length = K + 1 := by
  unfold polyL
  have : (m + 1) * K ≤ S * K := Nat.mul_le_mul_right K hm
  rw [Nat.add_mul, Nat.one_mul] at this
  rw [List.length_cons, List.length_take, List.length_drop, hr]
  omega
/-- The first coefficients, as a slice of the array. -/
theorem hid_ints {w : World} {gb K1 : Nat} {l : List Int} {C : Array Value} {t : TypeId} (hb : w.heap[gb]? = some (.cells C t (0, 0))) (hC : (hidA l).toArray = C) (hl : l.length = K1) (hK : K1 ≤ 16) : Ints w (.slice (some ⟨gb, 0, none⟩) K1 16) l := by
  subst hl
  refine ⟨_, _, rfl, by omega, fun _ => ⟨gb, 0, rfl, fun i hi => ?_⟩⟩
  rw [Nat.zero_add]
  simp only [World.cell?, hb]
  rw [← hC]
  simp [hidA, show i < 16 by omega]
end Go.Proofs.YtpgbjnenllfmlaaGreatDoor
/-! Shares dealt: the program's Deal. -/
namespace Go.Proofs.YtpgbjnenllfmlaaGreatDoor
open Go.RowKit Go.Sort
open Num
set_option linter.unusedVariables false

end Go.Proofs.YtpgbjnenllfmlaaGreatDoor
