
/- The running sum as it lies in memory, and the program's tables. -/
import Derived.Test.YtidmcemcmalfnaaDoorSSch
namespace Go.Proofs.YtidmcemcmalfnaaDoor
open Go.RowKit
set_option linter.unusedVariables false

/-- The cells of a running sum: eight words, 64 bytes, the length. -/
def runRow (U B : Nat → Int) (n : Int) (j : Nat) : Value := if j < 8 then .int .u32 (U j) else if j < 72 then .int .u8 (B (j - 8)) else .int .i64 n
def Run (w : World) (g : Nat) (U B : Nat → Int) (n : Int) : Prop := w.rowIs g 44 73 (runRow U B n)
theorem Run.word {w : World} {g : Nat} {U B : Nat → Int} {n : Int} (h : Run w g U B n) {j : Nat} (hj : j < 8) : w.cell? ⟨g, j, none⟩ = some (.int .u32 (U j)) := by
  have := World.rowIs.cell h (i := j) (by omega)
  unfold runRow at this
  rwa [if_pos hj] at this
theorem Run.byte {w : World} {g : Nat} {U B : Nat → Int} {n : Int} (h : Run w g U B n) {j : Nat} (hj : j < 64) : w.cell? ⟨g, 8 + j, none⟩ = some (.int .u8 (B j)) := by
  have := World.rowIs.cell h (i := 8 + j) (by omega)
  unfold runRow at this
  rw [if_neg (by omega), if_pos (by omega), show 8 + j - 8 = j by omega] at this
  exact this
theorem Run.len {w : World} {g : Nat} {U B : Nat → Int} {n : Int} (h : Run w g U B n) : w.cell? ⟨g, 72, none⟩ = some (.int .i64 n) := by
  have := World.rowIs.cell h (i := 72) (by omega)
  unfold runRow at this
  rwa [if_neg (by omega), if_neg (by omega)] at this
theorem Run.frozen {w : World} {g : Nat} {U B : Nat → Int} {n : Int} (h : Run w g U B n) (i : Nat) : w.frozen? ⟨g, i, none⟩ = false := World.rowIs.frozen h i
theorem Run.lt {w : World} {g : Nat} {U B : Nat → Int} {n : Int} (h : Run w g U B n) : g < w.heap.size := World.rowIs.lt h
theorem Run.below {w w' : World} {g : Nat} {U B : Nat → Int} {n : Int} (h : Run w g U B n) {N : Nat} (b : Below N w w') (hg : g < N) : Run w' g U B n := World.rowIs.of_block h (b.block g hg)
theorem Run.setWord {w : World} {g : Nat} {U B : Nat → Int} {n : Int} (h : Run w g U B n) {j : Nat} (hj : j < 8) (x : Int) : Run (w.setCell ⟨g, j, none⟩ (.int .u32 x)) g (fun i => if i = j then x else U i) B n := by
  refine (World.rowIs.set h j (.int .u32 x)).congr fun i hi => ?_
  unfold runRow
  by_cases e : i = j
  · subst e; simp [hj]
  · simp [e]
theorem Run.setLen {w : World} {g : Nat} {U B : Nat → Int} {n : Int} (h : Run w g U B n) (m : Int) : Run (w.setCell ⟨g, 72, none⟩ (.int .i64 m)) g U B m := by
  refine (World.rowIs.set h 72 (.int .i64 m)).congr fun i hi => ?_
  unfold runRow
  by_cases e : i = 72
  · subst e; simp
  · rw [if_neg e]
    by_cases h1 : i < 8
    · rw [if_pos h1, if_pos h1]
    · rw [if_neg h1, if_neg h1, if_pos (by omega), if_pos (by omega)]
theorem Run.congr {w : World} {g : Nat} {U B U' B' : Nat → Int} {n : Int} (h : Run w g U B n) (hU : ∀ j, j < 8 → U j = U' j) (hB : ∀ j, j < 64 → B j = B' j) : Run w g U' B' n := by
  refine World.rowIs.congr h fun i hi => ?_
  unfold runRow
  by_cases h1 : i < 8
  · rw [if_pos h1, if_pos h1, hU i h1]
  · by_cases h2 : i < 72
    · rw [if_neg h1, if_neg h1, if_pos h2, if_pos h2, hB _ (by omega)]
    · rw [if_neg h1, if_neg h1, if_neg h2, if_neg h2]

/-- The program's constants, as they lie in memory. -/
def KsCells : Array Value := (Sha.Ks.map (Value.int .u32 ·)).toArray
def HsCells : Array Value := (Sha.H0.list.map (Value.int .u32 ·)).toArray
structure Tabs (w : World) : Prop where
  ks : ∃ t fr, w.heap[1]? = some (.cells KsCells t fr)
  hs : ∃ t fr, w.heap[0]? = some (.cells HsCells t fr)
theorem Tabs.size {w : World} (h : Tabs w) : 2 ≤ w.heap.size := by
  obtain ⟨t, fr, h1⟩ := h.ks
  obtain ⟨t', fr', h2⟩ := h.hs
  have a := (Array.getElem?_eq_some_iff.1 h1).1
  have b := (Array.getElem?_eq_some_iff.1 h2).1
  omega
theorem Tabs.below {w w' : World} (h : Tabs w) {N : Nat} (b : Below N w w') (hN : 2 ≤ N) : Tabs w' := by
  obtain ⟨⟨t, fr, h1⟩, ⟨t', fr', h2⟩⟩ := h
  exact ⟨⟨t, fr, by rw [b.block _ (by omega)]; exact h1⟩, ⟨t', fr', by rw [b.block _ (by omega)]; exact h2⟩⟩
theorem Tabs.but {w w' : World} (h : Tabs w) {g : Nat} (b : But g w w') (hN : 2 ≤ g) : Tabs w' := by
  have hs := h.size
  obtain ⟨⟨t, fr, h1⟩, ⟨t', fr', h2⟩⟩ := h
  exact ⟨⟨t, fr, by rw [b.block _ (by omega) (by omega)]; exact h1⟩, ⟨t', fr', by rw [b.block _ (by omega) (by omega)]; exact h2⟩⟩
theorem Tabs.k {w : World} (h : Tabs w) {k : Nat} (hk : k < 64) : w.cell? ⟨1, k, none⟩ = some (.int .u32 (Sha.Ks.getD k 0)) := by
  obtain ⟨t, fr, h1⟩ := h.ks
  have hl : Sha.Ks.length = 64 := by decide
  simp [World.cell?, h1, KsCells, List.getD, hl, hk]

theorem post_end0 {P : Program} {fn : Func} {R : Ending → World → Prop} {a : Act} {w : World} (hr : fn.results = #[]) (hd : a.defers = []) (hR : R (.returned (.tuple #[])) w) : bodyPost P fn R .normal a w :=
  ⟨hd, .tuple #[], by simp [results, hr], hR⟩
theorem aggU32 (w : World) : (isAgg 40).run Tryd.prog w = .ok false w := by rfl
theorem sizeU32 (w : World) : (sizeOf 40).run Tryd.prog w = .ok 1 w := by rfl
theorem index_arr {t : TypeId} {n : Nat} (hu : Tryd.prog.underlying t = some (.array n 40)) {cs : Array Value} {k : Nat} {v : Value} (hk : k < n) (hv : cs[k]? = some v) (w : World) :
    (Instr.index t (.agg cs) (.int .i64 k)).run Tryd.prog w = .ok v w := by
  have ha : ∀ w, (isAgg 40).run Tryd.prog w = .ok false w := aggU32
  have hz : ∀ w, (sizeOf 40).run Tryd.prog w = .ok 1 w := sizeU32
  simp [Instr.index, asIntOf, run_underlying hu, part, ha, hz, hv]
  intro h
  omega
end Go.Proofs.YtidmcemcmalfnaaDoor
