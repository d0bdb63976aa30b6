
/- An empty running sum: the program's begin. -/
import Derived.Test.YtidmcemcmalfnaaDoorSWr
namespace Go.Proofs.YtidmcemcmalfnaaDoor
open Go.RowKit
set_option linter.unusedVariables false

def zeroRun : Array Value := Array.replicate 8 (.int .u32 0) ++ Array.replicate 64 (.int .u8 0) ++ #[.int .i64 0]
theorem zeroVal (w : World) : (zeroValue 44).run Tryd.prog w = .ok (.agg zeroRun) w :=
  (zero_of_info (P := Tryd.prog) (t := 44) (v := .agg zeroRun) (n := 73) (by kernel_rfl)).1 w
theorem infoRun : (Tryd.prog.info? 44).map (·.size) = some 73 := by kernel_rfl
theorem zeroRun_size : zeroRun.size = 73 := by rfl
def beginRun : Array Value := (((((((zeroRun.setIfInBounds 0 (.int .u32 0x6a09e667)).setIfInBounds 1 (.int .u32 0xbb67ae85)).setIfInBounds 2 (.int .u32 0x3c6ef372)).setIfInBounds 3 (.int .u32 0xa54ff53a)).setIfInBounds 4 (.int .u32 0x510e527f)).setIfInBounds 5 (.int .u32 0x9b05688c)).setIfInBounds 6 (.int .u32 0x1f83d9ab)).setIfInBounds 7 (.int .u32 0x5be0cd19)
/-- The cells of a running sum that is handed over as a value. -/
def RunVal (cs : Array Value) (m : List UInt8) : Prop := cs.size = 73 ∧ cs.all (·.oneCell') = true ∧ ∃ blk, Sha.Blk m blk ∧ ∀ j, j < 73 → cs[j]? = some (runRow (fun j => (Sha.hw m).list.getD j 0) (Sha.bt blk) m.length j)
theorem begin_all : beginRun.all (·.oneCell') = true := by kernel_rfl
theorem begin_list : beginRun = ((List.range 73).map (runRow (fun j => Sha.H0.list.getD j 0) (Sha.bt (List.replicate 64 0)) 0)).toArray := by kernel_rfl
theorem begin_val : RunVal beginRun [] := by
  refine ⟨rfl, begin_all, List.replicate 64 0, Sha.blk_nil _ (by simp), fun j hj => ?_⟩
  rw [begin_list]
  simp [hj]
  rfl
/-- A running sum, as a value, in a block of its own. -/
theorem RunVal.at {cs : Array Value} {m : List UInt8} (h : RunVal cs m) {w : World} {g : Nat} (hg : w.heap[g]? = some (.cells cs 44 (0, 0))) : At w g m := by
  obtain ⟨h1, _, blk, h3, h4⟩ := h
  exact ⟨blk, h3, cs, hg, h1, h4⟩
theorem At.val {w : World} {g : Nat} {m : List UInt8} (h : At w g m) : ∃ cs, w.heap[g]? = some (.cells cs 44 (0, 0)) ∧ RunVal cs m := by
  obtain ⟨blk, h1, cs, h2, h3, h4⟩ := h
  refine ⟨cs, h2, h3, ?_, blk, h1, h4⟩
  rw [Array.all_eq_true]
  intro i hi
  have := h4 i (by omega)
  rw [Array.getElem?_eq_getElem hi] at this
  rw [Option.some.inj this]
  unfold runRow
  split
  · rfl
  · split <;> rfl
set_option maxRecDepth 100000 in
set_option maxHeartbeats 4000000 in
theorem begin_any (w : World) (ht : Tabs w) :
    Calls Tryd.prog 23 #[] w fun e w' => ∃ cs, e = .returned (.agg cs) ∧ RunVal cs [] ∧ Below w.heap.size w w' := by
  obtain ⟨t, fr, hh⟩ := ht.hs
  have hz : ∀ w, (zeroValue 44).run Tryd.prog w = .ok (.agg zeroRun) w := zeroVal
  have h0 : 0 < w.heap.size := (Array.getElem?_eq_some_iff.1 hh).1
  have c0 : w.cell? ⟨0, 0, none⟩ = some (.int .u32 0x6a09e667) := by simp [World.cell?, hh]; rfl
  have c1 : w.cell? ⟨0, 1, none⟩ = some (.int .u32 0xbb67ae85) := by simp [World.cell?, hh]; rfl
  have c2 : w.cell? ⟨0, 2, none⟩ = some (.int .u32 0x3c6ef372) := by simp [World.cell?, hh]; rfl
  have c3 : w.cell? ⟨0, 3, none⟩ = some (.int .u32 0xa54ff53a) := by simp [World.cell?, hh]; rfl
  have c4 : w.cell? ⟨0, 4, none⟩ = some (.int .u32 0x510e527f) := by simp [World.cell?, hh]; rfl
  have c5 : w.cell? ⟨0, 5, none⟩ = some (.int .u32 0x9b05688c) := by simp [World.cell?, hh]; rfl
  have c6 : w.cell? ⟨0, 6, none⟩ = some (.int .u32 0x1f83d9ab) := by simp [World.cell?, hh]; rfl
  have c7 : w.cell? ⟨0, 7, none⟩ = some (.int .u32 0x5be0cd19) := by simp [World.cell?, hh]; rfl
  clear hh
  go_enter Tryd.func23, Tryd.ntmps23
  have hst := run_storeCells_new (P := Tryd.prog) w 44 zeroRun beginRun infoRun rfl begin_all
  unfold beginRun at hst
  simp only [Array.toList_setIfInBounds] at hst
  have hzs := zeroRun_size
  go_wp2
  refine bodyPost_ret (v := .agg beginRun) ?_ rfl ⟨_, rfl, begin_val, (Below.refl _ _).alloc (Nat.le_refl _) _⟩
  rw [results_cell rfl]
  have hld := run_loadVar_row (P := Tryd.prog) (w.alloc (.cells beginRun 44)) w.heap.size 44 44 beginRun (0, 0) _ (heap_alloc_new _ _) Tryd.underlying44 rfl infoRun
  unfold beginRun at hld ⊢
  simp [asAddr, Result.andThen, hld]
end Go.Proofs.YtidmcemcmalfnaaDoor
