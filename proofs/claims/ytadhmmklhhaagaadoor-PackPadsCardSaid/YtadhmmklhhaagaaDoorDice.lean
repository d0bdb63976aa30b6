
/- Contracts of the dice that the statements draw their inputs from. -/
import Derived.Test.YtadhmmklhhaagaaDoorInts
import Derived.RegionTactic
import Derived.Deep.QuietTactic
import Derived.BigQuiet
namespace Go.Proofs.YtadhmmklhhaagaaDoor
open Go.RowKit
open Num
set_option linter.unusedVariables false

/-- Dice at block b: the numbers l, of which some have been given out. -/
def DiceAt (w : World) (b : Nat) (s : Value) (l : List Int) : Prop :=
  ∃ k : Nat, ∃ a c, k ≤ l.length ∧ l.length ≤ 140737488355328 ∧ s = .slice a l.length c ∧ w.heap[b]? = some (.cells #[s, .int .i64 k] 50 (0, 0)) ∧
    (l ≠ [] → ∃ b' off, a = some ⟨b', off, none⟩ ∧ b' < b ∧ ∀ i, i < l.length → w.cell? ⟨b', off + i, none⟩ = some (.int .i64 (l.getD i 0)))

/-- All that was there, but block b, is as it was. -/
structure But (b : Nat) (w w' : World) : Prop where
  os : w'.os = w.os
  tape : w'.tape = w.tape
  output : w'.output = w.output
  size : w.heap.size ≤ w'.heap.size
  block : ∀ k, k < w.heap.size → k ≠ b → w'.heap[k]? = w.heap[k]?
theorem But.below {b B : Nat} {w w' : World} (h : But b w w') (hB : B ≤ b) (hB2 : B ≤ w.heap.size) : Below B w w' :=
  ⟨h.os, h.tape, h.output, h.size, fun k hk => h.block k (by omega) (by omega)⟩
theorem But.of_below {b B : Nat} {w w' : World} (h : Below B w w') (hB : w.heap.size ≤ B) : But b w w' :=
  ⟨h.os, h.tape, h.output, h.size, fun k hk _ => h.block k (by omega)⟩
theorem But.refl (b : Nat) (w : World) : But b w w := ⟨rfl, rfl, rfl, Nat.le_refl _, fun _ _ _ => rfl⟩
theorem But.trans {b : Nat} {x y z : World} (h : But b x y) (k : But b y z) : But b x z :=
  ⟨k.os.trans h.os, k.tape.trans h.tape, k.output.trans h.output, Nat.le_trans h.size k.size, fun i hi hb => (k.block i (Nat.lt_of_lt_of_le hi h.size) hb).trans (h.block i hi hb)⟩
theorem But.drewN (b : Nat) (w : World) (n : Nat) : But b w (w.drewN n) := ⟨rfl, rfl, rfl, Nat.le_refl _, fun _ _ _ => rfl⟩
theorem But.set (w : World) (a : Addr) (v : Value) : But a.block w (w.setCell a v) :=
  ⟨rfl, rfl, rfl, by simp [World.setCell], fun k _ hk => Below.heap_setCell w a v k hk⟩
theorem But.alloc (b : Nat) (w : World) (o : Obj) : But b w (w.alloc o) :=
  ⟨rfl, rfl, rfl, by simp, fun k hk _ => Below.heap_alloc w o k hk⟩
theorem But.cell {b : Nat} {w w' : World} (h : But b w w') {p : Addr} (hp : p.block < w.heap.size) (hb : p.block ≠ b) : w'.cell? p = w.cell? p :=
  World.cell?_of_block (w := w) (h.block p.block hp hb)

theorem light_any (s : Value) (l : List Int) (w : World) (hs : Ints w s l) :
    Calls Tryd.prog 14 #[s] w fun e w' => e = .returned (.bool (decide ((l.length : Int) ≤ 500))) ∧ w = w' := by
  obtain ⟨a, c, rfl, hlen, hcell⟩ := hs
  clear hcell
  go_enter Tryd.func14, Tryd.ntmps14
  go_wp2
  go_ret
  exact ⟨rfl, rfl⟩
theorem roll_any (s : Value) (w : World) (hs : ∃ a n c, s = .slice a n c) :
    Calls Tryd.prog 15 #[s] w fun e w' => e = .returned (.pointer (some ⟨w.heap.size, 0, none⟩)) ∧ w' = w.alloc (.cells #[s, .int .i64 0] 50) := by
  obtain ⟨a, n, c, rfl⟩ := hs
  go_enter Tryd.func15, Tryd.ntmps15
  go_wp2
  go_ret
  exact ⟨rfl, rfl⟩

set_option maxHeartbeats 400000 in
theorem next_end (a : Option Addr) (len c b : Nat) (n : Int) (w : World) (k : Nat) (hk : len ≤ k) (hk2 : k ≤ 140737488355328)
    (hb : w.heap[b]? = some (.cells #[.slice a len c, .int .i64 k] 50 (0, 0))) :
    Calls Tryd.prog 26 #[.pointer (some ⟨b, 0, none⟩), .int .i64 n] w fun e w' => e = .returned (.int .i64 0) ∧ ∃ q, w' = w.drewN q := by
  have hc0 : w.cell? ⟨b, 0, none⟩ = some (.slice a len c) := by simp [World.cell?, hb]
  have hc1 : w.cell? ⟨b, 1, none⟩ = some (.int .i64 k) := by simp [World.cell?, hb]
  clear hb
  go_enter Tryd.func26, Tryd.ntmps26
  go_wp2
  go_quiet (fail)
  go_wp2
  go_ret
  exact ⟨rfl, _, rfl⟩

theorem quiet_left {P : Program} {f : FuncId} {args : Array Value} {w : World} {n : Nat} {v : Value}
    (h : Calls P f args (w.drewN n) fun e w' => e = .returned v ∧ w.drewN n = w') : Calls P f args (w.drewN n) fun e w'' => e = .returned v ∧ ∃ m, w'' = w.drewN m :=
  h.mono fun _ _ ⟨he, hm⟩ => ⟨he, n, hm.symm⟩

set_option maxHeartbeats 400000 in
theorem next_more (b' off len c b : Nat) (x n : Int) (w : World) (k : Nat) (hk : k < len) (hk2 : k < 140737488355328) (hbb : b' < b)
    (hn : 1 ≤ n) (hn2 : n ≤ 4611686018427387904)
    (hb : w.heap[b]? = some (.cells #[.slice (some ⟨b', off, none⟩) len c, .int .i64 k] 50 (0, 0)))
    (hx : w.cell? ⟨b', off + k, none⟩ = some (.int .i64 x)) :
    Calls Tryd.prog 26 #[.pointer (some ⟨b, 0, none⟩), .int .i64 n] w fun e w' => e = .returned (.int .i64 (x % n)) ∧ ∃ q r, w' = ((w.drewN q).setCell ⟨b, 1, none⟩ (.int .i64 (k + 1 : Nat))).drewN r := by
  have hc0 : w.cell? ⟨b, 0, none⟩ = some (.slice (some ⟨b', off, none⟩) len c) := by simp [World.cell?, hb]
  have hc1 : w.cell? ⟨b, 1, none⟩ = some (.int .i64 k) := by simp [World.cell?, hb]
  have hfr : w.frozen? ⟨b, 1, none⟩ = false := by simp [World.frozen?, hb]
  have hne : b ≠ b' := by omega
  have hne' : b' ≠ b := by omega
  clear hb
  go_enter Tryd.func26, Tryd.ntmps26
  go_wp2
  go_quiet (fail)
  go_wp2
  go_quiet ((go_at_call 8; exact quiet_left (mod_any _ _ _ hn hn2)))
  go_wp2
  go_ret
  exact ⟨rfl, _, _, rfl⟩

theorem set_second {w : World} {b : Nat} {x y v : Value} {t : TypeId} {fr : Nat × Nat} (h : w.heap[b]? = some (.cells #[x, y] t fr)) : (w.setCell ⟨b, 1, none⟩ v).heap[b]? = some (.cells #[x, v] t fr) := by
  simp only [World.setCell, Array.getElem?_modify]
  rw [if_pos trivial, h]; rfl
theorem block_lt {w : World} {b : Nat} {o : Obj} (h : w.heap[b]? = some o) : b < w.heap.size := (Array.getElem?_eq_some_iff.1 h).1

/-- The dice keep, behind whatever leaves their block alone. -/
theorem DiceAt.below {w w' : World} {b B : Nat} {s : Value} {l : List Int} (h : DiceAt w b s l) (k : Below B w w') (hB : b < B) : DiceAt w' b s l := by
  obtain ⟨i, a, c, hi, hl, rfl, hb, hc⟩ := h
  refine ⟨i, a, c, hi, hl, rfl, by rw [k.block b hB]; exact hb, fun hne => ?_⟩
  obtain ⟨b', off, ha, hbb, hx⟩ := hc hne
  exact ⟨b', off, ha, hbb, fun j hj => by rw [k.cell (p := ⟨b', off + j, none⟩) (by show b' < B; omega)]; exact hx j hj⟩
theorem DiceAt.size {w : World} {b : Nat} {s : Value} {l : List Int} (h : DiceAt w b s l) : b < w.heap.size := by
  obtain ⟨i, a, c, hi, hl, rfl, hb, hc⟩ := h
  exact block_lt hb
/-- New dice. -/
theorem dice_new {w : World} {s : Value} {l : List Int} (h : Ints w s l) : DiceAt (w.alloc (.cells #[s, .int .i64 0] 50)) w.heap.size s l := by
  obtain ⟨a, c, rfl, hl, hc⟩ := h
  refine ⟨0, a, c, by omega, hl, rfl, heap_alloc_new _ _, fun hne => ?_⟩
  obtain ⟨b, off, ha, hx⟩ := hc hne
  have hb : b < w.heap.size := cell_lt (hx 0 (by cases l; exact absurd rfl hne; simp))
  refine ⟨b, off, ha, hb, fun i hi => ?_⟩
  rw [World.cell?_of_block (w := w) (Below.heap_alloc w _ b hb)]
  exact hx i hi

set_option maxHeartbeats 400000 in
/-- A number from the dice. -/
theorem next_any (b : Nat) (s : Value) (l : List Int) (n : Int) (w : World) (hd : DiceAt w b s l) (hn : 1 ≤ n) (hn2 : n ≤ 4611686018427387904) :
    Calls Tryd.prog 26 #[.pointer (some ⟨b, 0, none⟩), .int .i64 n] w fun e w' => ∃ r : Int, 0 ≤ r ∧ r < n ∧ e = .returned (.int .i64 r) ∧ DiceAt w' b s l ∧ But b w w' := by
  obtain ⟨k, a, c, hk, hl, rfl, hb, hc⟩ := hd
  have hsz := block_lt hb
  by_cases hlt : k < l.length
  · obtain ⟨b', off, rfl, hbb, hcell⟩ := hc (fun e => by subst e; simp at hlt)
    refine (next_more b' off l.length c b (l.getD k 0) n w k hlt (by omega) hbb hn hn2 hb (hcell k hlt)).mono fun e w' ⟨he, q, r, hw⟩ => ?_
    subst hw
    have ho : But b w (((w.drewN q).setCell ⟨b, 1, none⟩ (.int .i64 (k + 1 : Nat))).drewN r) := ((But.drewN b w q).trans (But.set _ ⟨b, 1, none⟩ _)).trans (But.drewN b _ r)
    refine ⟨_, Int.emod_nonneg _ (by omega), Int.emod_lt_of_pos _ (by omega), he, ⟨k + 1, _, c, hlt, hl, rfl, ?_, fun _ => ⟨b', off, rfl, hbb, fun i hi => ?_⟩⟩, ho⟩
    · exact set_second hb
    · rw [ho.cell (p := ⟨b', off + i, none⟩) (Nat.lt_trans hbb hsz) (Nat.ne_of_lt hbb)]
      exact hcell i hi
  · refine (next_end a l.length c b n w k (by omega) (by omega) hb).mono fun e w' ⟨he, q, hw⟩ => ?_
    subst hw
    exact ⟨0, by omega, by omega, he, ⟨k, a, c, hk, hl, rfl, hb, hc⟩, But.drewN b w q⟩

/-! ### A prime from the dice -/
def prime12 : Nat → Int
  | 0 => 7 | 1 => 2 | 2 => 3 | 3 => 5 | 4 => 11 | 5 => 13 | 6 => 23 | 7 => 101 | 8 => 257 | 9 => 65537 | 10 => 1000003 | _ => 500000003
theorem prime12_prm (k : Nat) : PrmI (prime12 k) := by
  unfold prime12
  split
  · exact prm_7
  · exact prm_2
  · exact prm_3
  · exact prm_5
  · exact prm_11
  · exact prm_13
  · exact prm_23
  · exact prm_101
  · exact prm_257
  · exact prm_65537
  · exact prm_1000003
  · exact prm_great
theorem prime12_le (k : Nat) : prime12 k ≤ 500000003 := by unfold prime12; split <;> omega

theorem cell_new (w : World) (cs : Array Value) (t : TypeId) (fr : Nat × Nat) (k : Nat) : (w.alloc (.cells cs t fr)).cell? ⟨w.heap.size, k, none⟩ = cs[k]? := by
  rw [cell_of_row _ _ _ _ _ _ (heap_alloc_new w _)]

set_option maxHeartbeats 400000 in
theorem prime_any (b : Nat) (s : Value) (l : List Int) (w : World) (hd : DiceAt w b s l) :
    Calls Tryd.prog 16 #[.pointer (some ⟨b, 0, none⟩)] w fun e w' => ∃ p : Int, PrmI p ∧ p ≤ 500000003 ∧ e = .returned (.int .i64 p) ∧ DiceAt w' b s l ∧ But b w w' := by
  have hsz := hd.size
  go_enter Tryd.func16, Tryd.ntmps16
  go_wp2_with fail
  refine (next_any b s l 12 _ (hd.below ((Below.refl _ _).alloc (Nat.le_refl _) _) hsz) (by omega) (by omega)).mono ?_
  rintro e w1 ⟨r, r0, r1, rfl, hd1, hbut⟩
  obtain ⟨k, rfl⟩ := Int.eq_ofNat_of_zero_le r0
  have hk : k < 12 := by omega
  have hcell : w1.cell? ⟨w.heap.size, k, none⟩ = some (.int .i64 (prime12 k)) := by
    rw [hbut.cell (p := ⟨w.heap.size, k, none⟩) (by simp) (by show w.heap.size ≠ b; omega), cell_new]
    have : k = 0 ∨ k = 1 ∨ k = 2 ∨ k = 3 ∨ k = 4 ∨ k = 5 ∨ k = 6 ∨ k = 7 ∨ k = 8 ∨ k = 9 ∨ k = 10 ∨ k = 11 := by omega
    rcases this with rfl | rfl | rfl | rfl | rfl | rfl | rfl | rfl | rfl | rfl | rfl | rfl <;> rfl
  have hbut' := Lib.hid ((But.alloc b w _).trans hbut)
  have hp := Lib.hid (prime12_prm k)
  have hp2 := Lib.hid (prime12_le k)
  clear hbut
  generalize prime12 k = p at *
  go_wp2
  go_ret
  exact ⟨p, hp.out, hp2.out, rfl, hd1, hbut'.out⟩
end Go.Proofs.YtadhmmklhhaagaaDoor
