
/- Contracts of package field's arithmetic and of the document's answers for it: element, sum, difference, product, powers, inverses. -/
import Derived.Test.YtmegmgcfnihhiaaDoorNum
import Derived.Test.YtmegmgcfnihhiaaDoorChecked
import Derived.WalkKit
import Derived.IntWalk
import Derived.Lib.Hide
import Derived.WalkSmall
import Derived.OpenShut
import Derived.Laws.Rows
import Derived.Below
import Derived.RegionTactic
import Derived.Deep.QuietTactic
import Derived.BigQuiet
/-! Contracts of package field's arithmetic and of the document's answers for it: element, sum, difference, product, powers, inverses. -/
namespace Go.Proofs.YtmegmgcfnihhiaaDoor
open Go.RowKit
set_option linter.unusedVariables false
open Num

theorem ret_int {k : IntKind} {a b : Int} (h : a = b) : Ending.returned (.int k a) = .returned (.int k b) := by rw [h]

theorem wf64 {n : Int} (h : -9223372036854775808 ≤ n) (h2 : n ≤ 9223372036854775807) : (Lit.int .i64 n).wf = true := by
  simp [Lit.wf, IntKind.min, IntKind.max, IntKind.signed, IntKind.bits]
  omega
theorem tmod_nonneg_eq (n p : Int) (hn : 0 ≤ n) : n.tmod p = n % p := Int.tmod_eq_emod_of_nonneg hn


theorem tmod_neg_low (n p : Int) (hp : 1 ≤ p) : -p < n.tmod p := by
  have h := Int.tmod_lt_of_pos (-n) (show 0 < p by omega)
  rw [Int.neg_tmod] at h
  omega
theorem tmod_neg_high (n p : Int) (hp : 1 ≤ p) (hn : n ≤ 0) : n.tmod p ≤ 0 := by
  have h := Int.tmod_nonneg p (show 0 ≤ -n by omega)
  rw [Int.neg_tmod] at h
  omega
theorem tmod_fix (n p : Int) (hp : 1 ≤ p) (h : n.tmod p < 0) : n.tmod p + p = n % p := by
  have h1 := tmod_neg_low n p hp
  have h2 : (n.tmod p + p) % p = n % p := by
    rw [Int.add_emod_right]
    have h3 := Int.mul_tdiv_add_tmod n p
    have h4 : n.tmod p = n - p * n.tdiv p := by omega
    rw [h4, Int.sub_mul_emod_self_left]
  rw [← h2]
  exact (Int.emod_eq_of_lt (by omega) (by omega)).symm
theorem tmod_zero_fix (n p : Int) (h : n.tmod p = 0) : 0 = n % p :=
  (Int.emod_eq_zero_of_dvd (Int.dvd_of_tmod_eq_zero h)).symm

/-! ### Sum, difference, product of elements -/
theorem mul_bound {a b p : Int} (hp2 : p ≤ 1073741824) (ha : 0 ≤ a) (ha2 : a < p) (hb : 0 ≤ b) (hb2 : b < p) : 0 ≤ a * b ∧ a * b ≤ 1152921504606846976 := by
  have h1 := Int.mul_nonneg ha hb
  have h2 : a * b ≤ 1073741824 * 1073741824 := Int.mul_le_mul (by omega) (by omega) hb (by omega)
  exact ⟨h1, by omega⟩
end Go.Proofs.YtmegmgcfnihhiaaDoor
/-! Contracts of package field's powers and inverses, and of the document's answers for them. -/
namespace Go.Proofs.YtmegmgcfnihhiaaDoor
open Go.RowKit
open Num
set_option linter.unusedVariables false

theorem odd_u64 {k : Nat} (hk : k < 18446744073709551616) (h : k % 2 = 1) : (bits BinOp.and IntKind.u64 (k : Int) 1 == 1) = true := by
  rw [and_one_u64 _ (by omega) (by omega)]; simp; omega
theorem even_u64 {k : Nat} (hk : k < 18446744073709551616) (h : k % 2 = 0) : (bits BinOp.and IntKind.u64 (k : Int) 1 == 1) = false := by
  rw [and_one_u64 _ (by omega) (by omega)]; simp; omega

theorem one_emod {p : Int} (hp : 2 ≤ p) : 1 % p = 1 := Int.emod_eq_of_lt (by omega) (by omega)

theorem ret_pair {k : IntKind} {a b : Int} {v : Value} (h : a = b) : Ending.returned (.tuple #[.int k a, v]) = .returned (.tuple #[.int k b, v]) := by rw [h]

/-! ### Pow -/
theorem neg_neg_u64 (m : Nat) (hm : 0 < m) (hm2 : m ≤ 9223372036854775808) : IntKind.u64.wrap (-IntKind.u64.wrap (-(m : Int))) = (m : Int) := by
  rw [IntKind.wrap_u64, IntKind.wrap_u64]
  omega

/-! ### The document's answers -/
theorem mod_twice (n p : Int) (hp : 1 ≤ p) : (n.tmod p + p) % p = n % p := by
  rw [Int.add_emod_right]
  have h3 := Int.mul_tdiv_add_tmod n p
  have h4 : n.tmod p = n - p * n.tdiv p := by omega
  rw [h4, Int.sub_mul_emod_self_left]
theorem mod_any (n p : Int) (w : World) (hp : 1 ≤ p) (hp2 : p ≤ 4611686018427387904) :
    Calls Tryd.prog 25 #[.int .i64 n, .int .i64 p] w fun e w' => e = .returned (.int .i64 (n % p)) ∧ w = w' := by
  have h1 : -p < n.tmod p := tmod_neg_low n p hp
  have h2 : n.tmod p < p := Int.tmod_lt_of_pos n (by omega)
  have h3 : 0 ≤ n.tmod p + p := by omega
  have H := Lib.hid (mod_twice n p hp)
  have h4 : 0 ≤ (n.tmod p + p) % p := Int.emod_nonneg _ (by omega)
  go_enter Tryd.func25, Tryd.ntmps25
  go_wp2
  go_ret
  exact ⟨ret_int H.out, rfl⟩
theorem and_one_i64 (k : Nat) (hk : k < 9223372036854775808) : bits BinOp.and IntKind.i64 (k : Int) 1 = ((k % 2 : Nat) : Int) := by
  have h1 : (BitVec.ofInt 64 (k : Int)).toNat = k := by
    rw [BitVec.ofInt_natCast, BitVec.toNat_ofNat]; exact Nat.mod_eq_of_lt (by omega)
  have h2 : (BitVec.ofInt 64 (1 : Int)).toNat = 1 := by decide
  show IntKind.i64.wrap ((BitVec.ofInt 64 (k : Int) &&& BitVec.ofInt 64 (1 : Int)).toNat : Int) = _
  rw [BitVec.toNat_and, h1, h2, Nat.and_one_is_mod, IntKind.wrap_i64]
  omega
theorem odd_i64 {k : Nat} (hk : k < 9223372036854775808) (h : k % 2 = 1) : (bits BinOp.and IntKind.i64 (k : Int) 1 == 1) = true := by
  rw [and_one_i64 _ hk, h]; rfl
theorem even_i64 {k : Nat} (hk : k < 9223372036854775808) (h : k % 2 = 0) : (bits BinOp.and IntKind.i64 (k : Int) 1 == 1) = false := by
  rw [and_one_i64 _ hk, h]; rfl

theorem pz_iv {p a : Int} (hp : 2 ≤ p) : pz p a (p - 2) = iv p a := by
  unfold pz iv; rw [if_pos (by omega)]
end Go.Proofs.YtmegmgcfnihhiaaDoor
/-! Contracts of layer 1 in the field's own words. -/
namespace Go.Proofs.YtmegmgcfnihhiaaDoor
open Go.RowKit
open Num
set_option linter.unusedVariables false

/-! ### The contracts in the field's own words -/
/-- A number modulo p, whatever it is. -/
theorem mod_el {p n : Int} (w : World) (hp : 1 ≤ p) (hp2 : p ≤ 1073741824) :
    Calls Tryd.prog 25 #[.int .i64 n, .int .i64 p] w fun e w' => ∃ x, El p x ∧ e = .returned (.int .i64 x) ∧ w = w' :=
  (mod_any n p w hp (by omega)).mono fun e w' ⟨he, hw⟩ => ⟨_, el_mod hp n, he, hw⟩
end Go.Proofs.YtmegmgcfnihhiaaDoor
/-! Contracts of Valid and Elements: the program's and the document's answers. -/
namespace Go.Proofs.YtmegmgcfnihhiaaDoor
open Go.RowKit
open Num
set_option linter.unusedVariables false

/-- The table of spokes, as it lies in memory. -/
def wheelCells : Array Value := #[.int .i64 7, .int .i64 11, .int .i64 13, .int .i64 17, .int .i64 19, .int .i64 23, .int .i64 29, .int .i64 31]
def first3 : Nat → Int
  | 0 => 2 | 1 => 3 | _ => 5
theorem first3_bound (k : Nat) : 2 ≤ first3 k ∧ first3 k ≤ 5 := by unfold first3; split <;> omega
/-- What the first loop has found behind k rounds. -/
def Three (q : Int) (k : Nat) : Prop := ∀ j, j < k → q % first3 j ≠ 0
theorem three_free {q : Int} {k : Nat} (hk : k < 3) (h : Three q k) : Free q (first3 k - 1) := by
  intro d hd hdm hx
  have : k = 0 ∨ k = 1 ∨ k = 2 := by omega
  rcases this with rfl | rfl | rfl
  · simp only [first3] at hdm; omega
  · have h0 := h 0 (by omega); simp only [first3] at hdm h0; obtain rfl : d = 2 := by omega
    exact h0 hx
  · have h0 := h 0 (by omega); have h1 := h 1 (by omega); simp only [first3] at hdm h0 h1
    have : d = 2 ∨ d = 3 ∨ d = 4 := by omega
    rcases this with rfl | rfl | rfl
    · exact h0 hx
    · exact h1 hx
    · omega
theorem three_succ {q : Int} {k : Nat} (h : Three q k) (h1 : q % first3 k ≠ 0) : Three q (k + 1) := by
  intro j hj
  by_cases e : j = k
  · subst e; exact h1
  · exact h j (by omega)

theorem ret_bool {a b : Bool} (h : a = b) : Ending.returned (.bool a) = .returned (.bool b) := by rw [h]

end Go.Proofs.YtmegmgcfnihhiaaDoor
/-! Slices of integers that are read; contracts of Elements, Same and the place of a list. -/
namespace Go.Proofs.YtmegmgcfnihhiaaDoor
open Go.RowKit
open Num
set_option linter.unusedVariables false

theorem cell_lt {w : World} {a : Addr} {v : Value} (h : w.cell? a = some v) : a.block < w.heap.size := by
  by_cases hz : a.block < w.heap.size
  · exact hz
  · exfalso
    unfold World.cell? at h
    rw [Array.getElem?_eq_none (by omega)] at h
    simp at h
theorem getD_at {l : List Int} {k : Nat} (h : k < l.length) : l.getD k 0 = l[k] := by simp [List.getD, h]

/-- A slice that reads as a list of integers. -/
def Ints (w : World) (s : Value) (l : List Int) : Prop :=
  ∃ a c, s = .slice a l.length c ∧ l.length ≤ 140737488355328 ∧
    (l ≠ [] → ∃ b off, a = some ⟨b, off, none⟩ ∧ ∀ i, i < l.length → w.cell? ⟨b, off + i, none⟩ = some (.int .i64 (l.getD i 0)))

theorem Ints.below {w w' : World} {s : Value} {l : List Int} (h : Ints w s l) {B : Nat} (hB : w.heap.size ≤ B) (b : Below B w w') : Ints w' s l := by
  obtain ⟨a, c, h1, h2, h3⟩ := h
  refine ⟨a, c, h1, h2, fun hl => ?_⟩
  obtain ⟨b', off, ha, hc⟩ := h3 hl
  refine ⟨b', off, ha, fun i hi => ?_⟩
  have h := hc i hi
  have hlt : b' < w.heap.size := cell_lt h
  rw [b.cell (p := ⟨b', off + i, none⟩) (by show b' < B; omega)]
  exact h
theorem ints_nil (w : World) : Ints w (.slice none 0 0) [] := ⟨none, 0, rfl, by simp, fun h => absurd rfl h⟩

def okB (p n : Int) : Bool := decide (0 ≤ n) && decide (n < p)
noncomputable def elB (p : Int) (l : List Int) : Bool := l.all (okB p) && vB p
theorem elB_bad {p : Int} {l : List Int} {k : Nat} (hk : k < l.length) (h : ¬ (0 ≤ l.getD k 0 ∧ l.getD k 0 < p)) : elB p l = false := by
  unfold elB
  have h1 : l.all (okB p) = false := by
    rw [List.all_eq_false]
    refine ⟨l[k], List.getElem_mem hk, ?_⟩
    rw [getD_at hk] at h
    unfold okB
    simp
    omega
  rw [h1]; rfl
theorem elB_good {p : Int} {l : List Int} (h : ∀ k, k < l.length → 0 ≤ l.getD k 0 ∧ l.getD k 0 < p) : elB p l = vB p := by
  unfold elB
  have h1 : l.all (okB p) = true := by
    rw [List.all_eq_true]
    intro x hx
    obtain ⟨k, hk, rfl⟩ := List.mem_iff_getElem.1 hx
    have := h k hk
    rw [getD_at hk] at this
    unfold okB
    simp
    omega
  rw [h1, Bool.true_and]

end Go.Proofs.YtmegmgcfnihhiaaDoor
/-! Contracts of the dice that the statements draw their inputs from. -/
namespace Go.Proofs.YtmegmgcfnihhiaaDoor
open Go.RowKit
open Num
set_option linter.unusedVariables false

/-- Dice at block b: the numbers l, of which some have been given out. -/
def DiceAt (w : World) (b : Nat) (s : Value) (l : List Int) : Prop :=
  ∃ k : Nat, ∃ a c, k ≤ l.length ∧ l.length ≤ 140737488355328 ∧ s = .slice a l.length c ∧ w.heap[b]? = some (.cells #[s, .int .i64 k] 49 (0, 0)) ∧
    (l ≠ [] → ∃ b' off, a = some ⟨b', off, none⟩ ∧ b' < b ∧ ∀ i, i < l.length → w.cell? ⟨b', off + i, none⟩ = some (.int .i64 (l.getD i 0)))

/-- All that was there, but block b, is as it was. -/
structure But (b : Nat) (w w' : World) : Prop where
  os : w'.os = w.os
  tape : w'.tape = w.tape
  output : w'.output = w.output
  size : w.heap.size ≤ w'.heap.size
  block : ∀ k, k < w.heap.size → k ≠ b → w'.heap[k]? = w.heap[k]?
theorem But.below {b B : Nat} {w w' : World} (h : But b w w') (hB : B ≤ b) (hB2 : B ≤ w.heap.size) : Below B w w' :=
  ⟨h.os, h.tape, h.output, h.size, fun k hk => h.block k (by omega) (by omega)⟩
theorem But.of_below {b B : Nat} {w w' : World} (h : Below B w w') (hB : w.heap.size ≤ B) : But b w w' :=
  ⟨h.os, h.tape, h.output, h.size, fun k hk _ => h.block k (by omega)⟩
theorem But.refl (b : Nat) (w : World) : But b w w := ⟨rfl, rfl, rfl, Nat.le_refl _, fun _ _ _ => rfl⟩
theorem But.trans {b : Nat} {x y z : World} (h : But b x y) (k : But b y z) : But b x z :=
  ⟨k.os.trans h.os, k.tape.trans h.tape, k.output.trans h.output, Nat.le_trans h.size k.size, fun i hi hb => (k.block i (Nat.lt_of_lt_of_le hi h.size) hb).trans (h.block i hi hb)⟩
theorem But.drewN (b : Nat) (w : World) (n : Nat) : But b w (w.drewN n) := ⟨rfl, rfl, rfl, Nat.le_refl _, fun _ _ _ => rfl⟩
theorem But.set (w : World) (a : Addr) (v : Value) : But a.block w (w.setCell a v) :=
  ⟨rfl, rfl, rfl, by simp [World.setCell], fun k _ hk => Below.heap_setCell w a v k hk⟩
theorem But.alloc (b : Nat) (w : World) (o : Obj) : But b w (w.alloc o) :=
  ⟨rfl, rfl, rfl, by simp, fun k hk _ => Below.heap_alloc w o k hk⟩
theorem But.cell {b : Nat} {w w' : World} (h : But b w w') {p : Addr} (hp : p.block < w.heap.size) (hb : p.block ≠ b) : w'.cell? p = w.cell? p :=
  World.cell?_of_block (w := w) (h.block p.block hp hb)

theorem light_any (s : Value) (l : List Int) (w : World) (hs : Ints w s l) :
    Calls Tryd.prog 15 #[s] w fun e w' => e = .returned (.bool (decide ((l.length : Int) ≤ 500))) ∧ w = w' := by
  obtain ⟨a, c, rfl, hlen, hcell⟩ := hs
  clear hcell
  go_enter Tryd.func15, Tryd.ntmps15
  go_wp2
  go_ret
  exact ⟨rfl, rfl⟩
theorem roll_any (s : Value) (w : World) (hs : ∃ a n c, s = .slice a n c) :
    Calls Tryd.prog 16 #[s] w fun e w' => e = .returned (.pointer (some ⟨w.heap.size, 0, none⟩)) ∧ w' = w.alloc (.cells #[s, .int .i64 0] 49) := by
  obtain ⟨a, n, c, rfl⟩ := hs
  go_enter Tryd.func16, Tryd.ntmps16
  go_wp2
  go_ret
  exact ⟨rfl, rfl⟩

set_option maxHeartbeats 400000 in
theorem next_end (a : Option Addr) (len c b : Nat) (n : Int) (w : World) (k : Nat) (hk : len ≤ k) (hk2 : k ≤ 140737488355328)
    (hb : w.heap[b]? = some (.cells #[.slice a len c, .int .i64 k] 49 (0, 0))) :
    Calls Tryd.prog 17 #[.pointer (some ⟨b, 0, none⟩), .int .i64 n] w fun e w' => e = .returned (.int .i64 0) ∧ ∃ q, w' = w.drewN q := by
  have hc0 : w.cell? ⟨b, 0, none⟩ = some (.slice a len c) := by simp [World.cell?, hb]
  have hc1 : w.cell? ⟨b, 1, none⟩ = some (.int .i64 k) := by simp [World.cell?, hb]
  clear hb
  go_enter Tryd.func17, Tryd.ntmps17
  go_wp2
  go_quiet (fail)
  go_wp2
  go_ret
  exact ⟨rfl, _, rfl⟩

theorem quiet_left {P : Program} {f : FuncId} {args : Array Value} {w : World} {n : Nat} {v : Value}
    (h : Calls P f args (w.drewN n) fun e w' => e = .returned v ∧ w.drewN n = w') : Calls P f args (w.drewN n) fun e w'' => e = .returned v ∧ ∃ m, w'' = w.drewN m :=
  h.mono fun _ _ ⟨he, hm⟩ => ⟨he, n, hm.symm⟩

set_option maxHeartbeats 400000 in
theorem next_more (b' off len c b : Nat) (x n : Int) (w : World) (k : Nat) (hk : k < len) (hk2 : k < 140737488355328) (hbb : b' < b)
    (hn : 1 ≤ n) (hn2 : n ≤ 4611686018427387904)
    (hb : w.heap[b]? = some (.cells #[.slice (some ⟨b', off, none⟩) len c, .int .i64 k] 49 (0, 0)))
    (hx : w.cell? ⟨b', off + k, none⟩ = some (.int .i64 x)) :
    Calls Tryd.prog 17 #[.pointer (some ⟨b, 0, none⟩), .int .i64 n] w fun e w' => e = .returned (.int .i64 (x % n)) ∧ ∃ q r, w' = ((w.drewN q).setCell ⟨b, 1, none⟩ (.int .i64 (k + 1 : Nat))).drewN r := by
  have hc0 : w.cell? ⟨b, 0, none⟩ = some (.slice (some ⟨b', off, none⟩) len c) := by simp [World.cell?, hb]
  have hc1 : w.cell? ⟨b, 1, none⟩ = some (.int .i64 k) := by simp [World.cell?, hb]
  have hfr : w.frozen? ⟨b, 1, none⟩ = false := by simp [World.frozen?, hb]
  have hne : b ≠ b' := by omega
  have hne' : b' ≠ b := by omega
  clear hb
  go_enter Tryd.func17, Tryd.ntmps17
  go_wp2
  go_quiet (fail)
  go_wp2
  go_quiet ((go_at_call 25; exact quiet_left (mod_any _ _ _ hn hn2)))
  go_wp2
  go_ret
  exact ⟨rfl, _, _, rfl⟩

theorem set_second {w : World} {b : Nat} {x y v : Value} {t : TypeId} {fr : Nat × Nat} (h : w.heap[b]? = some (.cells #[x, y] t fr)) : (w.setCell ⟨b, 1, none⟩ v).heap[b]? = some (.cells #[x, v] t fr) := by
  simp only [World.setCell, Array.getElem?_modify]
  rw [if_pos trivial, h]; rfl
theorem block_lt {w : World} {b : Nat} {o : Obj} (h : w.heap[b]? = some o) : b < w.heap.size := (Array.getElem?_eq_some_iff.1 h).1

/-- The dice keep, behind whatever leaves their block alone. -/
theorem DiceAt.below {w w' : World} {b B : Nat} {s : Value} {l : List Int} (h : DiceAt w b s l) (k : Below B w w') (hB : b < B) : DiceAt w' b s l := by
  obtain ⟨i, a, c, hi, hl, rfl, hb, hc⟩ := h
  refine ⟨i, a, c, hi, hl, rfl, by rw [k.block b hB]; exact hb, fun hne => ?_⟩
  obtain ⟨b', off, ha, hbb, hx⟩ := hc hne
  exact ⟨b', off, ha, hbb, fun j hj => by rw [k.cell (p := ⟨b', off + j, none⟩) (by show b' < B; omega)]; exact hx j hj⟩
theorem DiceAt.size {w : World} {b : Nat} {s : Value} {l : List Int} (h : DiceAt w b s l) : b < w.heap.size := by
  obtain ⟨i, a, c, hi, hl, rfl, hb, hc⟩ := h
  exact block_lt hb
/-- New dice. -/
theorem dice_new {w : World} {s : Value} {l : List Int} (h : Ints w s l) : DiceAt (w.alloc (.cells #[s, .int .i64 0] 49)) w.heap.size s l := by
  obtain ⟨a, c, rfl, hl, hc⟩ := h
  refine ⟨0, a, c, by omega, hl, rfl, heap_alloc_new _ _, fun hne => ?_⟩
  obtain ⟨b, off, ha, hx⟩ := hc hne
  have hb : b < w.heap.size := cell_lt (hx 0 (by cases l; exact absurd rfl hne; simp))
  refine ⟨b, off, ha, hb, fun i hi => ?_⟩
  rw [World.cell?_of_block (w := w) (Below.heap_alloc w _ b hb)]
  exact hx i hi

set_option maxHeartbeats 400000 in
/-- A number from the dice. -/
theorem next_any (b : Nat) (s : Value) (l : List Int) (n : Int) (w : World) (hd : DiceAt w b s l) (hn : 1 ≤ n) (hn2 : n ≤ 4611686018427387904) :
    Calls Tryd.prog 17 #[.pointer (some ⟨b, 0, none⟩), .int .i64 n] w fun e w' => ∃ r : Int, 0 ≤ r ∧ r < n ∧ e = .returned (.int .i64 r) ∧ DiceAt w' b s l ∧ But b w w' := by
  obtain ⟨k, a, c, hk, hl, rfl, hb, hc⟩ := hd
  have hsz := block_lt hb
  by_cases hlt : k < l.length
  · obtain ⟨b', off, rfl, hbb, hcell⟩ := hc (fun e => by subst e; simp at hlt)
    refine (next_more b' off l.length c b (l.getD k 0) n w k hlt (by omega) hbb hn hn2 hb (hcell k hlt)).mono fun e w' ⟨he, q, r, hw⟩ => ?_
    subst hw
    have ho : But b w (((w.drewN q).setCell ⟨b, 1, none⟩ (.int .i64 (k + 1 : Nat))).drewN r) := ((But.drewN b w q).trans (But.set _ ⟨b, 1, none⟩ _)).trans (But.drewN b _ r)
    refine ⟨_, Int.emod_nonneg _ (by omega), Int.emod_lt_of_pos _ (by omega), he, ⟨k + 1, _, c, hlt, hl, rfl, ?_, fun _ => ⟨b', off, rfl, hbb, fun i hi => ?_⟩⟩, ho⟩
    · exact set_second hb
    · rw [ho.cell (p := ⟨b', off + i, none⟩) (Nat.lt_trans hbb hsz) (Nat.ne_of_lt hbb)]
      exact hcell i hi
  · refine (next_end a l.length c b n w k (by omega) (by omega) hb).mono fun e w' ⟨he, q, hw⟩ => ?_
    subst hw
    exact ⟨0, by omega, by omega, he, ⟨k, a, c, hk, hl, rfl, hb, hc⟩, But.drewN b w q⟩

/-! ### A prime from the dice -/
def prime12 : Nat → Int
  | 0 => 7 | 1 => 2 | 2 => 3 | 3 => 5 | 4 => 11 | 5 => 13 | 6 => 23 | 7 => 101 | 8 => 257 | 9 => 65537 | 10 => 1000003 | _ => 500000003
theorem prime12_prm (k : Nat) : PrmI (prime12 k) := by
  unfold prime12
  split
  · exact prm_7
  · exact prm_2
  · exact prm_3
  · exact prm_5
  · exact prm_11
  · exact prm_13
  · exact prm_23
  · exact prm_101
  · exact prm_257
  · exact prm_65537
  · exact prm_1000003
  · exact prm_great
theorem prime12_le (k : Nat) : prime12 k ≤ 500000003 := by unfold prime12; split <;> omega

theorem cell_new (w : World) (cs : Array Value) (t : TypeId) (fr : Nat × Nat) (k : Nat) : (w.alloc (.cells cs t fr)).cell? ⟨w.heap.size, k, none⟩ = cs[k]? := by
  rw [cell_of_row _ _ _ _ _ _ (heap_alloc_new w _)]

end Go.Proofs.YtmegmgcfnihhiaaDoor
