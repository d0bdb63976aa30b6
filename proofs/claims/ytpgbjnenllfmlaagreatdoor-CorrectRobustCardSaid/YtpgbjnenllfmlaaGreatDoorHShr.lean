
/- Plans: as they lie in memory; the document's Valid and Random. -/
import Derived.Test.YtpgbjnenllfmlaaGreatDoorArith
import Derived.Test.YtpgbjnenllfmlaaGreatDoorNum
import Derived.Test.YtpgbjnenllfmlaaGreatDoorOwn
import Derived.Test.YtpgbjnenllfmlaaGreatDoorThru
import Derived.Maps.AppendAt
/-! Plans: as they lie in memory; the document's Valid and Random. -/
namespace Go.Proofs.YtpgbjnenllfmlaaGreatDoor
open Go.RowKit
open Num
set_option linter.unusedVariables false

/-- A plan as a value, and in memory. -/
def planV (p k n : Int) : Value := .agg #[.int .i64 p, .int .i64 k, .int .i64 n]
def PlanAt (w : World) (g : Nat) (p k n : Int) : Prop := ∃ t fr, w.heap[g]? = some (.cells #[.int .i64 p, .int .i64 k, .int .i64 n] t fr)
theorem PlanAt.lt {w : World} {g : Nat} {p k n : Int} (h : PlanAt w g p k n) : g < w.heap.size := by
  obtain ⟨t, fr, h⟩ := h
  by_cases hz : g < w.heap.size
  · exact hz
  · rw [Array.getElem?_eq_none (by omega)] at h; cases h
theorem PlanAt.below {w w' : World} {g B : Nat} {p k n : Int} (h : PlanAt w g p k n) (hB : g < B) (b : Below B w w') : PlanAt w' g p k n := by
  obtain ⟨t, fr, h⟩ := h
  exact ⟨t, fr, by rw [b.block _ hB]; exact h⟩
theorem PlanAt.c0 {w : World} {g : Nat} {p k n : Int} (h : PlanAt w g p k n) : w.cell? ⟨g, 0, none⟩ = some (.int .i64 p) := by
  obtain ⟨t, fr, h⟩ := h
  simp [World.cell?, h]
theorem PlanAt.c1 {w : World} {g : Nat} {p k n : Int} (h : PlanAt w g p k n) : w.cell? ⟨g, 1, none⟩ = some (.int .i64 k) := by
  obtain ⟨t, fr, h⟩ := h
  simp [World.cell?, h]
theorem PlanAt.c2 {w : World} {g : Nat} {p k n : Int} (h : PlanAt w g p k n) : w.cell? ⟨g, 2, none⟩ = some (.int .i64 n) := by
  obtain ⟨t, fr, h⟩ := h
  simp [World.cell?, h]
/-- Whether a plan is valid. -/
noncomputable def planB (p k n : Int) : Bool := vB p && decide (1 ≤ k) && decide (k ≤ n) && decide (n ≤ 16) && decide (n < p)

set_option maxRecDepth 100000 in
set_option maxHeartbeats 4000000 in
theorem ref6_valid (p k n : Int) (w : World) (hp : (Lit.int .i64 p).wf = true) :
    Calls Tryz.prog 38 #[planV p k n] w fun e w' => e = .returned (.bool (planB p k n)) ∧ Below w.heap.size w w' := by
  unfold planV
  have HV := Lib.hid (fun w => ref_valid p w hp)
  obtain ⟨b1, h1⟩ : ∃ b, vB p = b := ⟨_, rfl⟩
  obtain ⟨b2, h2⟩ : ∃ b, decide (1 ≤ k) = b := ⟨_, rfl⟩
  obtain ⟨b3, h3⟩ : ∃ b, decide (k ≤ n) = b := ⟨_, rfl⟩
  obtain ⟨b4, h4⟩ : ∃ b, decide (n ≤ 16) = b := ⟨_, rfl⟩
  obtain ⟨b5, h5⟩ : ∃ b, decide (n < p) = b := ⟨_, rfl⟩
  have HE : Hid (planB p k n = (b1 && b2 && b3 && b4 && b5)) := by show _ = _; unfold planB; rw [h1, h2, h3, h4, h5]
  have HB : Hid (Below w.heap.size w (w.alloc (Obj.cells #[Value.int IntKind.i64 p, Value.int IntKind.i64 k, Value.int IntKind.i64 n] 31))) := (Below.refl _ _).alloc (Nat.le_refl _) _
  rw [HE.out]
  rw [h1] at HV
  clear h1 hp HE
  go_enter Tryz.func38, Tryz.ntmps38
  go_wp2_with fail
  refine (HV.out _).mono ?_
  rintro e w' ⟨rfl, rfl⟩
  cases b1
  · go_wp2
    go_ret
    exact ⟨rfl, HB.out⟩
  cases b2
  · go_wp2
    go_ret
    exact ⟨rfl, HB.out⟩
  cases b3
  · go_wp2
    go_ret
    exact ⟨rfl, HB.out⟩
  cases b4
  · go_wp2
    go_ret
    exact ⟨rfl, HB.out⟩
  cases b5
  · go_wp2
    go_ret
    exact ⟨rfl, HB.out⟩
  go_wp2
  go_ret
  exact ⟨rfl, HB.out⟩

/-- How many random numbers. -/
theorem ref6_random (p k n : Int) (c : Nat) (w : World) (hk : 1 ≤ k) (hk2 : k ≤ 1000) (hc : c ≤ 1000000) :
    Calls Tryz.prog 26 #[planV p k n, .int .i64 c] w fun e w' => e = .returned (.int .i64 ((c : Int) * (k - 1))) ∧ Below w.heap.size w w' := by
  unfold planV
  have HB : Hid (Below w.heap.size w (w.alloc (Obj.cells #[Value.int IntKind.i64 p, Value.int IntKind.i64 k, Value.int IntKind.i64 n] 31))) := (Below.refl _ _).alloc (Nat.le_refl _) _
  have hw1 : IntKind.i64.wrap (k - 1) = k - 1 := by rw [IntKind.wrap_i64]; omega
  obtain ⟨z, hz⟩ : ∃ z, (c : Int) * (k - 1) = z := ⟨_, rfl⟩
  have hz0 : 0 ≤ z := by rw [← hz]; exact Int.mul_nonneg (by omega) (by omega)
  have hz1 : z ≤ 1000000 * 1000 := by
    rw [← hz]
    exact Int.mul_le_mul (by omega) (by omega) (by omega) (by omega)
  have hw2 : IntKind.i64.wrap z = z := by rw [IntKind.wrap_i64]; omega
  rw [hz]
  clear hz0 hz1
  go_enter Tryz.func26, Tryz.ntmps26
  go_wp2
  go_ret
  exact ⟨rfl, HB.out⟩
end Go.Proofs.YtpgbjnenllfmlaaGreatDoor
/-! Lists of shares, as they lie in memory; the document's Stands. -/
namespace Go.Proofs.YtpgbjnenllfmlaaGreatDoor
open Go.RowKit
open Num
set_option linter.unusedVariables false

/-- A list of shares that a slice reads as. -/
def Shares (w : World) (s : Value) (L : List Shr) : Prop := ∃ a c, s = .slice a L.length c ∧ L.length ≤ 1000 ∧ L.length ≤ c ∧ c ≤ 9223372036854775807 ∧ (L ≠ [] → ∃ b off, a = some ⟨b, off, none⟩ ∧
  ∀ i, i < L.length → ∃ v, w.cell? ⟨b, off + i * 2, none⟩ = some (.int .i64 (L.getD i (0, [])).1) ∧ w.cell? ⟨b, off + i * 2 + 1, none⟩ = some v ∧ Ints w v (L.getD i (0, [])).2)
theorem shares_nil (w : World) : Shares w (.slice none 0 0) [] := ⟨none, 0, rfl, by simp, by simp, by omega, fun h => absurd rfl h⟩
theorem Ints.blk {w : World} {v : Value} {l : List Int} (h : Ints w v l) : ∀ g, v.ownBlock = some g → l ≠ [] → g < w.heap.size := by
  intro g hg hl
  obtain ⟨a, c, rfl, _, hx⟩ := h
  obtain ⟨b, off, rfl, hc⟩ := hx hl
  simp [Value.ownBlock] at hg
  subst hg
  exact cell_lt (hc 0 (List.length_pos_iff.2 hl))
theorem Ints.pos {w : World} {a : Option Addr} {n c : Nat} {l : List Int} (h : Ints w (.slice a n c) l) {k : Nat} (hk : k < n) : ∃ b off, a = some ⟨b, off, none⟩ ∧ w.cell? ⟨b, off + k, none⟩ = some (.int .i64 (l.getD k 0)) := by
  obtain ⟨a', c', hv, _, hc⟩ := h
  simp only [Value.slice.injEq] at hv
  obtain ⟨rfl, rfl, _⟩ := hv
  obtain ⟨b, off, ha, hx⟩ := hc (fun e => by subst e; simp at hk)
  exact ⟨b, off, ha, hx k hk⟩
theorem Shares.below {w w' : World} {s : Value} {L : List Shr} (h : Shares w s L) {B : Nat} (hB : w.heap.size ≤ B) (b : Below B w w') : Shares w' s L := by
  obtain ⟨a, c, rfl, h1, h2, h3, h4⟩ := h
  refine ⟨a, c, rfl, h1, h2, h3, fun hl => ?_⟩
  obtain ⟨b', off, rfl, hc⟩ := h4 hl
  refine ⟨b', off, rfl, fun i hi => ?_⟩
  obtain ⟨v, c1, c2, hI⟩ := hc i hi
  have hlt := cell_lt c1
  refine ⟨v, ?_, ?_, hI.below hB b⟩
  · rw [b.cell (p := ⟨b', off + i * 2, none⟩) (by show b' < B; exact Nat.lt_of_lt_of_le hlt hB)]; exact c1
  · rw [b.cell (p := ⟨b', off + i * 2 + 1, none⟩) (by show b' < B; exact Nat.lt_of_lt_of_le hlt hB)]; exact c2
theorem Shares.at {w : World} {a : Option Addr} {n c : Nat} {L : List Shr} (h : Shares w (.slice a n c) L) {i : Nat} (hi : i < n) : ∃ b off v, a = some ⟨b, off, none⟩ ∧ w.cell? ⟨b, off + i * 2, none⟩ = some (.int .i64 (L.getD i (0, [])).1) ∧ w.cell? ⟨b, off + i * 2 + 1, none⟩ = some v ∧ Ints w v (L.getD i (0, [])).2 := by
  obtain ⟨a', c', hv, _, _, _, hx⟩ := h
  simp only [Value.slice.injEq] at hv
  obtain ⟨rfl, rfl, rfl⟩ := hv
  obtain ⟨b, off, rfl, hc⟩ := hx (fun e => by subst e; simp at hi)
  obtain ⟨v, h1, h2, h3⟩ := hc i hi
  exact ⟨b, off, v, rfl, h1, h2, h3⟩
theorem els_of_elB {p : Int} {l : List Int} (h : elB p l = true) : Els p l := fun x hx => by
  unfold elB at h
  rw [Bool.and_eq_true] at h
  have h2 := List.all_eq_true.1 h.1 x hx
  unfold okB at h2
  simpa [El] using h2
theorem Ints.shape {w : World} {v : Value} {l : List Int} (h : Ints w v l) : ∃ a c, v = .slice a l.length c := by
  obtain ⟨a, c, h, _⟩ := h
  exact ⟨a, c, h⟩
/-- A share as a value. -/
def shareV (h : Int) (v : Value) : Value := .agg #[.int .i64 h, v]
/-- Whether a share stands. -/
noncomputable def stB (p n : Int) (s : Shr) : Bool := decide (1 ≤ s.1) && decide (s.1 ≤ n) && elB p s.2

set_option maxRecDepth 100000 in
set_option maxHeartbeats 4000000 in
theorem ref6_stands (p k n h : Int) (v : Value) (l : List Int) (w : World) (hp : (Lit.int .i64 p).wf = true) (hI : Ints w v l) :
    Calls Tryz.prog 65 #[planV p k n, shareV h v] w fun e w' => e = .returned (.bool (stB p n (h, l))) ∧ Below w.heap.size w w' := by
  unfold planV shareV
  obtain ⟨b1, h1⟩ : ∃ b, decide (1 ≤ h) = b := ⟨_, rfl⟩
  obtain ⟨b2, h2⟩ : ∃ b, decide (h ≤ n) = b := ⟨_, rfl⟩
  have HB : Hid (Below w.heap.size w ((w.alloc (Obj.cells #[Value.int IntKind.i64 p, Value.int IntKind.i64 k, Value.int IntKind.i64 n] 31)).alloc (Obj.cells #[Value.int IntKind.i64 h, v] 42))) := ((Below.refl _ _).alloc (Nat.le_refl _) _).alloc (by simp) _
  have HV := Lib.hid (ref_elements p v l _ hp (hI.below (Nat.le_refl _) HB.out))
  have HE : Hid (stB p n (h, l) = (b1 && b2 && elB p l)) := by show _ = _; unfold stB; rw [h1, h2]
  rw [HE.out]
  clear hI hp HE
  go_enter Tryz.func65, Tryz.ntmps65
  cases b1
  · go_wp2
    go_ret
    exact ⟨rfl, HB.out⟩
  cases b2
  · go_wp2
    go_ret
    exact ⟨rfl, HB.out⟩
  go_wp2_with fail
  refine HV.out.mono ?_
  rintro e w' ⟨rfl, rfl⟩
  go_wp2
  go_ret
  exact ⟨by simp, HB.out⟩
end Go.Proofs.YtpgbjnenllfmlaaGreatDoor
/-! Lists of shares that a call makes by itself. -/
namespace Go.Proofs.YtpgbjnenllfmlaaGreatDoor
open Go.RowKit
open Num
set_option linter.unusedVariables false

theorem infoShare : (Tryz.prog.info? 42).map (fun i => (i.zero, i.size, i.bytes)) = some (some (.agg #[.int .i64 0, .slice none 0 0]), 2, 32) := by kernel_rfl
/-- The cells of a row of shares. -/
def flatZ (Z : List (Int × Value)) : List Value := Z.flatMap fun z => [.int .i64 z.1, z.2]
theorem flatZ_len (Z : List (Int × Value)) : (flatZ Z).length = Z.length * 2 := by
  induction Z with
  | nil => rfl
  | cons z Z ih => unfold flatZ at ih ⊢; rw [List.flatMap_cons, List.length_append, ih, List.length_cons]; simp; omega
theorem flatZ_snoc (Z : List (Int × Value)) (z : Int × Value) : flatZ (Z ++ [z]) = flatZ Z ++ [.int .i64 z.1, z.2] := by simp [flatZ]
theorem flatZ_get (Z : List (Int × Value)) : ∀ (i : Nat), i < Z.length → (flatZ Z)[i * 2]? = some (.int .i64 (Z.getD i (0, undef)).1) ∧ (flatZ Z)[i * 2 + 1]? = some (Z.getD i (0, undef)).2 := by
  induction Z with
  | nil => intro i h; simp at h
  | cons z Z ih =>
    intro i h
    have e : flatZ (z :: Z) = .int .i64 z.1 :: z.2 :: flatZ Z := rfl
    rw [e]
    cases i with
    | zero => exact ⟨rfl, rfl⟩
    | succ i =>
      have h2 := ih i (by simpa using h)
      rw [show (i + 1) * 2 = i * 2 + 1 + 1 by omega]
      simpa using h2
/-- One share of an own list: its values lie in a block of their own. -/
def InS (w : World) (base : Nat) (row : Option Nat) (z : Int × Value) (s : Shr) : Prop := z.1 = s.1 ∧ Slc w z.2 s.2 ∧ ∀ g, z.2.ownBlock = some g → base ≤ g ∧ g < w.heap.size ∧ row ≠ some g
def GathS (w : World) (base : Nat) (v : Value) (L : List Shr) : Prop := ∃ Z : List (Int × Value), Z.length = L.length ∧ w.ownsRow base 42 2 v L.length (flatZ Z) ∧ ∀ i, i < L.length → InS w base v.ownBlock (Z.getD i (0, undef)) (L.getD i (0, []))
theorem gathS_nil (w : World) (base : Nat) : GathS w base (.slice none 0 0) [] := ⟨[], rfl, World.ownsRow_nil _ _ _ _, fun i hi => by simp at hi⟩
theorem Ints.grown {w w' : World} {v : Value} {l : List Int} {row : Option Nat} (h : Ints w v l) (k : w.grownBy w' row) (hb : ∀ g, v.ownBlock = some g → row ≠ some g) : Ints w' v l := by
  obtain ⟨a, c, rfl, h2, h3⟩ := h
  refine ⟨a, c, rfl, h2, fun hl => ?_⟩
  obtain ⟨b', off, rfl, hc⟩ := h3 hl
  refine ⟨b', off, rfl, fun i hi => ?_⟩
  have h4 := hc i hi
  rw [World.cell?_of_block (w' := w') (k.block b' (cell_lt h4) (fun e => hb b' rfl e.symm))]
  exact h4
theorem Slc.grown {w w' : World} {v : Value} {l : List Int} {row : Option Nat} (h : Slc w v l) (k : w.grownBy w' row) (hb : ∀ g, v.ownBlock = some g → row ≠ some g) : Slc w' v l := by
  obtain ⟨a, c, rfl, h1, h2, h3⟩ := h
  exact ⟨a, c, rfl, h1, h2, h3.grown k hb⟩
theorem InS.grown {w w' : World} {base : Nat} {row r2 r3 : Option Nat} {z : Int × Value} {s : Shr} (h : InS w base row z s) (k : w.grownBy w' r2) (h2 : ∀ g, z.2.ownBlock = some g → r2 ≠ some g) (h3 : ∀ g, z.2.ownBlock = some g → r3 ≠ some g) : InS w' base r3 z s :=
  ⟨h.1, h.2.1.grown k h2, fun g hg => ⟨(h.2.2 g hg).1, Nat.lt_of_lt_of_le (h.2.2 g hg).2.1 k.size, h3 g hg⟩⟩
theorem grownBy_of_below {w w' : World} {B : Nat} (b : Below B w w') (hB : w.heap.size ≤ B) : w.grownBy w' none :=
  ⟨b.os, b.tape, b.output, b.size, fun k hk _ => b.block k (by omega)⟩
theorem GathS.kept {w w' : World} {base : Nat} {v : Value} {L : List Shr} {row : Option Nat} (h : GathS w base v L) (k : w.grownBy w' row) (hr : ∀ g, row = some g → g < base ∨ w.heap.size ≤ g) : GathS w' base v L := by
  obtain ⟨Z, h1, h2, h3⟩ := h
  have hlt := World.ownsRow.lt h2
  have hv : v.ownBlock = none ∨ v.ownBlock ≠ row := by
    cases hb : v.ownBlock with
    | none => exact .inl rfl
    | some g =>
      refine .inr fun e => ?_
      have := hlt g hb
      rcases hr g e.symm with h | h <;> omega
  refine ⟨Z, h1, World.ownsRow.kept h2 k hv, fun i hi => ?_⟩
  have hI := h3 i hi
  refine hI.grown k (fun g hg e => ?_) (fun g hg => (hI.2.2 g hg).2.2)
  have h5 := hI.2.2 g hg
  rcases hr g e with h | h <;> omega
theorem GathS.below {w w' : World} {base B : Nat} {v : Value} {L : List Shr} (h : GathS w base v L) (b : Below B w w') (hB : w.heap.size ≤ B) : GathS w' base v L :=
  h.kept (grownBy_of_below b hB) (fun g e => by cases e)
theorem GathS.mono {w : World} {B B' : Nat} {v : Value} {L : List Shr} (h : GathS w B v L) (hB : B' ≤ B) : GathS w B' v L := by
  obtain ⟨Z, h1, h2, h3⟩ := h
  refine ⟨Z, h1, ?_, fun i hi => ⟨(h3 i hi).1, (h3 i hi).2.1, fun g hg => ⟨Nat.le_trans hB ((h3 i hi).2.2 g hg).1, ((h3 i hi).2.2 g hg).2⟩⟩⟩
  obtain ⟨h0, hn | ⟨g, cap, cur, hv, hb, hr⟩⟩ := h2
  · exact ⟨h0, .inl hn⟩
  · exact ⟨h0, .inr ⟨g, cap, cur, hv, Nat.le_trans hB hb, hr⟩⟩
theorem GathS.alloc {w : World} {base : Nat} {v : Value} {L : List Shr} (h : GathS w base v L) (o : Obj) : GathS (w.alloc o) base v L :=
  h.kept (World.grownBy_alloc w o none) (fun g e => by cases e)
theorem GathS.block {w : World} {base : Nat} {v : Value} {L : List Shr} (h : GathS w base v L) : ∀ g, v.ownBlock = some g → base ≤ g ∧ g < w.heap.size := by
  obtain ⟨Z, h1, h2, h3⟩ := h
  exact World.ownsRow.lt h2
theorem GathS.shape {w : World} {base : Nat} {v : Value} {L : List Shr} (h : GathS w base v L) : ∃ a c, v = .slice a L.length c ∧ L.length ≤ c ∧ c ≤ 9223372036854775807 := by
  obtain ⟨Z, _, ⟨_, h | ⟨g, cap, cur, h, _, _, h2, h3, _⟩⟩, _⟩ := h
  · exact ⟨none, 0, by rw [h.1, h.2], by omega, by omega⟩
  · exact ⟨_, cap, h, h2, by simpa [maxLen] using h3⟩
theorem GathS.shares {w : World} {base : Nat} {v : Value} {L : List Shr} (h : GathS w base v L) (hl : L.length ≤ 1000) : Shares w v L := by
  obtain ⟨a, c, hv, hc1, hc2⟩ := h.shape
  obtain ⟨Z, h1, h2, h3⟩ := h
  refine ⟨a, c, hv, hl, hc1, hc2, fun hne => ?_⟩
  have h0 : 0 < L.length := List.length_pos_iff.2 hne
  rcases id h2.2 with ⟨_, h⟩ | ⟨g, cap, cur, hv2, _⟩
  · omega
  · rw [hv2] at hv
    simp only [Value.slice.injEq] at hv
    obtain ⟨rfl, _, _⟩ := hv
    have hcell := World.ownsRow.cells h2 (g := g) (by rw [hv2]; rfl)
    have had : ∀ j, (⟨g, 0, none⟩ : Addr).add j = ⟨g, j, none⟩ := fun j => by unfold Addr.add; split <;> simp_all
    refine ⟨g, 0, rfl, fun i hi => ?_⟩
    obtain ⟨f1, f2⟩ := flatZ_get Z i (by omega)
    have c1 := hcell _ _ f1
    have c2 := hcell _ _ f2
    rw [had] at c1 c2
    obtain ⟨e1, e2, _⟩ := h3 i hi
    rw [Nat.zero_add]
    exact ⟨_, by rw [← e1]; exact c1, c2, e2.ints⟩

section
variable {ops : Array Oper} {rest : List Oper} {o : Oper} {a : Act} {Q : Exit → Act → World → Prop}
/-- 'append(l, s)', l a list of shares of the call's own. -/
theorem appendS_one (w : World) (hgd : o.guard = none) (s x : Operand) (ho : o.op = .call { callee := .builtin .append, args := #[s, x], argTypes := #[23, 23] })
    (base : Nat) (v : Value) (L : List Shr) (hd : Int) (gv : Value) (l : List Int) (hs : a.eval s = v) (hown : GathS w base v L) (ad : Nat) (hx : a.eval x = .slice (some ⟨ad, 0, none⟩) 1 1) (hc0 : w.cell? ⟨ad, 0, none⟩ = some (.int .i64 hd)) (hc1 : w.cell? ⟨ad, 1, none⟩ = some gv)
    (hS : Slc w gv l) (hblk : ∀ g, gv.ownBlock = some g → base ≤ g ∧ g < w.heap.size ∧ v.ownBlock ≠ some g) (hlen : L.length < 1000) (hbase : base ≤ w.heap.size)
    (h : ∀ v' w', GathS w' base v' (L ++ [(hd, l)]) → w.grownBy w' v.ownBlock → (v'.ownBlock = v.ownBlock ∨ v'.ownBlock = some w.heap.size) → wpList Tryz.prog ops Q rest (a.put o.dst v') w') : wpList Tryz.prog ops Q (o :: rest) a w := by
  obtain ⟨i0, hi, hz0, hz1, hz2⟩ := info_parts infoShare
  obtain ⟨Z, z1, z2, z3⟩ := hown
  refine wpList_append_own_at w hgd s x 23 ho base 42 i0 (.agg #[.int .i64 0, .slice none 0 0]) 2 32 Tryz.underlying23 hi hz0 hz1 hz2 rfl (by decide) v L.length (flatZ Z) hs z2 ⟨ad, 0, none⟩ 1 1 [.int .i64 hd, gv] hx rfl ?_ ?_ ?_ ?_ hbase ?_
  · have had : ∀ j, (⟨ad, 0, none⟩ : Addr).add j = ⟨ad, j, none⟩ := fun j => by unfold Addr.add; split <;> simp_all
    intro j u hj
    rw [had]
    match j, hj with
    | 0, hj => simp at hj; subst hj; exact hc0
    | 1, hj => simp at hj; subst hj; exact hc1
  · obtain ⟨_, _, rfl, _⟩ := hS
    intro u hu
    simp only [List.mem_cons, List.not_mem_nil, or_false] at hu
    rcases hu with rfl | rfl <;> rfl
  · unfold maxLen; omega
  · omega
  · intro v' w' h1 h2 _ h5
    refine h v' w' ⟨Z ++ [(hd, gv)], by simp [z1], by rw [flatZ_snoc, List.length_append]; exact h1, fun i hi => ?_⟩ h2 h5
    rw [List.length_append, List.length_singleton] at hi
    have hrow : ∀ g : Nat, g < w.heap.size → v.ownBlock ≠ some g → v'.ownBlock ≠ some g := fun g g1 g2 e => by
      rcases h5 with h5 | h5
      · rw [h5] at e; exact g2 e
      · rw [h5] at e; simp at e; omega
    by_cases hlt : i < L.length
    · have e1 : (Z ++ [(hd, gv)]).getD i (0, undef) = Z.getD i (0, undef) := by simp [List.getD, List.getElem?_append, z1, hlt]
      have e2 : (L ++ [(hd, l)]).getD i (0, []) = L.getD i (0, []) := by simp [List.getD, List.getElem?_append, hlt]
      rw [e1, e2]
      have hI := z3 i hlt
      exact hI.grown h2 (fun g hg => (hI.2.2 g hg).2.2) (fun g hg => hrow g (hI.2.2 g hg).2.1 (hI.2.2 g hg).2.2)
    · obtain rfl : i = L.length := by omega
      have e1 : (Z ++ [(hd, gv)]).getD L.length (0, undef) = (hd, gv) := by simp [List.getD, ← z1]
      have e2 : (L ++ [(hd, l)]).getD L.length (0, []) = (hd, l) := by simp [List.getD]
      rw [e1, e2]
      refine ⟨rfl, hS.grown h2 (fun g hg => (hblk g hg).2.2), fun g hg => ⟨(hblk g hg).1, Nat.lt_of_lt_of_le (hblk g hg).2.1 h2.size, hrow g (hblk g hg).2.1 (hblk g hg).2.2⟩⟩
end
/-- A region whose orders all end alike, but for one value. -/
theorem region_oneV {P : Program} {id : Nat} {ops : Array Oper} {d : Bool} {Q : Exit → Act → World → Prop} {a : Act} {w : World} (R : Value → World → Prop) (A : Value → Act) (hr : (Code.region id ops d).wp P (fun e a' W => e = .normal ∧ ∃ v, a' = A v ∧ R v W) a w)
    (h : ∀ v W, R v W → Q .normal (A v) W) : (Code.region id ops d).wp P Q a w :=
  Code.wp_mono (fun _ _ _ ⟨h1, v, h2, h3⟩ => by subst h1; subst h2; exact h v _ h3) hr
section
variable {ops : Array Oper} {o : Oper} {a : Act} {w : World} {K : Act → World → Prop} {Q : Exit → Act → World → Prop} {E : Prop}
/-- 'append', as a step of a region that draws its order. -/
theorem step_appendV (hg : o.guard = none) (s x : Operand) (t1 t2 : TypeId)
    (hop : o.op = .call { callee := .builtin .append, args := #[s, x], argTypes := #[t1, t2] }) (v sv : Value) (hs : a.eval s = v) (hx : a.eval x = sv) (R : Value → World → Prop)
    (hrun : ∃ v' W', (Builtin.append_ #[t1, t2] o.type #[v, sv]).run Tryz.prog w = .ok v' W' ∧ R v' W') (hK : ∀ v' W', R v' W' → K (a.put o.dst v') W') :
    if Region.wanted o (yielded ops a.tmps) = true then Oper.wp Tryz.prog o a w K Q else E := by
  have hw : Region.wanted o (yielded ops a.tmps) = true := by simp [Region.wanted, hg]
  rw [if_pos hw]
  obtain ⟨v', W', hr, hR⟩ := hrun
  unfold Oper.wp
  simp [execOp, hop, resolve, invoke, builtin, hs, hx, hr, Result.andThen]
  exact hK v' W' hR
end
theorem Gath.shape {w : World} {B : Nat} {v : Value} {zs : List Int} (h : Gath w B v zs) : ∃ a c, v = .slice a zs.length c := by
  obtain ⟨_, h | ⟨g, cap, cur, h, _⟩⟩ := h
  · exact ⟨none, 0, by rw [h.1, h.2]⟩
  · exact ⟨_, cap, h⟩
/-- 'append(v, y)', v a slice of the call's own. -/
theorem run_append_gath {W : World} {B : Nat} {v : Value} {zs : List Int} (hown : Gath W B v zs) (ad : Nat) (y : Int) (hc : W.cell? ⟨ad, 0, none⟩ = some (.int .i64 y)) (hlen : zs.length ≤ 1000000) (hB : B ≤ W.heap.size) (ty : TypeId) :
    ∃ v' W', (Builtin.append_ #[22, 22] ty #[v, .slice (some ⟨ad, 0, none⟩) 1 1]).run Tryz.prog W = .ok v' W' ∧ Gath W' B v' (zs ++ [y]) ∧ W.grownBy W' v.ownBlock := by
  obtain ⟨i0, hi, hz0, hz1, hz2⟩ := info_parts infoInt
  obtain ⟨v', W', h1, h2, h3, _⟩ := run_append_own (P := Tryz.prog) W B 22 ty 3 i0 (.int .i64 0) 1 8 Tryz.underlying22 hi hz0 hz1 hz2 rfl (by decide) v zs.length (zs.map (Value.int .i64)) hown ⟨ad, 0, none⟩ 1 1 [.int .i64 y] rfl (by
    intro j u hj
    match j, hj with
    | 0, hj =>
      simp at hj; subst hj
      have e : (⟨ad, 0, none⟩ : Addr).add 0 = ⟨ad, 0, none⟩ := by unfold Addr.add; simp
      rw [e]; exact hc) (by intro u hu; simp at hu; subst hu; rfl) (by unfold maxLen; omega) (by omega) hB
  exact ⟨v', W', h1, by unfold Gath; simpa using h2, h3⟩
/-- 'append(v, l...)', v a slice of the call's own. -/
theorem run_append_ints {W : World} {B : Nat} {v sv : Value} {zs l : List Int} (hown : Gath W B v zs) (hI : Ints W sv l) (hlen : zs.length + l.length ≤ 1000000) (hB : B ≤ W.heap.size) (ty : TypeId) :
    ∃ v' W', (Builtin.append_ #[22, 22] ty #[v, sv]).run Tryz.prog W = .ok v' W' ∧ Gath W' B v' (zs ++ l) ∧ W.grownBy W' v.ownBlock := by
  obtain ⟨aa, c, rfl, _, hc⟩ := hI
  obtain ⟨i0, hi, hz0, hz1, hz2⟩ := info_parts infoInt
  cases aa with
  | none =>
    have hl : l = [] := by
      by_cases e : l = []
      · exact e
      · obtain ⟨b, off, h1, _⟩ := hc e; cases h1
    subst hl
    refine ⟨v, W, ?_, by rw [List.append_nil]; exact hown, World.grownBy.refl W _⟩
    obtain ⟨_, hn | ⟨g, cap, cur, rfl, _, _, h1, _⟩⟩ := hown
    · obtain ⟨rfl, _⟩ := hn
      simp [Builtin.append_, run_underlying Tryz.underlying22, sizeOf, typeInfo, hi, Builtin.lenOf, Builtin.firstCells]
    · simp [Builtin.append_, run_underlying Tryz.underlying22, sizeOf, typeInfo, hi, Builtin.lenOf, Builtin.firstCells, h1, storeCells]
  | some ad =>
    obtain ⟨v', W', h1, h2, h3, _⟩ := run_append_own (P := Tryz.prog) W B 22 ty 3 i0 (.int .i64 0) 1 8 Tryz.underlying22 hi hz0 hz1 hz2 rfl (by decide) v zs.length (zs.map (Value.int .i64)) hown ad l.length c (l.map (Value.int .i64)) (by simp) (by
      intro j u hj
      have hjl : j < l.length := by
        by_cases e : j < l.length
        · exact e
        · rw [List.getElem?_eq_none (by simp; omega)] at hj; cases hj
      obtain ⟨b, off, e, hcell⟩ := hc (fun e => by subst e; simp at hjl)
      cases e
      have e2 : (⟨b, off, none⟩ : Addr).add j = ⟨b, off + j, none⟩ := by unfold Addr.add; split <;> simp_all
      rw [e2, hcell j hjl]
      simp [hjl, List.getD] at hj ⊢
      exact hj) (by intro u hu; obtain ⟨y, _, rfl⟩ := List.mem_map.1 hu; rfl) (by unfold maxLen; omega) (by omega) hB
    exact ⟨v', W', h1, by unfold Gath; rw [List.length_append, List.map_append]; exact h2, h3⟩
/-- 'append(l, s)', l a list of shares of the call's own. -/
theorem run_appendS {W : World} {B : Nat} {v : Value} {L : List Shr} (hown : GathS W B v L) (ad : Nat) (hd : Int) (gv : Value) (l : List Int) (hc0 : W.cell? ⟨ad, 0, none⟩ = some (.int .i64 hd)) (hc1 : W.cell? ⟨ad, 1, none⟩ = some gv)
    (hS : Slc W gv l) (hblk : ∀ g, gv.ownBlock = some g → B ≤ g ∧ g < W.heap.size ∧ v.ownBlock ≠ some g) (hlen : L.length < 1000) (hB : B ≤ W.heap.size) (ty : TypeId) :
    ∃ v' W', (Builtin.append_ #[23, 23] ty #[v, .slice (some ⟨ad, 0, none⟩) 1 1]).run Tryz.prog W = .ok v' W' ∧ GathS W' B v' (L ++ [(hd, l)]) ∧ W.grownBy W' v.ownBlock ∧ (v'.ownBlock = v.ownBlock ∨ v'.ownBlock = some W.heap.size) := by
  obtain ⟨i0, hi, hz0, hz1, hz2⟩ := info_parts infoShare
  obtain ⟨Z, z1, z2, z3⟩ := hown
  obtain ⟨v', w', h0, h1, h2, _, h5⟩ := run_append_own_at (P := Tryz.prog) W B 23 ty 42 i0 (.agg #[.int .i64 0, .slice none 0 0]) 2 32 Tryz.underlying23 hi hz0 hz1 hz2 rfl (by decide) v L.length (flatZ Z) z2 ⟨ad, 0, none⟩ 1 1 [.int .i64 hd, gv] rfl (by
    have had : ∀ j, (⟨ad, 0, none⟩ : Addr).add j = ⟨ad, j, none⟩ := fun j => by unfold Addr.add; split <;> simp_all
    intro j u hj
    rw [had]
    match j, hj with
    | 0, hj => simp at hj; subst hj; exact hc0
    | 1, hj => simp at hj; subst hj; exact hc1) (by
    obtain ⟨_, _, rfl, _⟩ := hS
    intro u hu
    simp only [List.mem_cons, List.not_mem_nil, or_false] at hu
    rcases hu with rfl | rfl <;> rfl) (by unfold maxLen; omega) (by omega) hB
  refine ⟨v', w', h0, ⟨Z ++ [(hd, gv)], by simp [z1], by rw [flatZ_snoc, List.length_append]; exact h1, fun i hi => ?_⟩, h2, h5⟩
  rw [List.length_append, List.length_singleton] at hi
  have hrow : ∀ g : Nat, g < W.heap.size → v.ownBlock ≠ some g → v'.ownBlock ≠ some g := fun g g1 g2 e => by
    rcases h5 with h5 | h5
    · rw [h5] at e; exact g2 e
    · rw [h5] at e; simp at e; omega
  by_cases hlt : i < L.length
  · have e1 : (Z ++ [(hd, gv)]).getD i (0, undef) = Z.getD i (0, undef) := by simp [List.getD, List.getElem?_append, z1, hlt]
    have e2 : (L ++ [(hd, l)]).getD i (0, []) = L.getD i (0, []) := by simp [List.getD, List.getElem?_append, hlt]
    rw [e1, e2]
    have hI := z3 i hlt
    exact hI.grown h2 (fun g hg => (hI.2.2 g hg).2.2) (fun g hg => hrow g (hI.2.2 g hg).2.1 (hI.2.2 g hg).2.2)
  · obtain rfl : i = L.length := by omega
    have e1 : (Z ++ [(hd, gv)]).getD L.length (0, undef) = (hd, gv) := by simp [List.getD, ← z1]
    have e2 : (L ++ [(hd, l)]).getD L.length (0, []) = (hd, l) := by simp [List.getD]
    rw [e1, e2]
    exact ⟨rfl, hS.grown h2 (fun g hg => (hblk g hg).2.2), fun g hg => ⟨(hblk g hg).1, Nat.lt_of_lt_of_le (hblk g hg).2.1 h2.size, hrow g (hblk g hg).2.1 (hblk g hg).2.2⟩⟩
end Go.Proofs.YtpgbjnenllfmlaaGreatDoor
