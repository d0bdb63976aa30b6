
/- Shares in which something is changed: memory. -/
import Derived.Test.YtgdclefnfjbbdaaDoorHOdT
namespace Go.Proofs.YtgdclefnfjbbdaaDoor
open Go.RowKit Go.Sort
open Num
set_option linter.unusedVariables false

/-- A row of shares that may be written, with values of its own that lie apart. -/
structure OddS (w : World) (base q n : Nat) (Z : Nat → Int × Value) (L : List Shr) : Prop where
  len : L.length = n
  row : RowS w q n Z
  hold : ∀ i, i < n → (Z i).1 = (L.getD i (0, [])).1
  val : ∀ i, i < n → Gath w base (Z i).2 (L.getD i (0, [])).2
  off : ∀ i, i < n → ∀ g, (Z i).2.ownBlock = some g → g ≠ q
  apart : ∀ i j, i < n → j < n → i ≠ j → ∀ g, (Z i).2.ownBlock = some g → (Z j).2.ownBlock ≠ some g
  lo : base ≤ q
  lt : q < w.heap.size
theorem GathT.odd {w : World} {base lim : Nat} {a : Option Addr} {n c : Nat} {L : List Shr} (h : GathT w base lim (.slice a n c) L) (hn : 0 < n) : ∃ q Z, a = some ⟨q, 0, none⟩ ∧ OddS w base q n Z L := by
  obtain ⟨Z, h1, h2, h3, h4⟩ := h
  obtain ⟨h00, hn' | ⟨g, cap, cur, hv, hb, hg, hr⟩⟩ := id h2
  · simp only [Value.slice.injEq] at hn'
    omega
  · have hcell := World.ownsRow.cells h2 (g := g) (by rw [hv]; rfl)
    have hlt := World.ownsRow.lt h2 g (by rw [hv]; rfl)
    simp only [Value.slice.injEq] at hv
    obtain ⟨rfl, rfl, rfl⟩ := hv
    have hfz := World.ownsRow.frozenAt h2
    have had : ∀ j, (⟨g, 0, none⟩ : Addr).add j = ⟨g, j, none⟩ := fun j => by unfold Addr.add; split <;> simp_all
    refine ⟨g, fun i => Z.getD i (0, undef), rfl, rfl, fun i hi => ?_, fun i hi => (h3 i hi).1, fun i hi => (h3 i hi).2.1, fun i hi q hq e => ((h3 i hi).2.2 q hq).1 (by rw [e]; rfl), fun i j hi hj hne q hq e => ?_, hb, hlt.2⟩
    · obtain ⟨f1, f2⟩ := flatZ_get Z i (by omega)
      have c1 := hcell _ _ f1
      have c2 := hcell _ _ f2
      rw [had] at c1 c2
      exact ⟨c1, c2, hfz _, hfz _⟩
    · rcases Nat.lt_or_gt_of_ne hne with h | h
      · exact h4 i j h hj q hq e
      · exact h4 j i h hi q e hq
theorem OddS.kept {w w' : World} {base q n : Nat} {Z : Nat → Int × Value} {L : List Shr} {row : Option Nat} (h : OddS w base q n Z L) (k : w.grownBy w' row) (hr : ∀ g, row = some g → g < base ∨ w.heap.size ≤ g) : OddS w' base q n Z L := by
  refine ⟨h.len, h.row.of_block (k.block q h.lt (fun e => ?_)), h.hold, fun i hi => World.ownsRow.kept (h.val i hi) k ?_, h.off, h.apart, h.lo, Nat.lt_of_lt_of_le h.lt k.size⟩
  · have h1 := h.lo
    have h2 := h.lt
    rcases hr q e.symm with h3 | h3 <;> omega
  · cases e : (Z i).2.ownBlock with
    | none => exact .inl rfl
    | some b =>
      refine .inr fun e2 => ?_
      have h1 := World.ownsRow.lt (h.val i hi) b e
      rcases hr b e2.symm with h3 | h3 <;> omega
theorem OddS.but {w w' : World} {base q n b : Nat} {Z : Nat → Int × Value} {L : List Shr} (h : OddS w base q n Z L) (k : But b w w') (hb : b < base) : OddS w' base q n Z L :=
  h.kept k.grown (fun g e => by simp at e; omega)
theorem OddS.below {w w' : World} {base q n B : Nat} {Z : Nat → Int × Value} {L : List Shr} (h : OddS w base q n Z L) (b : Below B w w') (hB : w.heap.size ≤ B) : OddS w' base q n Z L :=
  h.kept (grownBy_of_below b hB) (fun g e => by cases e)
theorem RowS.set0 {w : World} {q n : Nat} {Z : Nat → Int × Value} (h : RowS w q n Z) {i : Nat} (hi : i < n) (x : Int) : RowS (w.setCell ⟨q, i * 2, none⟩ (.int .i64 x)) q n (fun j => if j = i then (x, (Z i).2) else Z j) := fun j hj => by
  obtain ⟨k0, k1, k2, k3⟩ := h j hj
  refine ⟨?_, ?_, by rw [World.frozen?_setCell]; exact k2, by rw [World.frozen?_setCell]; exact k3⟩
  · dsimp only
    by_cases e : j = i
    · subst e
      rw [if_pos rfl, World.cell?_setCell_same _ _ _ k0]
    · rw [if_neg e, World.cell?_setCell_other _ _ _ _ (by intro e2; simp only [Addr.mk.injEq] at e2; omega)]; exact k0
  · dsimp only
    rw [World.cell?_setCell_other _ _ _ _ (by intro e2; simp only [Addr.mk.injEq] at e2; omega)]
    by_cases e : j = i
    · subst e; rw [if_pos rfl]; exact k1
    · rw [if_neg e]; exact k1
theorem RowS.set1 {w : World} {q n : Nat} {Z : Nat → Int × Value} (h : RowS w q n Z) {i : Nat} (hi : i < n) (x : Value) : RowS (w.setCell ⟨q, i * 2 + 1, none⟩ x) q n (fun j => if j = i then ((Z i).1, x) else Z j) := fun j hj => by
  obtain ⟨k0, k1, k2, k3⟩ := h j hj
  refine ⟨?_, ?_, by rw [World.frozen?_setCell]; exact k2, by rw [World.frozen?_setCell]; exact k3⟩
  · dsimp only
    rw [World.cell?_setCell_other _ _ _ _ (by intro e2; simp only [Addr.mk.injEq] at e2; omega)]
    by_cases e : j = i
    · subst e; rw [if_pos rfl]; exact k0
    · rw [if_neg e]; exact k0
  · dsimp only
    by_cases e : j = i
    · subst e
      rw [if_pos rfl, World.cell?_setCell_same _ _ _ k1]
    · rw [if_neg e, World.cell?_setCell_other _ _ _ _ (by intro e2; simp only [Addr.mk.injEq] at e2; omega)]; exact k1
theorem odd_shares {w : World} {base q n c : Nat} {Z : Nat → Int × Value} {L : List Shr} (hl : L.length = n) (hn : n ≤ 1000) (hc : n ≤ c) (hc2 : c ≤ 9223372036854775807) (hq : base ≤ q) (hr : RowS w q n Z) (hv : ∀ i, i < n → (Z i).1 = (L.getD i (0, [])).1 ∧ Ints w (Z i).2 (L.getD i (0, [])).2 ∧ ∀ g, (Z i).2.ownBlock = some g → base ≤ g) :
    SharesN w base (.slice (some ⟨q, 0, none⟩) n c) L := by
  subst hl
  refine ⟨_, c, rfl, hn, hc, hc2, fun _ => ⟨q, 0, rfl, hq, fun i hi => ?_⟩⟩
  obtain ⟨k0, k1, _, _⟩ := hr i hi
  obtain ⟨e1, e2, e3⟩ := hv i hi
  rw [Nat.zero_add]
  exact ⟨_, by rw [← e1]; exact k0, k1, e2, e3⟩
theorem set_getD {L : List Shr} {i : Nat} (x : Shr) (hi : i < L.length) (j : Nat) : (L.set i x).getD j (0, []) = if j = i then x else L.getD j (0, []) := by
  by_cases e : j = i
  · subst e; rw [if_pos rfl]; simp [List.getD, hi]
  · rw [if_neg e]; simp [List.getD, Ne.symm e]
theorem OddS.plain {w : World} {base q n c : Nat} {Z : Nat → Int × Value} {L : List Shr} (h : OddS w base q n Z L) (hn : n ≤ 1000) (hc : n ≤ c) (hc2 : c ≤ 9223372036854775807) (hl : ∀ s ∈ L, s.2.length ≤ 140737488355328) : SharesN w base (.slice (some ⟨q, 0, none⟩) n c) L :=
  odd_shares h.len hn hc hc2 h.lo h.row fun i hi => ⟨h.hold i hi, (h.val i hi).reads (hl _ (by rw [List.getD_eq_getElem?_getD, List.getElem?_eq_getElem (by rw [h.len]; exact hi)]; exact List.getElem_mem _)), fun g hg => (World.ownsRow.lt (h.val i hi) g hg).1⟩
theorem OddS.bound {w : World} {base q n : Nat} {Z : Nat → Int × Value} {L : List Shr} (h : OddS w base q n Z L) {M : Nat} (hl : ∀ s ∈ L, s.2.length ≤ M) {i : Nat} (hi : i < n) : (L.getD i (0, [])).2.length ≤ M :=
  hl _ (by rw [List.getD_eq_getElem?_getD, List.getElem?_eq_getElem (by rw [h.len]; exact hi)]; exact List.getElem_mem _)
/-- Another holder. -/
theorem OddS.one {w : World} {base q n c : Nat} {Z : Nat → Int × Value} {L : List Shr} (h : OddS w base q n Z L) (hn : n ≤ 1000) (hc : n ≤ c) (hc2 : c ≤ 9223372036854775807) (hl : ∀ s ∈ L, s.2.length ≤ 140737488355328) {i : Nat} (hi : i < n) (x : Int) : SharesN (w.setCell ⟨q, i * 2, none⟩ (.int .i64 x)) base (.slice (some ⟨q, 0, none⟩) n c) (L.set i (x, (L.getD i (0, [])).2)) := by
  refine odd_shares (by rw [List.length_set]; exact h.len) hn hc hc2 h.lo (h.row.set0 hi x) fun j hj => ?_
  have hI := (h.val j hj).reads (h.bound hl hj)
  have hI2 := hI.but (But.set w ⟨q, i * 2, none⟩ (.int .i64 x)) (h.off j hj)
  have hb := fun g hg => (World.ownsRow.lt (h.val j hj) g hg).1
  rw [set_getD _ (by rw [h.len]; exact hi)]
  by_cases e : j = i
  · subst e; rw [if_pos rfl, if_pos rfl]; exact ⟨rfl, hI2, hb⟩
  · rw [if_neg e, if_neg e]; exact ⟨h.hold j hj, hI2, hb⟩
/-- Other values. -/
theorem OddS.two {w w' : World} {base q n c : Nat} {Z : Nat → Int × Value} {L : List Shr} (h : OddS w base q n Z L) (hn : n ≤ 1000) (hc : n ≤ c) (hc2 : c ≤ 9223372036854775807) (hl : ∀ s ∈ L, s.2.length ≤ 140737488355328) {i : Nat} (hi : i < n) (k : w.grownBy w' (Z i).2.ownBlock) {v : Value} {l : List Int} (hv : Ints w' v l) (hb : ∀ g, v.ownBlock = some g → base ≤ g ∧ g ≠ q) :
    SharesN (w'.setCell ⟨q, i * 2 + 1, none⟩ v) base (.slice (some ⟨q, 0, none⟩) n c) (L.set i ((L.getD i (0, [])).1, l)) := by
  have hrow : RowS w' q n Z := h.row.of_block (k.block q h.lt fun e => h.off i hi q e.symm rfl)
  refine odd_shares (by rw [List.length_set]; exact h.len) hn hc hc2 h.lo (hrow.set1 hi v) fun j hj => ?_
  rw [set_getD _ (by rw [h.len]; exact hi)]
  by_cases e : j = i
  · subst e; rw [if_pos rfl, if_pos rfl]
    exact ⟨h.hold j hj, hv.but (But.set w' ⟨q, j * 2 + 1, none⟩ v) (fun g hg => (hb g hg).2), fun g hg => (hb g hg).1⟩
  · rw [if_neg e, if_neg e]
    have hI := (h.val j hj).reads (h.bound hl hj)
    have hI2 := hI.grown k fun g hg e2 => h.apart i j hi hj (Ne.symm e) g e2 hg
    exact ⟨h.hold j hj, hI2.but (But.set w' ⟨q, i * 2 + 1, none⟩ v) (h.off j hj), fun g hg => (World.ownsRow.lt (h.val j hj) g hg).1⟩
/-- Another value. -/
theorem OddS.four {w : World} {base q n c gv : Nat} {Z : Nat → Int × Value} {L : List Shr} (h : OddS w base q n Z L) (hn : n ≤ 1000) (hc : n ≤ c) (hc2 : c ≤ 9223372036854775807) (hl : ∀ s ∈ L, s.2.length ≤ 140737488355328) {i : Nat} (hi : i < n) {m cv : Nat} (hz : (Z i).2 = .slice (some ⟨gv, 0, none⟩) m cv) (x : Int) :
    SharesN (w.setCell ⟨gv, 0, none⟩ (.int .i64 x)) base (.slice (some ⟨q, 0, none⟩) n c) (L.set i ((L.getD i (0, [])).1, (L.getD i (0, [])).2.set 0 x)) := by
  have hne : gv ≠ q := h.off i hi gv (by rw [hz]; rfl)
  refine odd_shares (by rw [List.length_set]; exact h.len) hn hc hc2 h.lo (h.row.of_block (blk_other _ _ _ _ (Ne.symm hne))) fun j hj => ?_
  rw [set_getD _ (by rw [h.len]; exact hi)]
  have hb := fun g hg => (World.ownsRow.lt (h.val j hj) g hg).1
  by_cases e : j = i
  · subst e; rw [if_pos rfl]
    have h1 := h.val j hj
    rw [hz] at h1
    have h2 := h1.set 0 x
    rw [hz]
    rw [hz] at hb
    exact ⟨h.hold j hj, h2.reads (by rw [List.length_set]; exact h.bound hl hj), hb⟩
  · rw [if_neg e]
    have hI := (h.val j hj).reads (h.bound hl hj)
    exact ⟨h.hold j hj, hI.but (But.set w ⟨gv, 0, none⟩ (.int .i64 x)) (fun g hg e2 => h.apart i j hi hj (Ne.symm e) g (by rw [hz, e2]; rfl) hg), hb⟩
end Go.Proofs.YtgdclefnfjbbdaaDoor
