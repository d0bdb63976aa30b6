
/- Growing lists of lists of shares: memory. -/
import Derived.Test.YtomnncainedjdaaDoorJLsm
import Derived.Maps.AppendAt
namespace Go.Proofs.YtomnncainedjdaaDoor
open Go.RowKit Go.Sort
open Num
set_option linter.unusedVariables false

theorem infoShs : (Tryd.prog.info? 23).map (fun i => (i.zero, i.size, i.bytes)) = some (some (.slice none 0 0), 1, 24) := by kernel_rfl
/-- A list of shares whose blocks are some of those of which P speaks. -/
def SharesP (w : World) (P : Nat → Prop) (s : Value) (L : List Shr) : Prop := ∃ a c, s = .slice a L.length c ∧ L.length ≤ 1000 ∧ L.length ≤ c ∧ c ≤ 9223372036854775807 ∧ (L ≠ [] → ∃ b off, a = some ⟨b, off, none⟩ ∧ P b ∧
  ∀ i, i < L.length → ∃ v, w.cell? ⟨b, off + i * 2, none⟩ = some (.int .i64 (L.getD i (0, [])).1) ∧ w.cell? ⟨b, off + i * 2 + 1, none⟩ = some v ∧ Ints w v (L.getD i (0, [])).2 ∧ ∀ g, v.ownBlock = some g → (L.getD i (0, [])).2 ≠ [] → P g)
theorem SharesP.shares {w : World} {P : Nat → Prop} {s : Value} {L : List Shr} (h : SharesP w P s L) : Shares w s L := by
  obtain ⟨a, c, h1, h2, h3, h4, h5⟩ := h
  refine ⟨a, c, h1, h2, h3, h4, fun hl => ?_⟩
  obtain ⟨b, off, e, _, hc⟩ := h5 hl
  refine ⟨b, off, e, fun i hi => ?_⟩
  obtain ⟨v, k1, k2, k3, _⟩ := hc i hi
  exact ⟨v, k1, k2, k3⟩
theorem SharesN.toP {w : World} {base : Nat} {s : Value} {L : List Shr} (h : SharesN w base s L) {P : Nat → Prop} (hP : ∀ g, base ≤ g → g < w.heap.size → P g) : SharesP w P s L := by
  obtain ⟨a, c, h1, h2, h3, h4, h5⟩ := h
  refine ⟨a, c, h1, h2, h3, h4, fun hl => ?_⟩
  obtain ⟨b, off, e, hb, hc⟩ := h5 hl
  have h0 : 0 < L.length := List.length_pos_iff.2 hl
  obtain ⟨_, k0, _⟩ := hc 0 h0
  refine ⟨b, off, e, hP b hb (cell_lt k0), fun i hi => ?_⟩
  obtain ⟨v, k1, k2, k3, k4⟩ := hc i hi
  exact ⟨v, k1, k2, k3, fun g hg hne => hP g (k4 g hg) (k3.blk g hg hne)⟩
theorem SharesP.kept {w w' : World} {P P' : Nat → Prop} {s : Value} {L : List Shr} {row : Option Nat} (h : SharesP w P s L) (k : w.grownBy w' row) (hr : ∀ g, P g → g < w.heap.size → row ≠ some g ∧ P' g) : SharesP w' P' s L := by
  obtain ⟨a, c, h1, h2, h3, h4, h5⟩ := h
  refine ⟨a, c, h1, h2, h3, h4, fun hl => ?_⟩
  obtain ⟨b, off, e, hb, hc⟩ := h5 hl
  have h0 : 0 < L.length := List.length_pos_iff.2 hl
  obtain ⟨_, k0, _⟩ := hc 0 h0
  have hbl : b < w.heap.size := cell_lt k0
  have hbk := k.block b hbl (fun e => (hr b hb hbl).1 e.symm)
  refine ⟨b, off, e, (hr b hb hbl).2, fun i hi => ?_⟩
  obtain ⟨v, k1, k2, k3, k4⟩ := hc i hi
  refine ⟨v, by rw [World.cell?_of_block hbk]; exact k1, by rw [World.cell?_of_block hbk]; exact k2, ?_, fun g hg hne => (hr g (k4 g hg hne) (k3.blk g hg hne)).2⟩
  by_cases hne : (L.getD i (0, [])).2 = []
  · obtain ⟨a2, c2, rfl⟩ := k3.shape
    rw [hne]
    exact ints_zero _ _ _
  · exact k3.grown k fun g hg => (hr g (k4 g hg hne) (k3.blk g hg hne)).1
/-- A growing list of lists of shares. -/
def GathL (w : World) (base : Nat) (v : Value) (LL : List (List Shr)) : Prop := ∃ Z : List Value, Z.length = LL.length ∧ w.ownsRow base 23 1 v LL.length Z ∧ ∀ i, i < LL.length → SharesP w (fun g => base ≤ g ∧ v.ownBlock ≠ some g) (Z.getD i undef) (LL.getD i [])
theorem gathL_nil (w : World) (base : Nat) : GathL w base (.slice none 0 0) [] := ⟨[], rfl, World.ownsRow_nil _ _ _ _, fun i hi => by simp at hi⟩
theorem GathL.kept {w w' : World} {base : Nat} {v : Value} {LL : List (List Shr)} {row : Option Nat} (h : GathL w base v LL) (k : w.grownBy w' row) (hr : ∀ g, row = some g → g < base ∨ w.heap.size ≤ g) : GathL w' base v LL := by
  obtain ⟨Z, h1, h2, h3⟩ := h
  have hlt := World.ownsRow.lt h2
  have hv : v.ownBlock = none ∨ v.ownBlock ≠ row := by
    cases hb : v.ownBlock with
    | none => exact .inl rfl
    | some g =>
      refine .inr fun e => ?_
      have := hlt g hb
      rcases hr g e.symm with h | h <;> omega
  refine ⟨Z, h1, World.ownsRow.kept h2 k hv, fun i hi => (h3 i hi).kept k fun g hg hlt2 => ⟨fun e => ?_, hg⟩⟩
  rcases hr g e with h | h
  · have := hg.1; omega
  · omega
theorem GathL.below {w w' : World} {base B : Nat} {v : Value} {LL : List (List Shr)} (h : GathL w base v LL) (b : Below B w w') (hB : w.heap.size ≤ B) : GathL w' base v LL :=
  h.kept (grownBy_of_below b hB) (fun g e => by cases e)
theorem GathL.but {w w' : World} {base b : Nat} {v : Value} {LL : List (List Shr)} (h : GathL w base v LL) (k : But b w w') (hb : b < base) : GathL w' base v LL :=
  h.kept k.grown (fun g e => by simp at e; omega)
theorem GathL.lt {w : World} {base : Nat} {v : Value} {LL : List (List Shr)} (h : GathL w base v LL) : ∀ g, v.ownBlock = some g → base ≤ g ∧ g < w.heap.size := by
  obtain ⟨Z, h1, h2, h3⟩ := h
  exact World.ownsRow.lt h2
theorem GathL.shape {w : World} {base : Nat} {v : Value} {LL : List (List Shr)} (h : GathL w base v LL) : ∃ a c, v = .slice a LL.length c := by
  obtain ⟨Z, _, ⟨_, ⟨rfl, h0⟩ | ⟨g, cap, cur, rfl, _⟩⟩, _⟩ := h
  · exact ⟨none, 0, by rw [h0]⟩
  · exact ⟨_, cap, rfl⟩
theorem GathL.lists {w : World} {base : Nat} {v : Value} {LL : List (List Shr)} (h : GathL w base v LL) (hl : LL.length ≤ 1000) : ListsS w v LL := by
  obtain ⟨Z, h1, h2, h3⟩ := h
  rcases id h2.2 with ⟨hv, h0⟩ | ⟨g, cap, cur, hv, hb, hg, hr1, hr2, hr3⟩
  · refine ⟨none, 0, by rw [hv, h0], hl, by omega, by omega, fun hne => ?_⟩
    have := List.length_pos_iff.2 hne
    omega
  · refine ⟨_, cap, hv, hl, hr1, by simpa [maxLen] using hr2, fun hne => ⟨g, 0, rfl, fun i hi => ?_⟩⟩
    have hcell := World.ownsRow.cells h2 (g := g) (by rw [hv]; rfl)
    have had : ∀ j, (⟨g, 0, none⟩ : Addr).add j = ⟨g, j, none⟩ := fun j => by unfold Addr.add; split <;> simp_all
    have c1 := hcell i (Z.getD i undef) (by simp [List.getD, h1, hi])
    rw [had] at c1
    rw [Nat.zero_add]
    exact ⟨_, c1, (h3 i hi).shares⟩
section
variable {ops : Array Oper} {rest : List Oper} {o : Oper} {a : Act} {Q : Exit → Act → World → Prop}
theorem append_lists (w : World) (hgd : o.guard = none) (s x : Operand) (ho : o.op = .call { callee := .builtin .append, args := #[s, x], argTypes := #[47, 47] })
    (base : Nat) (v : Value) (LL : List (List Shr)) (z : Value) (L : List Shr) (hs : a.eval s = v) (hown : GathL w base v LL) (ad : Nat) (hx : a.eval x = .slice (some ⟨ad, 0, none⟩) 1 1) (hcell : w.cell? ⟨ad, 0, none⟩ = some z)
    (hz : SharesP w (fun g => base ≤ g ∧ v.ownBlock ≠ some g) z L) (hlen : LL.length ≤ 1000) (hbase : base ≤ w.heap.size)
    (h : ∀ v' w', GathL w' base v' (LL ++ [L]) → Below base w w' → wpList Tryd.prog ops Q rest (a.put o.dst v') w') : wpList Tryd.prog ops Q (o :: rest) a w := by
  obtain ⟨i0, hi, hz0, hz1, hz2⟩ := info_parts infoShs
  obtain ⟨Z, z1, z2, z3⟩ := hown
  have hsh : ∃ a c, z = .slice a L.length c := by obtain ⟨a, c, h1, _⟩ := hz; exact ⟨a, c, h1⟩
  refine wpList_append_own_at (w := w) hgd s x 47 ho base 23 i0 (.slice none 0 0) 1 24 Tryd.underlying47 hi hz0 hz1 hz2 rfl (by decide) v LL.length Z hs z2 ⟨ad, 0, none⟩ 1 1 [z] hx rfl ?_ ?_ ?_ ?_ hbase ?_
  · intro j u hj
    match j, hj with
    | 0, hj =>
      simp at hj; subst hj
      have e : (⟨ad, 0, none⟩ : Addr).add 0 = ⟨ad, 0, none⟩ := by unfold Addr.add; simp
      rw [e]; exact hcell
  · intro u hu; simp at hu; subst hu; obtain ⟨_, _, rfl⟩ := hsh; rfl
  · unfold maxLen; omega
  · omega
  · intro v' w' h1 h2 _ h5
    have hne' : ∀ g, v.ownBlock ≠ some g → g < w.heap.size → v'.ownBlock ≠ some g := fun g e1 e2 e3 => by
      rcases h5 with h5 | h5
      · rw [h5] at e3; exact e1 e3
      · rw [h5] at e3; simp at e3; omega
    refine h v' w' ⟨Z ++ [z], by simp [z1], by rw [List.length_append]; exact h1, fun i hi => ?_⟩ ((Below.refl base w).grown h2 hbase fun g hg => (World.ownsRow.lt z2 g hg).1)
    rw [List.length_append, List.length_singleton] at hi
    by_cases hlt : i < LL.length
    · have e1 : (Z ++ [z]).getD i undef = Z.getD i undef := by simp [List.getD, List.getElem?_append, z1, hlt]
      have e2 : (LL ++ [L]).getD i [] = LL.getD i [] := by simp [List.getD, List.getElem?_append, hlt]
      rw [e1, e2]
      exact (z3 i hlt).kept h2 fun g hg hl => ⟨hg.2, hg.1, hne' g hg.2 hl⟩
    · obtain rfl : i = LL.length := by omega
      have e1 : (Z ++ [z]).getD LL.length undef = z := by simp [List.getD, ← z1]
      have e2 : (LL ++ [L]).getD LL.length [] = L := by simp [List.getD]
      rw [e1, e2]
      exact hz.kept h2 fun g hg hl => ⟨hg.2, hg.1, hne' g hg.2 hl⟩
end
/-- What the inner loop keeps: all that was there but the dice, and the list that grows. -/
structure Kw (wo W : World) (b : Nat) (s : Value) (l : List Int) (u : Value) (LL : List (List Shr)) : Prop where
  but : But b wo W
  di : DiceAt W b s l
  gl : GathL W wo.heap.size u LL
section
variable {wo W W' : World} {b : Nat} {s u : Value} {l : List Int} {LL : List (List Shr)}
theorem Kw.below (h : Kw wo W b s l u LL) (k : Below W.heap.size W W') : Kw wo W' b s l u LL :=
  ⟨h.but.above k h.but.size, h.di.below k h.di.size, h.gl.below k (Nat.le_refl _)⟩
theorem Kw.buts (h : Kw wo W b s l u LL) (hb : b < wo.heap.size) (k : But b W W') (hd : DiceAt W' b s l) : Kw wo W' b s l u LL :=
  ⟨h.but.trans k, hd, h.gl.but k hb⟩
end
end Go.Proofs.YtomnncainedjdaaDoor
