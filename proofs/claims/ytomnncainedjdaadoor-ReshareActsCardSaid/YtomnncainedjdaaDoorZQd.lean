
/- What the document's Move keeps in memory. -/
import Derived.Test.YtomnncainedjdaaDoorZQc
import Derived.Test.YtomnncainedjdaaDoorZMov
import Derived.Test.YtomnncainedjdaaDoorHXm
namespace Go.Proofs.YtomnncainedjdaaDoor
open Go.RowKit Go.Sort
open Num
set_option linter.unusedVariables false

/-- A growing list of lists of shares beside a growing list of numbers. -/
def GathM (w : World) (base : Nat) (vF v : Value) (LL : List (List Shr)) : Prop := ∃ Z : List Value, Z.length = LL.length ∧ w.ownsRow base 23 1 v LL.length Z ∧ ∀ i, i < LL.length → SharesP w (fun g => base ≤ g ∧ v.ownBlock ≠ some g ∧ vF.ownBlock ≠ some g) (Z.getD i undef) (LL.getD i [])
structure MdW (w0 W : World) (g base : Nat) (p k n k2 n2 : Int) (vF : Value) (zs : List Int) (vG : Value) (LL : List (List Shr)) : Prop where
  pl : Pl2 w0 W g p k n p k2 n2
  fr : Gath W base vF zs
  gl : GathM W base vF vG LL
  fb : ∀ r, vF.ownBlock = some r → vG.ownBlock ≠ some r
  lt : g + 1 < base
  sz : base ≤ W.heap.size
section
variable {w0 W W' : World} {g base : Nat} {p k n k2 n2 : Int} {vF vG : Value} {zs : List Int} {LL : List (List Shr)}
theorem GathM.lt (h : GathM W base vF vG LL) : ∀ g, vG.ownBlock = some g → base ≤ g ∧ g < W.heap.size := by
  obtain ⟨Z, h1, h2, h3⟩ := h
  exact World.ownsRow.lt h2
theorem GathM.kept (h : GathM W base vF vG LL) {vF' : Value} {row : Option Nat} (k : W.grownBy W' row) (h1 : ∀ g, vG.ownBlock = some g → row ≠ some g) (hr : ∀ g, base ≤ g → g < W.heap.size → vG.ownBlock ≠ some g → vF.ownBlock ≠ some g → row ≠ some g ∧ vF'.ownBlock ≠ some g) : GathM W' base vF' vG LL := by
  obtain ⟨Z, z1, z2, z3⟩ := h
  refine ⟨Z, z1, World.ownsRow.kept z2 k ?_, fun i hi => (z3 i hi).kept k fun q hq hl => ⟨(hr q hq.1 hl hq.2.1 hq.2.2).1, hq.1, hq.2.1, (hr q hq.1 hl hq.2.1 hq.2.2).2⟩⟩
  cases e : vG.ownBlock with
  | none => exact .inl rfl
  | some q => exact .inr (fun e2 => h1 q e e2.symm)
theorem GathM.at (h : GathM W base vF vG LL) {i : Nat} (hi : i < LL.length) : ∃ b c z, vG = .slice (some ⟨b, 0, none⟩) LL.length c ∧ W.cell? ⟨b, i, none⟩ = some z ∧ Shares W z (LL.getD i []) := by
  obtain ⟨Z, h1, h2, h3⟩ := h
  rcases id h2.2 with ⟨hv, h0⟩ | ⟨q, cap, cur, hv, hb, hg, hr1, hr2, hr3⟩
  · omega
  · have hcell := World.ownsRow.cells h2 (g := q) (by rw [hv]; rfl)
    have had : ∀ j, (⟨q, 0, none⟩ : Addr).add j = ⟨q, j, none⟩ := fun j => by unfold Addr.add; split <;> simp_all
    have c1 := hcell i (Z.getD i undef) (by simp [List.getD, h1, hi])
    rw [had] at c1
    exact ⟨q, cap, _, hv, c1, (h3 i hi).shares⟩
theorem MdW.below (h : MdW w0 W g base p k n k2 n2 vF zs vG LL) (b : Below W.heap.size W W') : MdW w0 W' g base p k n k2 n2 vF zs vG LL :=
  ⟨h.pl.below b, h.fr.kept b (Nat.le_refl _), h.gl.kept (row := none) (grownBy_of_below b (Nat.le_refl _)) (fun g _ e => (nomatch e)) (fun g _ _ _ e => ⟨fun e => (nomatch e), e⟩), h.fb, h.lt, Nat.le_trans h.sz b.size⟩
/-- The next old holder. -/
theorem MdW.from (h : MdW w0 W g base p k n k2 n2 vF zs vG LL) {v' : Value} {z : Int} (fr' : Gath W' base v' (zs ++ [z])) (gr : W.grownBy W' vF.ownBlock) (hb : v'.ownBlock = vF.ownBlock ∨ v'.ownBlock = some W.heap.size) : MdW w0 W' g base p k n k2 n2 v' (zs ++ [z]) vG LL := by
  have hbl : Below base W W' := (Below.refl _ W).grown gr h.sz fun b hb => (gath_lt h.fr b hb).1
  refine ⟨h.pl.keep hbl h.lt, fr', h.gl.kept gr (fun q hq e => h.fb q e hq) (fun q h1 h2 h3 h4 => ⟨h4, fun e => ?_⟩), fun r hr e => ?_, h.lt, Nat.le_trans h.sz hbl.size⟩
  · rcases hb with hb | hb
    · rw [hb] at e; exact h4 e
    · rw [hb] at e; have := Option.some.inj e; omega
  · rcases hb with hb | hb
    · rw [hb] at hr; exact h.fb r hr e
    · rw [hb] at hr; have := Option.some.inj hr; have := (h.gl.lt r e).2; omega
theorem mdW_new (pl : Pl2 w0 W g p k n p k2 n2) : MdW w0 W g W.heap.size p k n k2 n2 (.slice none 0 0) [] (.slice none 0 0) [] :=
  ⟨pl, gath_nil _ _, ⟨[], rfl, World.ownsRow_nil _ _ _ _, fun i hi => by simp at hi⟩, fun r hr => by simp [Value.ownBlock] at hr, pl.lt, Nat.le_refl _⟩
variable {ops : Array Oper} {rest : List Oper} {o : Oper} {a : Act} {Q : Exit → Act → World → Prop}
/-- The next list. -/
theorem MdW.give (hm : MdW w0 W g base p k n k2 n2 vF zs vG LL) (hgd : o.guard = none) (s x : Operand) (ho : o.op = .call { callee := .builtin .append, args := #[s, x], argTypes := #[47, 47] })
    (z : Value) (L : List Shr) (hs : a.eval s = vG) (ad : Nat) (hx : a.eval x = .slice (some ⟨ad, 0, none⟩) 1 1) (hcell : W.cell? ⟨ad, 0, none⟩ = some z)
    (hz : SharesP W (fun g => base ≤ g ∧ vG.ownBlock ≠ some g ∧ vF.ownBlock ≠ some g) z L) (hlen : LL.length ≤ 1000)
    (h : ∀ v' w', MdW w0 w' g base p k n k2 n2 vF zs v' (LL ++ [L]) → wpList Tryd.prog ops Q rest (a.put o.dst v') w') : wpList Tryd.prog ops Q (o :: rest) a W := by
  obtain ⟨i0, hi, hz0, hz1, hz2⟩ := info_parts infoShs
  obtain ⟨Z, z1, z2, z3⟩ := hm.gl
  have hsh : ∃ a c, z = .slice a L.length c := by obtain ⟨a, c, h1, _⟩ := hz; exact ⟨a, c, h1⟩
  refine wpList_append_own_at (w := W) hgd s x 47 ho base 23 i0 (.slice none 0 0) 1 24 Tryd.underlying47 hi hz0 hz1 hz2 rfl (by decide) vG LL.length Z hs z2 ⟨ad, 0, none⟩ 1 1 [z] hx rfl ?_ ?_ ?_ ?_ hm.sz ?_
  · intro j u hj
    match j, hj with
    | 0, hj =>
      simp at hj; subst hj
      have e : (⟨ad, 0, none⟩ : Addr).add 0 = ⟨ad, 0, none⟩ := by unfold Addr.add; simp
      rw [e]; exact hcell
  · intro u hu; simp at hu; subst hu; obtain ⟨_, _, rfl⟩ := hsh; rfl
  · unfold maxLen; omega
  · omega
  · intro v' w' h1 h2 _ h5
    have hne' : ∀ g, vG.ownBlock ≠ some g → g < W.heap.size → v'.ownBlock ≠ some g := fun g e1 e2 e3 => by
      rcases h5 with h5 | h5
      · rw [h5] at e3; exact e1 e3
      · rw [h5] at e3; simp at e3; omega
    have hbl : Below base W w' := (Below.refl base W).grown h2 hm.sz fun g hg => (World.ownsRow.lt z2 g hg).1
    refine h v' w' ⟨hm.pl.keep hbl hm.lt, gath_kept_row hm.fr h2 (fun q hq => hm.fb q hq), ⟨Z ++ [z], by simp [z1], by rw [List.length_append]; exact h1, fun i hi => ?_⟩, fun r hr e => hne' r (hm.fb r hr) (gath_lt hm.fr r hr).2 e, hm.lt, Nat.le_trans hm.sz hbl.size⟩
    rw [List.length_append, List.length_singleton] at hi
    by_cases hlt : i < LL.length
    · have e1 : (Z ++ [z]).getD i undef = Z.getD i undef := by simp [List.getD, List.getElem?_append, z1, hlt]
      have e2 : (LL ++ [L]).getD i [] = LL.getD i [] := by simp [List.getD, List.getElem?_append, hlt]
      rw [e1, e2]
      exact (z3 i hlt).kept h2 fun g hg hl => ⟨hg.2.1, hg.1, hne' g hg.2.1 hl, hg.2.2⟩
    · obtain rfl : i = LL.length := by omega
      have e1 : (Z ++ [z]).getD LL.length undef = z := by simp [List.getD, ← z1]
      have e2 : (LL ++ [L]).getD LL.length [] = L := by simp [List.getD]
      rw [e1, e2]
      exact hz.kept h2 fun g hg hl => ⟨hg.2.1, hg.1, hne' g hg.2.1 hl, hg.2.2⟩
theorem append_oneD (w : World) (hgd : o.guard = none) (s x : Operand) (ho : o.op = .call { callee := .builtin .append, args := #[s, x], argTypes := #[22, 22] })
    (base : Nat) (v : Value) (zs : List Int) (z : Int) (hs : a.eval s = v) (hown : Gath w base v zs) (ad : Addr) (hx : a.eval x = .slice (some ad) 1 1) (hcell : w.cell? ad = some (.int .i64 z))
    (hlen : zs.length < 17592186044416) (hbase : base ≤ w.heap.size)
    (h : ∀ v' w', Gath w' base v' (zs ++ [z]) → w.grownBy w' v.ownBlock → (v'.ownBlock = v.ownBlock ∨ v'.ownBlock = some w.heap.size) → wpList Tryd.prog ops Q rest (a.put o.dst v') w') : wpList Tryd.prog ops Q (o :: rest) a w := by
  obtain ⟨i0, hi, hz0, hz1, hz2⟩ := info_parts infoInt
  refine wpList_append_own_at (w := w) hgd s x 22 ho base 3 i0 (.int .i64 0) 1 8 Tryd.underlying22 hi hz0 hz1 hz2 rfl (by decide) v zs.length (zs.map (Value.int .i64)) hs hown ad 1 1 [.int .i64 z] hx rfl ?_ ?_ ?_ ?_ hbase ?_
  · intro j u hj
    match j, hj with
    | 0, hj =>
      simp at hj; subst hj
      have e : ad.add 0 = ad := by unfold Addr.add; simp
      rw [e]; exact hcell
  · intro u hu; simp at hu; subst hu; rfl
  · unfold maxLen; omega
  · omega
  · intro v' w' h1 h2 _ h5
    refine h v' w' ?_ h2 h5
    unfold Gath
    rw [List.length_append, List.map_append]
    exact h1
end
/-- What the old shares gave to the new holders. -/
def givenL (p : Int) (K2 N2 : Nat) (L : List Shr) (RR : List (List Int)) (i : Nat) : List (List Shr) := (List.range i).map fun j => rowL N2 (dealV p K2 (L.getD j (0, [])).2 (RR.getD j []))
theorem givenL_succ (p : Int) (K2 N2 : Nat) (L : List Shr) (RR : List (List Int)) (i : Nat) : givenL p K2 N2 L RR (i + 1) = givenL p K2 N2 L RR i ++ [rowL N2 (dealV p K2 (L.getD i (0, [])).2 (RR.getD i []))] := by simp [givenL, List.range_succ]
theorem givenL_len (p : Int) (K2 N2 : Nat) (L : List Shr) (RR : List (List Int)) (i : Nat) : (givenL p K2 N2 L RR i).length = i := by simp [givenL]
theorem givenL_get {p : Int} {K2 N2 : Nat} {L : List Shr} {RR : List (List Int)} {i j : Nat} (hj : j < i) : (givenL p K2 N2 L RR i).getD j [] = rowL N2 (dealV p K2 (L.getD j (0, [])).2 (RR.getD j [])) := by simp [givenL, List.getD, hj]
theorem GathS.toP {W : World} {B : Nat} {v : Value} {L : List Shr} (h : GathS W B v L) (hl : L.length ≤ 1000) {P : Nat → Prop} (hP : ∀ g, B ≤ g → g < W.heap.size → P g) : SharesP W P v L := by
  obtain ⟨a, c, hv, hc1, hc2⟩ := h.shape
  have hlt := h.block
  obtain ⟨Z, h1, h2, h3⟩ := h
  refine ⟨a, c, hv, hl, hc1, hc2, fun hne => ?_⟩
  have h0 : 0 < L.length := List.length_pos_iff.2 hne
  rcases id h2.2 with ⟨_, h⟩ | ⟨g, cap, cur, hv2, _⟩
  · omega
  · have hcell := World.ownsRow.cells h2 (g := g) (by rw [hv2]; rfl)
    have had : ∀ j, (⟨g, 0, none⟩ : Addr).add j = ⟨g, j, none⟩ := fun j => by unfold Addr.add; split <;> simp_all
    rw [hv] at hv2
    simp only [Value.slice.injEq] at hv2
    have hg := hlt g (by rw [hv, hv2.1]; rfl)
    refine ⟨g, 0, hv2.1, hP g hg.1 hg.2, fun i hi => ?_⟩
    obtain ⟨f1, f2⟩ := flatZ_get Z i (by omega)
    have c1 := hcell _ _ f1
    have c2 := hcell _ _ f2
    rw [had] at c1 c2
    obtain ⟨e1, e2, e3⟩ := h3 i hi
    rw [Nat.zero_add]
    exact ⟨_, by rw [← e1]; exact c1, c2, e2.ints, fun q hq hne => hP q (e3 q hq).1 (e2.ints.blk q hq hne)⟩
def fstL (L : List Shr) (i : Nat) : List Int := (L.take i).map (·.1)
theorem fstL_len {L : List Shr} {i : Nat} (h : i ≤ L.length) : (fstL L i).length = i := by unfold fstL; rw [List.length_map, List.length_take]; omega
theorem take_fst_snoc {L : List Shr} {t : Nat} (ht : t < L.length) : (L.take (t + 1)).map (·.1) = (L.take t).map (·.1) ++ [(L.getD t (0, [])).1] := by
  rw [List.take_add_one, List.map_append, List.getElem?_eq_getElem ht]
  simp [List.getD, ht]
theorem fstL_succ {L : List Shr} {t : Nat} (ht : t < L.length) : fstL L (t + 1) = fstL L t ++ [(L.getD t (0, [])).1] := take_fst_snoc ht
end Go.Proofs.YtomnncainedjdaaDoor
