
/- Growing lists of lists of numbers; a list that is moved keeps its secret. -/
import Derived.Test.YtomnncainedjdaaDoorZPr6
import Derived.Test.YtomnncainedjdaaDoorJLsm
namespace Go.Proofs.YtomnncainedjdaaDoor
open Go.RowKit Go.Sort
open Num
set_option linter.unusedVariables false

theorem infoIntSl : (Tryd.prog.info? 22).map (fun i => (i.zero, i.size, i.bytes)) = some (some (.slice none 0 0), 1, 24) := by kernel_rfl
/-- A list of numbers whose block is one of those of which P speaks. -/
def SlcP (w : World) (P : Nat → Prop) (s : Value) (l : List Int) : Prop := Slc w s l ∧ ∀ g, s.ownBlock = some g → l ≠ [] → P g
theorem SlcP.kept {w w' : World} {P P' : Nat → Prop} {s : Value} {l : List Int} {row : Option Nat} (h : SlcP w P s l) (k : w.grownBy w' row) (hr : ∀ g, P g → g < w.heap.size → row ≠ some g ∧ P' g) : SlcP w' P' s l := by
  obtain ⟨h1, h2⟩ := h
  have hi := h1.ints
  refine ⟨?_, fun g hg hne => (hr g (h2 g hg hne) (hi.blk g hg hne)).2⟩
  obtain ⟨a, c, rfl, k1, k2, k3⟩ := h1
  refine ⟨a, c, rfl, k1, k2, ?_⟩
  by_cases hne : l = []
  · subst hne; exact ints_zero _ _ _
  · exact k3.grown k fun g hg => (hr g (h2 g hg hne) (hi.blk g hg hne)).1
/-- A growing list of lists of numbers. -/
def GathI (w : World) (base : Nat) (v : Value) (LL : List (List Int)) : Prop := ∃ Z : List Value, Z.length = LL.length ∧ w.ownsRow base 22 1 v LL.length Z ∧ ∀ i, i < LL.length → SlcP w (fun g => base ≤ g ∧ v.ownBlock ≠ some g) (Z.getD i undef) (LL.getD i [])
theorem gathI_nil (w : World) (base : Nat) : GathI w base (.slice none 0 0) [] := ⟨[], rfl, World.ownsRow_nil _ _ _ _, fun i hi => by simp at hi⟩
theorem GathI.kept {w w' : World} {base : Nat} {v : Value} {LL : List (List Int)} {row : Option Nat} (h : GathI w base v LL) (k : w.grownBy w' row) (hr : ∀ g, row = some g → g < base ∨ w.heap.size ≤ g) : GathI w' base v LL := by
  obtain ⟨Z, h1, h2, h3⟩ := h
  have hlt := World.ownsRow.lt h2
  have hv : v.ownBlock = none ∨ v.ownBlock ≠ row := by
    cases hb : v.ownBlock with
    | none => exact .inl rfl
    | some g =>
      refine .inr fun e => ?_
      have := hlt g hb
      rcases hr g e.symm with h | h <;> omega
  refine ⟨Z, h1, World.ownsRow.kept h2 k hv, fun i hi => (h3 i hi).kept k fun g hg hlt2 => ⟨fun e => ?_, hg⟩⟩
  rcases hr g e with h | h
  · have := hg.1; omega
  · omega
theorem GathI.below {w w' : World} {base B : Nat} {v : Value} {LL : List (List Int)} (h : GathI w base v LL) (b : Below B w w') (hB : w.heap.size ≤ B) : GathI w' base v LL :=
  h.kept (grownBy_of_below b hB) (fun g e => by cases e)
theorem GathI.but {w w' : World} {base b : Nat} {v : Value} {LL : List (List Int)} (h : GathI w base v LL) (k : But b w w') (hb : b < base) : GathI w' base v LL :=
  h.kept k.grown (fun g e => by simp at e; omega)
theorem GathI.lt {w : World} {base : Nat} {v : Value} {LL : List (List Int)} (h : GathI w base v LL) : ∀ g, v.ownBlock = some g → base ≤ g ∧ g < w.heap.size := by
  obtain ⟨Z, h1, h2, h3⟩ := h
  exact World.ownsRow.lt h2
theorem GathI.shape {w : World} {base : Nat} {v : Value} {LL : List (List Int)} (h : GathI w base v LL) : ∃ a c, v = .slice a LL.length c := by
  obtain ⟨Z, _, ⟨_, ⟨rfl, h0⟩ | ⟨g, cap, cur, rfl, _⟩⟩, _⟩ := h
  · exact ⟨none, 0, by rw [h0]⟩
  · exact ⟨_, cap, rfl⟩
theorem GathI.lists {w : World} {base : Nat} {v : Value} {LL : List (List Int)} (h : GathI w base v LL) (hl : LL.length ≤ 1000) : ListsI w v LL := by
  obtain ⟨Z, h1, h2, h3⟩ := h
  rcases id h2.2 with ⟨hv, h0⟩ | ⟨g, cap, cur, hv, hb, hg, hr1, hr2, hr3⟩
  · refine ⟨none, 0, by rw [hv, h0], hl, by omega, by omega, fun hne => ?_⟩
    have := List.length_pos_iff.2 hne
    omega
  · refine ⟨_, cap, hv, hl, hr1, by simpa [maxLen] using hr2, fun hne => ⟨g, 0, rfl, fun i hi => ?_⟩⟩
    have hcell := World.ownsRow.cells h2 (g := g) (by rw [hv]; rfl)
    have had : ∀ j, (⟨g, 0, none⟩ : Addr).add j = ⟨g, j, none⟩ := fun j => by unfold Addr.add; split <;> simp_all
    have c1 := hcell i (Z.getD i undef) (by simp [List.getD, h1, hi])
    rw [had] at c1
    rw [Nat.zero_add]
    exact ⟨_, c1, (h3 i hi).1⟩
section
variable {ops : Array Oper} {rest : List Oper} {o : Oper} {a : Act} {Q : Exit → Act → World → Prop}
theorem append_intss (w : World) (hgd : o.guard = none) (s x : Operand) (ho : o.op = .call { callee := .builtin .append, args := #[s, x], argTypes := #[41, 41] })
    (base : Nat) (v : Value) (LL : List (List Int)) (z : Value) (L : List Int) (hs : a.eval s = v) (hown : GathI w base v LL) (ad : Nat) (hx : a.eval x = .slice (some ⟨ad, 0, none⟩) 1 1) (hcell : w.cell? ⟨ad, 0, none⟩ = some z)
    (hz : SlcP w (fun g => base ≤ g ∧ v.ownBlock ≠ some g) z L) (hlen : LL.length ≤ 1000) (hbase : base ≤ w.heap.size)
    (h : ∀ v' w', GathI w' base v' (LL ++ [L]) → Below base w w' → wpList Tryd.prog ops Q rest (a.put o.dst v') w') : wpList Tryd.prog ops Q (o :: rest) a w := by
  obtain ⟨i0, hi, hz0, hz1, hz2⟩ := info_parts infoIntSl
  obtain ⟨Z, z1, z2, z3⟩ := hown
  have hsh : ∃ a c, z = .slice a L.length c := by obtain ⟨⟨a, c, h1, _⟩, _⟩ := hz; exact ⟨a, c, h1⟩
  refine wpList_append_own_at (w := w) hgd s x 41 ho base 22 i0 (.slice none 0 0) 1 24 Tryd.underlying41 hi hz0 hz1 hz2 rfl (by decide) v LL.length Z hs z2 ⟨ad, 0, none⟩ 1 1 [z] hx rfl ?_ ?_ ?_ ?_ hbase ?_
  · intro j u hj
    match j, hj with
    | 0, hj =>
      simp at hj; subst hj
      have e : (⟨ad, 0, none⟩ : Addr).add 0 = ⟨ad, 0, none⟩ := by unfold Addr.add; simp
      rw [e]; exact hcell
  · intro u hu; simp at hu; subst hu; obtain ⟨_, _, rfl⟩ := hsh; rfl
  · unfold maxLen; omega
  · omega
  · intro v' w' h1 h2 _ h5
    have hne' : ∀ g, v.ownBlock ≠ some g → g < w.heap.size → v'.ownBlock ≠ some g := fun g e1 e2 e3 => by
      rcases h5 with h5 | h5
      · rw [h5] at e3; exact e1 e3
      · rw [h5] at e3; simp at e3; omega
    refine h v' w' ⟨Z ++ [z], by simp [z1], by rw [List.length_append]; exact h1, fun i hi => ?_⟩ ((Below.refl base w).grown h2 hbase fun g hg => (World.ownsRow.lt z2 g hg).1)
    rw [List.length_append, List.length_singleton] at hi
    by_cases hlt : i < LL.length
    · have e1 : (Z ++ [z]).getD i undef = Z.getD i undef := by simp [List.getD, List.getElem?_append, z1, hlt]
      have e2 : (LL ++ [L]).getD i [] = LL.getD i [] := by simp [List.getD, List.getElem?_append, hlt]
      rw [e1, e2]
      exact (z3 i hlt).kept h2 fun g hg hl => ⟨hg.2, hg.1, hne' g hg.2 hl⟩
    · obtain rfl : i = LL.length := by omega
      have e1 : (Z ++ [z]).getD LL.length undef = z := by simp [List.getD, ← z1]
      have e2 : (LL ++ [L]).getD LL.length [] = L := by simp [List.getD]
      rw [e1, e2]
      exact hz.kept h2 fun g hg hl => ⟨hg.2, hg.1, hne' g hg.2 hl⟩
end

/-- A list of shares that is moved keeps its secret. -/
theorem SecV.moved {p : Int} {K N K2 N2 m : Nat} {S : List Int} {f : Nat → List Int} {V : Int → List Int} {L2 : List Shr} {RR : List (List Int)} (hp : planB p ((K : Int) + 1) (N : Int) = true) (hp2 : planB p ((K2 : Int) + 1) (N2 : Int) = true) (h : SecV p (K + 1) S f V) (hm : S.length ≤ 2048) (hq : L2.Perm (rowL N V)) (h1 : K + 1 ≤ m) (h2 : m ≤ N)
    (hR : K + 1 ≤ RR.length) (hr : ∀ r ∈ RR, Els p r ∧ r.length = S.length * K2) : ∃ g U, SecV p (K2 + 1) S g U ∧ moveE p ((K : Int) + 1) (N : Int) p ((K2 : Int) + 1) (N2 : Int) (L2.take m) RR = 0 ∧ moveR p ((K : Int) + 1) (N : Int) p ((K2 : Int) + 1) (N2 : Int) (L2.take m) RR = rowL N2 U := by
  obtain ⟨q1, q2, q3, q4, q5, q6⟩ := planB_parts hp
  have hp1 : 1 ≤ p := by have := q1.1; omega
  have hg := turn_gd h.gd hq m
  have ho := turn_on h.on hq m
  have hl : (L2.take m).length = m := by rw [List.length_take, hq.length_eq, rowL_len]; omega
  obtain ⟨g, hs⟩ := mov_sec (f := f) (K := K + 1) (K2 := K2) (RR := RR) (S := S) q1 (by omega) hg (by omega) (by omega) rfl fun i hi => by
    rw [shV_on q1 (by omega) hg ho (by omega) hi]
    exact h.sec i hi
  have hmv := move_ok (p := p) (K := K + 1) (K2 := K2) (N2 := N2) (L := L2.take m) (RR := RR) hp hp2 (by push_cast; rfl) rfl rfl rfl hg hm (by omega) hR fun j hj => by
    rw [show RR.getD j [] = RR[j]'(by omega) by simp [List.getD, show j < RR.length by omega]]
    exact hr _ (List.getElem_mem _)
  exact ⟨g, _, hs, hmv.1, hmv.2⟩
theorem SecV.fits {p k n : Int} {K N : Nat} {S : List Int} {f : Nat → List Int} {V : Int → List Int} (h : SecV p K S f V) (hp : planB p k n = true) (hk : k = (K : Int)) (hn : n = (N : Int)) (hm : S.length ≤ 2048) : fitB p k n (rowL N V) = true :=
  fitB_on hp hk hn h.gd hm h.on
end Go.Proofs.YtomnncainedjdaaDoor
