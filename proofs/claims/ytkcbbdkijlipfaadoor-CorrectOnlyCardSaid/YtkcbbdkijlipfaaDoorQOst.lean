
/- One in a small field: what the statement keeps in memory. -/
import Derived.Test.YtkcbbdkijlipfaaDoorQOmt
import Derived.Test.YtkcbbdkijlipfaaDoorQAwk
import Derived.Maps.AppendAt
namespace Go.Proofs.YtkcbbdkijlipfaaDoor
open Go.RowKit Go.Sort
open Num
set_option linter.unusedVariables false

theorem infoInts : (Tryd.prog.info? 22).map (fun i => (i.zero, i.size, i.bytes)) = some (some (.slice none 0 0), 1, 24) := by kernel_rfl
/-- Two growing lists beside the dice. -/
structure RunW (w0 W : World) (b q : Nat) (s : Value) (l : List Int) (vx vy : Value) (X Y : List Int) : Prop where
  gx : Gath W q vx X
  gy : Gath W q vy Y
  ne : ∀ k, vx.ownBlock = some k → vy.ownBlock ≠ some k
  di : DiceAt W b s l
  be : Below b w0 W
  wh : Wheel W
  lt : b < q
  sz : q ≤ W.heap.size
  ta : 1 < b
theorem RunW.below {w0 W W' : World} {b q : Nat} {s vx vy : Value} {l X Y : List Int} (h : RunW w0 W b q s l vx vy X Y) (k : Below W.heap.size W W') : RunW w0 W' b q s l vx vy X Y := by
  have h1 := h.lt
  have h2 := h.sz
  have h3 := h.ta
  exact ⟨h.gx.kept k (Nat.le_refl _), h.gy.kept k (Nat.le_refl _), h.ne, h.di.below k (by omega), h.be.trans (k.mono (by omega)), h.wh.below (by omega) k, h.lt, Nat.le_trans h2 k.size, h.ta⟩
theorem RunW.alloc {w0 W : World} {b q : Nat} {s vx vy : Value} {l X Y : List Int} (h : RunW w0 W b q s l vx vy X Y) (o : Obj) : RunW w0 (W.alloc o) b q s l vx vy X Y :=
  h.below ((Below.refl _ _).alloc (Nat.le_refl _) o)
theorem RunW.but {w0 W W' : World} {b q : Nat} {s vx vy : Value} {l X Y : List Int} (h : RunW w0 W b q s l vx vy X Y) (k : But b W W') (d : DiceAt W' b s l) : RunW w0 W' b q s l vx vy X Y := by
  have h1 := h.lt
  have h2 := h.sz
  have h3 := h.ta
  have kb := k.below (Nat.le_refl b) (by omega)
  exact ⟨h.gx.but k h1, h.gy.but k h1, h.ne, d, h.be.trans kb, h.wh.below (by omega) kb, h.lt, Nat.le_trans h2 k.size, h.ta⟩
theorem RunW.row {w0 W W' : World} {b q : Nat} {s vx vy : Value} {l X Y : List Int} {v : Value} (h : RunW w0 W b q s l vx vy X Y) (k : W.grownBy W' v.ownBlock) (hv : ∀ g, v.ownBlock = some g → q ≤ g) : DiceAt W' b s l ∧ Below b w0 W' ∧ Wheel W' ∧ q ≤ W'.heap.size := by
  have h1 := h.lt
  have h2 := h.sz
  have h3 := h.ta
  have kb : Below q W W' := (Below.refl q W).grown k h.sz hv
  exact ⟨h.di.below kb h1, h.be.trans (kb.mono (by omega)), h.wh.below (by omega) kb, Nat.le_trans h2 k.size⟩

section
variable {ops : Array Oper} {rest : List Oper} {o : Oper} {a : Act} {Q : Exit → Act → World → Prop}
theorem append_runX (w : World) (hgd : o.guard = none) (s x : Operand) (ho : o.op = .call { callee := .builtin .append, args := #[s, x], argTypes := #[22, 22] })
    (w0 : World) (b q : Nat) (sd : Value) (l : List Int) (vx vy : Value) (X Y : List Int) (z : Int) (hs : a.eval s = vx) (hown : RunW w0 w b q sd l vx vy X Y) (ad : Nat) (hx : a.eval x = .slice (some ⟨ad, 0, none⟩) 1 1) (hcell : w.cell? ⟨ad, 0, none⟩ = some (.int .i64 z)) (hlen : X.length ≤ 1000000)
    (h : ∀ v' w', RunW w0 w' b q sd l v' vy (X ++ [z]) Y → wpList Tryd.prog ops Q rest (a.put o.dst v') w') : wpList Tryd.prog ops Q (o :: rest) a w := by
  have hT : TwoG w q w vx vy X Y := ⟨hown.gx, hown.gy, hown.ne, Below.refl _ _, hown.sz⟩
  obtain ⟨v', w', hr, h2, h3, h4⟩ := hT.appX hlen ad z hcell o.type
  refine wpList_plain hgd fun K hK => ?_
  unfold Oper.wp execOp
  simp only [ho, resolve, invoke, builtin, Sem.run_bind, Sem.run_pure, Result.andThen_ok, List.map_toArray, List.map_cons, List.map_nil, hs, hx, hr]
  obtain ⟨r1, r2, r3, r4⟩ := hown.row h3 fun g hg => (World.ownsRow.lt hown.gx g hg).1
  exact hK _ _ (h v' w' ⟨h2.gx, h2.gy, h2.ne, r1, r2, r3, hown.lt, r4, hown.ta⟩)
theorem append_runY (w : World) (hgd : o.guard = none) (s x : Operand) (ho : o.op = .call { callee := .builtin .append, args := #[s, x], argTypes := #[22, 22] })
    (w0 : World) (b q : Nat) (sd : Value) (l : List Int) (vx vy : Value) (X Y : List Int) (z : Int) (hs : a.eval s = vy) (hown : RunW w0 w b q sd l vx vy X Y) (ad : Nat) (hx : a.eval x = .slice (some ⟨ad, 0, none⟩) 1 1) (hcell : w.cell? ⟨ad, 0, none⟩ = some (.int .i64 z)) (hlen : Y.length ≤ 1000000)
    (h : ∀ v' w', RunW w0 w' b q sd l vx v' X (Y ++ [z]) → wpList Tryd.prog ops Q rest (a.put o.dst v') w') : wpList Tryd.prog ops Q (o :: rest) a w := by
  have hT : TwoG w q w vx vy X Y := ⟨hown.gx, hown.gy, hown.ne, Below.refl _ _, hown.sz⟩
  obtain ⟨v', w', hr, h2, h3, h4⟩ := hT.appY hlen ad z hcell o.type
  refine wpList_plain hgd fun K hK => ?_
  unfold Oper.wp execOp
  simp only [ho, resolve, invoke, builtin, Sem.run_bind, Sem.run_pure, Result.andThen_ok, List.map_toArray, List.map_cons, List.map_nil, hs, hx, hr]
  obtain ⟨r1, r2, r3, r4⟩ := hown.row h3 fun g hg => (World.ownsRow.lt hown.gy g hg).1
  exact hK _ _ (h v' w' ⟨h2.gx, h2.gy, h2.ne, r1, r2, r3, hown.lt, r4, hown.ta⟩)
end

theorem pol_cells {w : World} {gq c : Nat} (h : Ints w (.slice (some ⟨gq, 0, none⟩) 2 2) (pol c)) : w.cell? ⟨gq, 0, none⟩ = some (.int .i64 ((c : Int) / 5)) ∧ w.cell? ⟨gq, 1, none⟩ = some (.int .i64 ((c : Int) % 5)) := by
  obtain ⟨a, cc, hv, _, h3⟩ := h
  obtain ⟨b, off, rfl, h5⟩ := h3 (by simp [pol])
  simp only [Value.slice.injEq, Option.some.injEq, Addr.mk.injEq, and_true] at hv
  obtain ⟨⟨rfl, rfl⟩, _⟩ := hv
  exact ⟨h5 0 (by simp [pol]), h5 1 (by simp [pol])⟩
/-- A growing list of polynomials, of which the first one can be read. -/
def FstL (w : World) (lo : Nat) (v : Value) (F : List Nat) : Prop := ∃ Z : List Value, w.ownsRow lo 22 1 v F.length Z ∧
  ∀ c, F.head? = some c → ∃ gq, Z[0]? = some (.slice (some ⟨gq, 0, none⟩) 2 2) ∧ v.ownBlock ≠ some gq ∧ Ints w (.slice (some ⟨gq, 0, none⟩) 2 2) (pol c)
theorem fstL_nil (w : World) (lo : Nat) : FstL w lo (.slice none 0 0) [] := ⟨[], World.ownsRow_nil _ _ _ _, fun c hc => by simp at hc⟩
theorem FstL.below {w w' : World} {lo : Nat} {v : Value} {F : List Nat} (h : FstL w lo v F) (b : Below w.heap.size w w') : FstL w' lo v F := by
  obtain ⟨Z, z1, z2⟩ := h
  have hgr : w.grownBy w' none := ⟨b.os, b.tape, b.output, b.size, fun k hk _ => b.block k hk⟩
  refine ⟨Z, World.ownsRow.kept z1 hgr (by cases e : v.ownBlock <;> simp), fun c hc => ?_⟩
  obtain ⟨gq, e1, e2, e3⟩ := z2 c hc
  exact ⟨gq, e1, e2, e3.below (Nat.le_refl _) b⟩
theorem FstL.alloc {w : World} {lo : Nat} {v : Value} {F : List Nat} (h : FstL w lo v F) (o : Obj) : FstL (w.alloc o) lo v F := h.below ((Below.refl _ _).alloc (Nat.le_refl _) o)
theorem FstL.block {w : World} {lo : Nat} {v : Value} {F : List Nat} (h : FstL w lo v F) : ∀ k, v.ownBlock = some k → k < w.heap.size := by
  obtain ⟨Z, z1, z2⟩ := h
  exact fun k hk => (World.ownsRow.lt z1 k hk).2
theorem FstL.shape {w : World} {lo : Nat} {v : Value} {F : List Nat} (h : FstL w lo v F) : ∃ a c, v = .slice a F.length c := by
  obtain ⟨Z, z1, z2⟩ := h
  obtain ⟨_, ⟨rfl, h0⟩ | ⟨g, cap, cur, rfl, _⟩⟩ := z1
  · exact ⟨none, 0, by rw [h0]⟩
  · exact ⟨_, cap, rfl⟩
theorem FstL.first {w : World} {lo : Nat} {v : Value} {c : Nat} (h : FstL w lo v [c]) : ∃ g cap gq, v = .slice (some ⟨g, 0, none⟩) 1 cap ∧ w.cell? ⟨g, 0, none⟩ = some (.slice (some ⟨gq, 0, none⟩) 2 2) ∧ w.cell? ⟨gq, 0, none⟩ = some (.int .i64 ((c : Int) / 5)) ∧ w.cell? ⟨gq, 1, none⟩ = some (.int .i64 ((c : Int) % 5)) := by
  obtain ⟨Z, z1, z2⟩ := h
  obtain ⟨gq, e1, e2, e3⟩ := z2 c rfl
  obtain ⟨_, ⟨rfl, h0⟩ | ⟨g, cap, cur, rfl, hb, hg, h1, h2, h3, h4⟩⟩ := z1
  · simp at h0
  · refine ⟨g, cap, gq, rfl, ?_, ?_, ?_⟩
    · rw [cell_of_row w g 0 cur _ _ hg]
      rw [← h4, List.getElem?_take_of_lt (by simp)] at e1
      simpa using e1
    · exact (pol_cells e3).1
    · exact (pol_cells e3).2
section
variable {ops : Array Oper} {rest : List Oper} {o : Oper} {a : Act} {Q : Exit → Act → World → Prop}
theorem append_fst (w : World) (hgd : o.guard = none) (s x : Operand) (ho : o.op = .call { callee := .builtin .append, args := #[s, x], argTypes := #[45, 45] })
    (lo : Nat) (v : Value) (F : List Nat) (c : Nat) (hs : a.eval s = v) (hown : FstL w lo v F) (ad gq : Nat) (hx : a.eval x = .slice (some ⟨ad, 0, none⟩) 1 1) (hcell : w.cell? ⟨ad, 0, none⟩ = some (.slice (some ⟨gq, 0, none⟩) 2 2)) (hI : Ints w (.slice (some ⟨gq, 0, none⟩) 2 2) (pol c))
    (hgq : gq < w.heap.size) (hnew : ∀ k, v.ownBlock = some k → k < gq) (hlen : F.length ≤ 1000000) (hlo : lo ≤ w.heap.size)
    (h : ∀ v' w', FstL w' lo v' (F ++ [c]) → Below lo w w' → wpList Tryd.prog ops Q rest (a.put o.dst v') w') : wpList Tryd.prog ops Q (o :: rest) a w := by
  obtain ⟨i0, hi, hz0, hz1, hz2⟩ := info_parts infoInts
  obtain ⟨Z, z1, z2⟩ := hown
  refine wpList_append_own_at (w := w) hgd s x 45 ho lo 22 i0 (.slice none 0 0) 1 24 Tryd.underlying45 hi hz0 hz1 hz2 rfl (by decide) v F.length Z hs z1 ⟨ad, 0, none⟩ 1 1 [.slice (some ⟨gq, 0, none⟩) 2 2] hx rfl ?_ ?_ ?_ ?_ hlo ?_
  · intro j u hj
    match j, hj with
    | 0, hj =>
      simp at hj; subst hj
      have e : (⟨ad, 0, none⟩ : Addr).add 0 = ⟨ad, 0, none⟩ := by unfold Addr.add; simp
      rw [e]; exact hcell
  · intro u hu; simp at hu; subst hu; rfl
  · unfold maxLen; omega
  · omega
  · intro v' w' h1 h2 _ h5
    have hne : v.ownBlock ≠ some gq := fun e => by have := hnew gq e; omega
    have hne' : ∀ g, v.ownBlock ≠ some g → g < w.heap.size → v'.ownBlock ≠ some g := fun g e1 e2 e3 => by
      rcases h5 with h5 | h5
      · rw [h5] at e3; exact e1 e3
      · rw [h5] at e3; simp at e3; omega
    refine h v' w' ⟨Z ++ [.slice (some ⟨gq, 0, none⟩) 2 2], by rw [List.length_append]; exact h1, fun d hd => ?_⟩ ((Below.refl lo w).grown h2 hlo fun g hg => (World.ownsRow.lt z1 g hg).1)
    cases F with
    | nil =>
      simp at hd; subst hd
      have hZ : Z = [] := List.length_eq_zero_iff.1 (by have := z1.1; simpa using this)
      subst hZ
      exact ⟨gq, by simp, hne' gq hne hgq, hI.grown h2 (fun g hg e => by simp [Value.ownBlock] at hg; subst hg; exact hne e)⟩
    | cons c0 F =>
      simp at hd; subst hd
      obtain ⟨gz, e1, e2, e3⟩ := z2 c0 rfl
      have hlt : gz < w.heap.size := cell_lt (pol_cells e3).1
      refine ⟨gz, ?_, hne' gz e2 hlt, e3.grown h2 (fun g hg e => by simp [Value.ownBlock] at hg; subst hg; exact e2 e)⟩
      have : 0 < Z.length := by have := z1.1; simp at this; omega
      rw [List.getElem?_append_left this]; exact e1
end
end Go.Proofs.YtkcbbdkijlipfaaDoor
