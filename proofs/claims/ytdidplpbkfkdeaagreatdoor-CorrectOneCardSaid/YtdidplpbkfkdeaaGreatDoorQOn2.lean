
/- The document's One: the rows of its equations, while they are written. -/
import Derived.Test.YtdidplpbkfkdeaaGreatDoorQSlv
import Derived.Test.YtdidplpbkfkdeaaGreatDoorHFit
import Derived.Maps.AppendAt
namespace Go.Proofs.YtdidplpbkfkdeaaGreatDoor
open Go.RowKit Go.Sort
open Num
set_option linter.unusedVariables false

theorem infoIntsR : (Tryz.prog.info? 22).map (fun i => (i.zero, i.size, i.bytes)) = some (some (.slice none 0 0), 1, 24) := by kernel_rfl
/-- A growing list of rows of wd numbers each; row j lies in block b j. -/
structure RowsG (W : World) (g : Nat) (v : Value) (wd : Nat) (RR : List (List Int)) (b cap : Nat → Nat) : Prop where
  own : W.ownsRow g 22 1 v RR.length ((List.range RR.length).map fun j => .slice (some ⟨b j, 0, none⟩) wd (cap j))
  lob : ∀ j, j < RR.length → g ≤ b j ∧ b j < W.heap.size
  ne : ∀ j, j < RR.length → v.ownBlock ≠ some (b j)
  val : ∀ j, j < RR.length → ∀ k, k < wd → W.cell? ⟨b j, k, none⟩ = some (.int .i64 ((RR.getD j []).getD k 0)) ∧ W.frozen? ⟨b j, k, none⟩ = false
  inj : ∀ i j, i < RR.length → j < RR.length → b i = b j → i = j
  sz : g ≤ W.heap.size
section
variable {W W' : World} {g wd : Nat} {v : Value} {RR : List (List Int)} {b cap : Nat → Nat}
theorem rowsG_nil (W : World) (wd : Nat) (b cap : Nat → Nat) (hg : g ≤ W.heap.size) : RowsG W g (.slice none 0 0) wd [] b cap :=
  ⟨World.ownsRow_nil _ _ _ _, fun j hj => by simp at hj, fun j hj => by simp at hj, fun j hj => by simp at hj, fun i _ hi => by simp at hi, hg⟩
theorem RowsG.below (h : RowsG W g v wd RR b cap) (k : Below W.heap.size W W') : RowsG W' g v wd RR b cap :=
  ⟨World.ownsRow.kept h.own (grownBy_of_below k (Nat.le_refl _)) (by
    cases e : v.ownBlock with
    | none => exact .inl rfl
    | some g => exact .inr (by simp)),
   fun j hj => ⟨(h.lob j hj).1, Nat.lt_of_lt_of_le (h.lob j hj).2 k.size⟩, h.ne,
   fun j hj l hl => by rw [cell_of_blk (k.block _ (h.lob j hj).2), frozen_of_blk (k.block _ (h.lob j hj).2)]; exact h.val j hj l hl, h.inj, Nat.le_trans h.sz k.size⟩
theorem RowsG.lt (h : RowsG W g v wd RR b cap) : ∀ q, v.ownBlock = some q → g ≤ q ∧ q < W.heap.size := World.ownsRow.lt h.own
theorem RowsG.shape (h : RowsG W g v wd RR b cap) : ∃ a c, v = .slice a RR.length c := by
  obtain ⟨_, ⟨rfl, h0⟩ | ⟨q, cap', cur, rfl, _⟩⟩ := h.own
  · exact ⟨none, 0, by rw [h0]⟩
  · exact ⟨_, cap', rfl⟩
theorem RowsG.mat (h : RowsG W g v wd RR b cap) (h0 : 0 < RR.length) : ∃ q cr, v = .slice (some ⟨q, 0, none⟩) RR.length cr ∧ RR.length ≤ cr ∧ cr ≤ 9223372036854775807 ∧ MatW W g W.heap.size q RR.length wd b cap (fun i k => (RR.getD i []).getD k 0) := by
  rcases id h.own.2 with ⟨hv, h1⟩ | ⟨q, cr, cur, hv, hb, hq, hr1, hr2, hr3⟩
  · omega
  · have hlt := h.lt q (by rw [hv]; rfl)
    have hne := h.ne
    have hown := h.own
    subst hv
    refine ⟨q, cr, rfl, hr1, by unfold maxLen at hr2; omega, fun i hi => ⟨?_, World.ownsRow.frozenAt hown i⟩, h.val, h.inj, fun i hi e => hne i hi (by rw [e]; rfl), hlt, h.lob, Nat.le_refl _⟩
    rw [World.ownsRow.cellAt hown i (by omega)]
    simp [hi]
end
section
variable {ops : Array Oper} {rest : List Oper} {o : Oper} {a : Act} {Q : Exit → Act → World → Prop}
set_option maxRecDepth 100000 in
/-- One more row. -/
theorem append_rows (w : World) (hgd : o.guard = none) (s x : Operand) (ho : o.op = .call { callee := .builtin .append, args := #[s, x], argTypes := #[68, 68] })
    (g : Nat) (v : Value) (wd : Nat) (RR : List (List Int)) (b cap : Nat → Nat) (bn cn : Nat) (R : List Int) (hs : a.eval s = v) (hown : RowsG w g v wd RR b cap) (ad : Nat) (hx : a.eval x = .slice (some ⟨ad, 0, none⟩) 1 1) (hcell : w.cell? ⟨ad, 0, none⟩ = some (.slice (some ⟨bn, 0, none⟩) wd cn))
    (hb1 : g ≤ bn ∧ bn < w.heap.size) (hb2 : v.ownBlock ≠ some bn) (hb3 : ∀ j, j < RR.length → b j ≠ bn) (hv : ∀ k, k < wd → w.cell? ⟨bn, k, none⟩ = some (.int .i64 (R.getD k 0)) ∧ w.frozen? ⟨bn, k, none⟩ = false) (hlen : RR.length ≤ 1000)
    (h : ∀ v' w', RowsG w' g v' wd (RR ++ [R]) (fun j => if j = RR.length then bn else b j) (fun j => if j = RR.length then cn else cap j) → Below g w w' → wpList Tryz.prog ops Q rest (a.put o.dst v') w') : wpList Tryz.prog ops Q (o :: rest) a w := by
  obtain ⟨i0, hi, hz0, hz1, hz2⟩ := info_parts infoIntsR
  refine wpList_append_own_at (w := w) hgd s x 68 ho g 22 i0 (.slice none 0 0) 1 24 Tryz.underlying68 hi hz0 hz1 hz2 rfl (by decide) v RR.length ((List.range RR.length).map fun j => .slice (some ⟨b j, 0, none⟩) wd (cap j)) hs hown.own ⟨ad, 0, none⟩ 1 1 [.slice (some ⟨bn, 0, none⟩) wd cn] hx rfl ?_ ?_ ?_ ?_ hown.sz ?_
  · intro j u hj
    match j, hj with
    | 0, hj =>
      simp at hj; subst hj
      have e : (⟨ad, 0, none⟩ : Addr).add 0 = ⟨ad, 0, none⟩ := by unfold Addr.add; simp
      rw [e]; exact hcell
  · intro u hu; simp at hu; subst hu; rfl
  · unfold maxLen; omega
  · omega
  · intro v' w' h1 h2 _ h5
    have hblk : ∀ k, k < w.heap.size → v.ownBlock ≠ some k → w'.heap[k]? = w.heap[k]? := fun k hk hne => h2.block k hk (fun e => hne e.symm)
    have hne' : ∀ q, v.ownBlock ≠ some q → q < w.heap.size → v'.ownBlock ≠ some q := fun q e1 e2 e3 => by
      rcases h5 with h5 | h5
      · rw [h5] at e3; exact e1 e3
      · rw [h5] at e3; simp at e3; omega
    have hl : (RR ++ [R]).length = RR.length + 1 := by simp
    have hG : ∀ j, j < RR.length → (RR ++ [R]).getD j [] = RR.getD j [] := fun j hj => by simp [List.getD, List.getElem?_append, hj]
    have hGe : (RR ++ [R]).getD RR.length [] = R := by simp [List.getD]
    refine h v' w' ⟨?_, fun j hj => ?_, fun j hj => ?_, fun j hj k hk => ?_, fun i j hi hj e => ?_, Nat.le_trans hown.sz h2.size⟩ ((Below.refl g w).grown h2 hown.sz fun q hq => (World.ownsRow.lt hown.own q hq).1)
    · rw [hl]
      have e : ((List.range (RR.length + 1)).map fun j => Value.slice (some ⟨if j = RR.length then bn else b j, 0, none⟩) wd (if j = RR.length then cn else cap j)) = ((List.range RR.length).map fun j => Value.slice (some ⟨b j, 0, none⟩) wd (cap j)) ++ [.slice (some ⟨bn, 0, none⟩) wd cn] := by
        rw [List.range_succ, List.map_append]
        congr 1
        · refine List.map_congr_left fun j hj => ?_
          have := List.mem_range.1 hj
          rw [if_neg (by omega), if_neg (by omega)]
        · simp
      rw [e]
      exact h1
    · rw [hl] at hj
      by_cases e : j = RR.length
      · simp only [if_pos e]; exact ⟨hb1.1, Nat.lt_of_lt_of_le hb1.2 h2.size⟩
      · simp only [if_neg e]; exact ⟨(hown.lob j (by omega)).1, Nat.lt_of_lt_of_le (hown.lob j (by omega)).2 h2.size⟩
    · rw [hl] at hj
      by_cases e : j = RR.length
      · simp only [if_pos e]; exact hne' bn hb2 hb1.2
      · simp only [if_neg e]; exact hne' _ (hown.ne j (by omega)) (hown.lob j (by omega)).2
    · rw [hl] at hj
      by_cases e : j = RR.length
      · simp only [if_pos e]
        rw [e, hGe, cell_of_blk (hblk bn hb1.2 hb2), frozen_of_blk (hblk bn hb1.2 hb2)]
        exact hv k hk
      · simp only [if_neg e]
        rw [hG j (by omega), cell_of_blk (hblk _ (hown.lob j (by omega)).2 (hown.ne j (by omega))), frozen_of_blk (hblk _ (hown.lob j (by omega)).2 (hown.ne j (by omega)))]
        exact hown.val j (by omega) k hk
    · rw [hl] at hi hj
      by_cases e1 : i = RR.length <;> by_cases e2 : j = RR.length
      · omega
      · simp only [if_pos e1, if_neg e2] at e; exact absurd e.symm (hb3 j (by omega))
      · simp only [if_neg e1, if_pos e2] at e; exact absurd e (hb3 i (by omega))
      · simp only [if_neg e1, if_neg e2] at e; exact hown.inj i j (by omega) (by omega) e
end
end Go.Proofs.YtdidplpbkfkdeaaGreatDoor
