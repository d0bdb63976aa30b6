
/- The document's elimination: what it keeps in memory. -/
import Derived.Test.YtpgbjnenllfmlaaGreatDoorQMth
import Derived.Test.YtpgbjnenllfmlaaGreatDoorHTur
import Derived.Deep.RegionLaw
import Derived.Deep.RegionHeld3
namespace Go.Proofs.YtpgbjnenllfmlaaGreatDoor
open Go.RowKit Go.Sort
open Num
set_option linter.unusedVariables false

/-- A list of n rows of w numbers each; row i lies in block b i. -/
structure MatW (W : World) (lo hi q n w : Nat) (b cap : Nat → Nat) (m : Nat → Nat → Int) : Prop where
  row : ∀ i, i < n → W.cell? ⟨q, i, none⟩ = some (.slice (some ⟨b i, 0, none⟩) w (cap i)) ∧ W.frozen? ⟨q, i, none⟩ = false
  val : ∀ i, i < n → ∀ k, k < w → W.cell? ⟨b i, k, none⟩ = some (.int .i64 (m i k)) ∧ W.frozen? ⟨b i, k, none⟩ = false
  inj : ∀ i j, i < n → j < n → b i = b j → i = j
  ne : ∀ i, i < n → b i ≠ q
  loq : lo ≤ q ∧ q < hi
  lob : ∀ i, i < n → lo ≤ b i ∧ b i < hi
  sz : hi ≤ W.heap.size
theorem cell_of_blk {W W' : World} {b k : Nat} (h : W'.heap[b]? = W.heap[b]?) : W'.cell? ⟨b, k, none⟩ = W.cell? ⟨b, k, none⟩ := World.cell?_of_block h
theorem frozen_of_blk {W W' : World} {b k : Nat} (h : W'.heap[b]? = W.heap[b]?) : W'.frozen? ⟨b, k, none⟩ = W.frozen? ⟨b, k, none⟩ := by simp [World.frozen?, h]
section
variable {W W' : World} {lo hi q n w : Nat} {b cap : Nat → Nat} {m m' : Nat → Nat → Int}
theorem MatW.below (h : MatW W lo hi q n w b cap m) (k : Below hi W W') : MatW W' lo hi q n w b cap m :=
  ⟨fun i hi => by rw [cell_of_blk (k.block q h.loq.2), frozen_of_blk (k.block q h.loq.2)]; exact h.row i hi,
   fun i hi j hj => by rw [cell_of_blk (k.block _ (h.lob i hi).2), frozen_of_blk (k.block _ (h.lob i hi).2)]; exact h.val i hi j hj, h.inj, h.ne, h.loq, h.lob, Nat.le_trans h.sz k.size⟩
theorem MatW.congr (h : MatW W lo hi q n w b cap m) (e : ∀ i, i < n → ∀ k, k < w → m i k = m' i k) : MatW W lo hi q n w b cap m' :=
  ⟨h.row, fun i hi k hk => by rw [← e i hi k hk]; exact h.val i hi k hk, h.inj, h.ne, h.loq, h.lob, h.sz⟩
/-- One number is stored. -/
theorem MatW.set (h : MatW W lo hi q n w b cap m) {i k : Nat} (hi' : i < n) (hk : k < w) (x : Int) : MatW (W.setCell ⟨b i, k, none⟩ (.int .i64 x)) lo hi q n w b cap (fun i' k' => if i' = i ∧ k' = k then x else m i' k') := by
  refine ⟨fun j hj => ?_, fun j hj l hl => ?_, h.inj, h.ne, h.loq, h.lob, by simpa using h.sz⟩
  · rw [World.frozen?_setCell, World.cell?_setCell_other _ _ _ _ (by intro e; simp only [Addr.mk.injEq] at e; exact h.ne i hi' e.1)]
    exact h.row j hj
  · rw [World.frozen?_setCell]
    refine ⟨?_, (h.val j hj l hl).2⟩
    by_cases e : j = i ∧ l = k
    · obtain ⟨rfl, rfl⟩ := e
      rw [if_pos ⟨rfl, rfl⟩, World.cell?_setCell_same _ _ _ (h.val j hj l hl).1]
    · rw [if_neg e, World.cell?_setCell_other _ _ _ _ (by
        intro e2
        simp only [Addr.mk.injEq] at e2
        exact e ⟨h.inj j i hj hi' e2.1.symm, e2.2.1.symm⟩)]
      exact (h.val j hj l hl).1
theorem set_belowB {lo' : Nat} {x : Value} (j k : Nat) (h : lo' ≤ j) : Below lo' W (W.setCell ⟨j, k, none⟩ x) := set1_below W k x h
def swpN (f : Nat → Nat) (r a i : Nat) : Nat := if i = r then f a else if i = a then f r else f i
/-- Two rows change places. -/
theorem MatW.swap (h : MatW W lo hi q n w b cap m) {r a : Nat} (hr : r < n) (ha : a < n) : MatW ((W.setCell ⟨q, r, none⟩ (.slice (some ⟨b a, 0, none⟩) w (cap a))).setCell ⟨q, a, none⟩ (.slice (some ⟨b r, 0, none⟩) w (cap r))) lo hi q n w (swpN b r a) (swpN cap r a) (swpM m r a) := by
  have hb : ∀ i, i < n → ((W.setCell ⟨q, r, none⟩ (.slice (some ⟨b a, 0, none⟩) w (cap a))).setCell ⟨q, a, none⟩ (.slice (some ⟨b r, 0, none⟩) w (cap r))).heap[b i]? = W.heap[b i]? := fun i hi => by
    rw [Below.heap_setCell _ ⟨q, a, none⟩ _ (b i) (h.ne i hi), Below.heap_setCell W ⟨q, r, none⟩ _ (b i) (h.ne i hi)]
  obtain ⟨y, hy⟩ : ∃ y, (W.setCell ⟨q, r, none⟩ (.slice (some ⟨b a, 0, none⟩) w (cap a))).cell? ⟨q, a, none⟩ = some y := by
    by_cases e : a = r
    · subst e; exact ⟨_, World.cell?_setCell_same _ _ _ (h.row a ha).1⟩
    · exact ⟨_, by rw [World.cell?_setCell_other _ _ _ _ (by intro e2; simp only [Addr.mk.injEq] at e2; omega)]; exact (h.row a ha).1⟩
  have hB : ∀ i, i < n → (if i = r then b a else if i = a then b r else b i) = swpN b r a i := fun _ _ => rfl
  refine ⟨fun i hi => ?_, fun i hi k hk => ?_, fun i j hi hj e => ?_, fun i hi => ?_, h.loq, fun i hi => ?_, by simpa using h.sz⟩
  · rw [World.frozen?_setCell, World.frozen?_setCell]
    refine ⟨?_, (h.row i hi).2⟩
    unfold swpN
    by_cases e1 : i = a
    · subst e1
      rw [World.cell?_setCell_same _ _ _ hy]
      by_cases e2 : i = r
      · subst e2; simp
      · simp [e2]
    · rw [World.cell?_setCell_other _ _ _ _ (by intro e2; simp only [Addr.mk.injEq] at e2; omega)]
      by_cases e2 : i = r
      · subst e2
        rw [World.cell?_setCell_same _ _ _ (h.row i hi).1]; simp
      · rw [World.cell?_setCell_other _ _ _ _ (by intro e3; simp only [Addr.mk.injEq] at e3; omega)]
        simp only [if_neg e1, if_neg e2]
        exact (h.row i hi).1
  · have hs : ∃ j, j < n ∧ swpN b r a i = b j ∧ swpM m r a i = m j := by
      unfold swpN swpM
      by_cases e : i = r
      · exact ⟨a, ha, by rw [if_pos e], by rw [if_pos e]⟩
      · by_cases e2 : i = a
        · exact ⟨r, hr, by rw [if_neg e, if_pos e2], by rw [if_neg e, if_pos e2]⟩
        · exact ⟨i, hi, by rw [if_neg e, if_neg e2], by rw [if_neg e, if_neg e2]⟩
    obtain ⟨j, hj, e1, e2⟩ := hs
    rw [e1, e2, cell_of_blk (hb j hj), frozen_of_blk (hb j hj)]
    exact h.val j hj k hk
  · unfold swpN at e
    split at e <;> split at e <;> first
      | (have := h.inj _ _ ha ha e; omega)
      | (split at e <;> first
        | (have := h.inj _ _ ha hr e; omega)
        | (have := h.inj _ _ ha hj e; omega)
        | (have := h.inj _ _ hr ha e; omega)
        | (have := h.inj _ _ hi ha e; omega)
        | (have := h.inj _ _ hr hr e; omega)
        | (have := h.inj _ _ hr hj e; omega)
        | (have := h.inj _ _ hi hr e; omega)
        | (have := h.inj _ _ hi hj e; omega)
        | (split at e <;> first
          | (have := h.inj _ _ hr hr e; omega)
          | (have := h.inj _ _ hr hj e; omega)
          | (have := h.inj _ _ hi hr e; omega)
          | (have := h.inj _ _ hi hj e; omega)))
  · unfold swpN; split
    · exact h.ne a ha
    · split
      · exact h.ne r hr
      · exact h.ne i hi
  · unfold swpN; split
    · exact h.lob a ha
    · split
      · exact h.lob r hr
      · exact h.lob i hi
end
/-- What the elimination keeps: the rows, the list of the leading columns, what was there before. -/
structure SlW (w0 W : World) (lo hi q n w : Nat) (b cap : Nat → Nat) (m : Nat → Nat → Int) (v : Value) (L : List Nat) : Prop where
  mat : MatW W lo hi q n w b cap m
  ld : Gath W hi v (L.map (fun c : Nat => (c : Int)))
  be : Below lo w0 W
section
variable {w0 W W' : World} {lo hi q n w : Nat} {b cap : Nat → Nat} {m m' : Nat → Nat → Int} {v : Value} {L : List Nat}
theorem SlW.below (h : SlW w0 W lo hi q n w b cap m v L) (k : Below W.heap.size W W') : SlW w0 W' lo hi q n w b cap m v L :=
  ⟨h.mat.below (k.mono h.mat.sz), h.ld.kept k (Nat.le_refl _), h.be.trans (k.mono (by have := h.mat.loq; have := h.mat.sz; omega))⟩
theorem SlW.congr (h : SlW w0 W lo hi q n w b cap m v L) (e : ∀ i, i < n → ∀ k, k < w → m i k = m' i k) : SlW w0 W lo hi q n w b cap m' v L := ⟨h.mat.congr e, h.ld, h.be⟩
theorem SlW.set (h : SlW w0 W lo hi q n w b cap m v L) {i k : Nat} (hi' : i < n) (hk : k < w) (x : Int) : SlW w0 (W.setCell ⟨b i, k, none⟩ (.int .i64 x)) lo hi q n w b cap (fun i' k' => if i' = i ∧ k' = k then x else m i' k') v L :=
  ⟨h.mat.set hi' hk x, gath_set_other h.ld (h.mat.lob i hi').2 _ _, h.be.trans (set1_below _ _ _ (h.mat.lob i hi').1)⟩
theorem SlW.swap (h : SlW w0 W lo hi q n w b cap m v L) {r a : Nat} (hr : r < n) (ha : a < n) : SlW w0 ((W.setCell ⟨q, r, none⟩ (.slice (some ⟨b a, 0, none⟩) w (cap a))).setCell ⟨q, a, none⟩ (.slice (some ⟨b r, 0, none⟩) w (cap r))) lo hi q n w (swpN b r a) (swpN cap r a) (swpM m r a) v L :=
  ⟨h.mat.swap hr ha, gath_set_other (gath_set_other h.ld h.mat.loq.2 _ _) h.mat.loq.2 _ _, h.be.trans ((set1_below _ _ _ h.mat.loq.1).trans (set1_below _ _ _ h.mat.loq.1))⟩
end
end Go.Proofs.YtpgbjnenllfmlaaGreatDoor
