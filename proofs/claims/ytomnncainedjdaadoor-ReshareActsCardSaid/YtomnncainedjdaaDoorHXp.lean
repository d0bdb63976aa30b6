
/- Shares that explain: the program's Explain. -/
import Derived.Test.YtomnncainedjdaaDoorHXe
namespace Go.Proofs.YtomnncainedjdaaDoor
open Go.RowKit Go.Sort
open Num
set_option linter.unusedVariables false

noncomputable def expR (p k n : Int) (L : List Shr) (S : List Int) : List Shr := if expE p k n L S = 0 then expL p k.toNat n.toNat S.length L S else []
theorem expE_in {p k n : Int} {L : List Shr} {S : List Int} (h : expE p k n L S = 0) : ∃ K N : Nat, k = (K : Int) ∧ n = (N : Int) ∧ planB p k n = true ∧ S.length ≤ 2048 ∧ 1 ≤ K ∧ p ≤ 1073741824 ∧ ExpIn p N K S.length L S := by
  unfold expE at h
  by_cases h1 : planB p k n = true ∧ goodB p n L = true ∧ (0 < L.length → (L.getD 0 (0, [])).2.length = S.length)
  · rw [if_pos h1] at h
    by_cases h2 : elB p S = true
    · rw [if_pos h2] at h
      by_cases h3 : k ≤ (L.length : Int) ∨ 2048 < S.length
      · rw [if_pos h3] at h; cases h
      · obtain ⟨q1, q2, q3, q4, q5, q6⟩ := planB_parts h1.1
        obtain ⟨K, rfl⟩ := Int.eq_ofNat_of_zero_le (show 0 ≤ k by omega)
        obtain ⟨N, rfl⟩ := Int.eq_ofNat_of_zero_le (show 0 ≤ n by omega)
        refine ⟨K, N, rfl, rfl, h1.1, by omega, by omega, q2, q1, ?_, rfl, els_of_elB h2, by omega, by omega, by omega, q6⟩
        by_cases h0 : 0 < L.length
        · exact goodB_gd rfl h1.2.1 (h1.2.2 h0)
        · obtain rfl : L = [] := List.eq_nil_of_length_eq_zero (by omega)
          exact ⟨fun s hs => (by cases hs), fun s hs => (by cases hs), fun s hs => (by cases hs), List.nodup_nil⟩
    · rw [if_neg h2] at h; cases h
  · rw [if_neg h1] at h; cases h
/-- The shares as they are made: their row, and the values of the first k. -/
structure ExpW (w : World) (g q N k : Nat) (f : Nat → List Int) : Prop where
  row : ∃ Z : Nat → Value, RowS w q N (fun j => if j < k then (((j + 1 : Nat) : Int), Z j) else (0, .slice none 0 0)) ∧ ∀ j, j < k → Ints w (Z j) (f j) ∧ ∀ b, (Z j).ownBlock = some b → q < b
  qlo : g ≤ q
  lt : q < w.heap.size
theorem expW_start (w : World) (g N : Nat) (f : Nat → List Int) (t : TypeId) (hg : g ≤ w.heap.size) : ExpW (w.alloc (.cells (madeCells #[.int .i64 0, .slice none 0 0] (N * 2)) t)) g w.heap.size N 0 f := by
  have h := made_start w g N 0 (fun _ => 0) (fun _ _ => 0) t hg
  exact ⟨⟨fun _ => .slice none 0 0, rowS_congr h.row fun i hi => by simp, fun j hj => by omega⟩, h.qlo, h.lt⟩
theorem ExpW.grow {w w' : World} {g q N k : Nat} {f : Nat → List Int} (h : ExpW w g q N k f) (b : Below w.heap.size w w') : ExpW w' g q N k f := by
  obtain ⟨Z, h1, h2⟩ := h.row
  exact ⟨⟨Z, h1.of_block (b.block q h.lt), fun j hj => ⟨(h2 j hj).1.below (Nat.le_refl _) b, (h2 j hj).2⟩⟩, h.qlo, Nat.lt_of_lt_of_le h.lt b.size⟩
theorem Ints.setRow2 {w : World} {v : Value} {l : List Int} (h : Ints w v l) {q : Nat} (hq : ∀ b, v.ownBlock = some b → q < b) (o : Nat) (x y : Value) : Ints (w.setCells q o [x, y]) v l :=
  h.but ((But.set w ⟨q, o, none⟩ x).trans (But.set _ ⟨q, o + 1, none⟩ y)) (fun g hg => by have := hq g hg; show g ≠ q; omega)
theorem ExpW.push {w : World} {g q N k : Nat} {f : Nat → List Int} (h : ExpW w g q N k f) (hk : k < N) {v : Value} (hv : Ints w v (f k)) (hb : ∀ b, v.ownBlock = some b → q < b) : ExpW (w.setCells q (k * 2) [.int .i64 ((k + 1 : Nat) : Int), v]) g q N (k + 1) f := by
  obtain ⟨Z, h1, h2⟩ := h.row
  refine ⟨⟨fun j => if j = k then v else Z j, ?_, fun j hj => ?_⟩, h.qlo, by rw [setCells2_size]; exact h.lt⟩
  · refine rowS_congr (h1.store hk (((k + 1 : Nat) : Int), v)) fun i hi => ?_
    by_cases e : i = k
    · subst e; simp
    · by_cases e2 : i < k
      · simp [e, e2, show i < k + 1 by omega]
      · simp [e, e2, show ¬ i < k + 1 by omega]
  · by_cases e : j = k
    · subst e
      simp only [if_true]
      exact ⟨hv.setRow2 hb _ _ _, hb⟩
    · simp only [if_neg e]
      have h3 := h2 j (by omega)
      exact ⟨h3.1.setRow2 h3.2 _ _ _, h3.2⟩
theorem ExpW.shares {w : World} {g q N : Nat} {f : Nat → List Int} (h : ExpW w g q N N f) {L : List Shr} (hl : L.length = N) (hN : N ≤ 1000) (he : ∀ j, j < N → L.getD j (0, []) = (((j + 1 : Nat) : Int), f j)) : SharesN w g (.slice (some ⟨q, 0, none⟩) N N) L := by
  subst hl
  obtain ⟨Z, h1, h2⟩ := h.row
  refine ⟨_, _, rfl, hN, Nat.le_refl _, by omega, fun _ => ⟨q, 0, rfl, h.qlo, fun i hi => ?_⟩⟩
  obtain ⟨c0, c1, _, _⟩ := h1 i hi
  simp only [if_pos hi] at c0 c1
  rw [he i hi, Nat.zero_add]
  obtain ⟨q1, q2⟩ := h2 i hi
  exact ⟨_, c0, c1, q1, fun b hb => by have := q2 b hb; have := h.qlo; omega⟩

end Go.Proofs.YtomnncainedjdaaDoor
