
/- The program's package refresh: Apply. -/
import Derived.Test.YtomnncainedjdaaDoorJPr2
import Derived.Laws.EntriesVeiled
/-! The program's package refresh: Apply. -/
namespace Go.Proofs.YtomnncainedjdaaDoor
open Go.RowKit Go.Sort
open Num
set_option linter.unusedVariables false

theorem cell_pair {w : World} {x : Value} {t : TypeId} {k : Nat} (hk : w.heap.size = k) (o : Obj) : ((w.alloc o).alloc (.cells #[x] t)).cell? ⟨k + 1, 0, none⟩ = some x := cell_alloc_new _ x t _ (by simp [hk])
/-- The share of a holder has one place. -/
theorem idx_only {p n : Int} {Z : List Shr} {h : Int} (hg : goodB p n Z = true) (hh : hasB Z h = true) : ∃ i : Nat, i < Z.length ∧ (Z.getD i (0, [])).1 = h ∧ (Z.getD i (0, [])).2 = pick Z h ∧ ∀ r, IdxR Z h r → r = (i : Int) := by
  obtain ⟨z, hz, he⟩ := List.any_eq_true.1 hh
  have he : z.1 = h := by simpa using he
  obtain ⟨i, hi, rfl⟩ := List.mem_iff_getElem.1 hz
  have hd := goodB_parts hg
  have hone : (Z.map (·.1)).Nodup := by
    rw [List.nodup_iff_pairwise_ne, List.pairwise_iff_getElem]
    intro a b ha hb hab e
    rw [List.length_map] at ha hb
    rw [List.getElem_map, List.getElem_map] at e
    have := (hd b hb).2.2.2 a hab
    rw [getS_at ha, getS_at hb] at this
    exact this e
  refine ⟨i, hi, by rw [getS_at hi]; exact he, by rw [getS_at hi, ← he]; exact (pick_at hone hz).symm, fun r hr => ?_⟩
  rcases hr with ⟨j, hj, rfl, e⟩ | ⟨_, e⟩
  · rw [getS_at hj] at e
    rw [List.nodup_iff_pairwise_ne, List.pairwise_iff_getElem] at hone
    rcases Nat.lt_trichotomy i j with h1 | h1 | h1
    · exact absurd (by rw [List.getElem_map, List.getElem_map]; exact he.trans e.symm) (hone i j (by simpa using hi) (by simpa using hj) h1)
    · rw [h1]
    · exact absurd (by rw [List.getElem_map, List.getElem_map]; exact e.trans he.symm) (hone j i (by simpa using hj) (by simpa using hi) h1)
  · rw [hh] at e; cases e
theorem apL_get (p : Int) {L Z : List Shr} {j : Nat} (hj : j < L.length) : (apL p L Z).getD j (0, []) = ((L.getD j (0, [])).1, linF p (L.getD j (0, [])).2 (pick Z (L.getD j (0, [])).1) 1) := by
  rw [getS_at (by rw [apL_len]; exact hj), getS_at hj]
  simp [apL]
/-- A region whose orders all end alike, but for one value and a place. -/
theorem region_oneVN {P : Program} {id : Nat} {ops : Array Oper} {d : Bool} {Q : Exit → Act → World → Prop} {a : Act} {w : World} (R : Value → Nat → World → Prop) (A : Value → Nat → Act) (hr : (Code.region id ops d).wp P (fun e a' W => e = .normal ∧ ∃ v n, a' = A v n ∧ R v n W) a w)
    (h : ∀ v n W, R v n W → Q .normal (A v n) W) : (Code.region id ops d).wp P Q a w :=
  Code.wp_mono (fun _ _ _ ⟨h1, v, n, h2, h3⟩ => by subst h1; subst h2; exact h v n _ h3) hr
end Go.Proofs.YtomnncainedjdaaDoor
/-! The program's package refresh: Checks and Zero. -/
namespace Go.Proofs.YtomnncainedjdaaDoor
open Go.RowKit Go.Sort
open Num
set_option linter.unusedVariables false

/-- What Zero answers, for counts up to the most. -/
noncomputable def zeroE (p k n c : Int) (r : List Int) : Int := if planB p k n = true then (if c < 0 then 2 else if 2048 < c then 3 else dealE p k n (List.replicate c.toNat 0) r) else 1
noncomputable def zeroR (p k n c : Int) (r : List Int) : List Shr := if zeroE p k n c r = 0 then dealF p (k - 1).toNat n.toNat (List.replicate c.toNat 0) r else []
theorem slc_made (w : World) (C : Nat) (hC : C ≤ 100000) (q : Nat) (hq : w.heap.size = q) : Slc (w.alloc (.cells (madeCells #[.int .i64 0] C) 3)) (.slice (some ⟨q, 0, none⟩) C C) (List.replicate C 0) := by
  subst hq
  have h := row_gath (base := w.heap.size) (f := fun _ => 0) (World.rowIs_made w (.int .i64 0) C 3) (Nat.le_refl _) (by unfold maxLen; omega)
  rw [show (List.range C).map (fun _ => (0 : Int)) = List.replicate C 0 from List.ext_getElem (by rw [List.length_map, List.length_range, List.length_replicate]) (fun i h1 h2 => by rw [List.getElem_map, List.getElem_replicate])] at h
  exact h.slc (by rw [List.length_replicate]; omega)
theorem els_zeroL {p : Int} (hp : 1 ≤ p) (C : Nat) : Els p (List.replicate C 0) := fun x hx => by
  rw [List.eq_of_mem_replicate hx]; exact ⟨by omega, by omega⟩
theorem zero_ok {p k n c : Int} {K N C : Nat} {r : List Int} (hp : planB p k n = true) (hk : k - 1 = (K : Int)) (hn : n = (N : Int)) (hc : c = (C : Int)) (hC : C ≤ 2048) (hr : Els p r) (hl : r.length = C * K) : zeroE p k n c r = 0 ∧ zeroR p k n c r = dealF p K N (List.replicate C 0) r := by
  have hp1 : 1 ≤ p := by have := (planB_parts hp).1.1; omega
  have hd := deal_ok_of (K := K) (N := N) (s := List.replicate C 0) (r := r) hp hk hn (els_zeroL hp1 C) hr (by simpa using hl)
  have e : zeroE p k n c r = 0 := by
    unfold zeroE
    rw [if_pos hp, if_neg (by omega), if_neg (by omega), hc, Int.toNat_natCast]
    exact hd.1
  refine ⟨e, ?_⟩
  unfold zeroR
  rw [if_pos e, hk, hn, hc, Int.toNat_natCast, Int.toNat_natCast, Int.toNat_natCast]
end Go.Proofs.YtomnncainedjdaaDoor
