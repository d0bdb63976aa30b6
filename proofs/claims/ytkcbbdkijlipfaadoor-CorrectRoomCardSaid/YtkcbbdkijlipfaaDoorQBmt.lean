
/- Wrong shares change nothing: mathematics. -/
import Derived.Test.YtkcbbdkijlipfaaDoorQLie
namespace Go.Proofs.YtkcbbdkijlipfaaDoor
open Go.RowKit Go.Sort
open Num
set_option linter.unusedVariables false

theorem sget {L : List Shr} {j : Nat} (hj : j < L.length) : L.getD j (0, []) ∈ L := by rw [List.getD_eq_getElem?_getD, List.getElem?_eq_getElem hj]; exact List.getElem_mem _
theorem sget_eq {L : List Shr} {j : Nat} (hj : j < L.length) : L.getD j (0, []) = L[j] := by simp [List.getD, hj]
theorem lie_fst {p : Int} {m t k : Nat} {L L' : List Shr} (h : LieP p m t k L L') : L'.map (·.1) = L.map (·.1) := by
  refine List.ext_getElem (by simp [h.len]) fun i h1 h2 => ?_
  rw [List.getElem_map, List.getElem_map, ← sget_eq, ← sget_eq]
  exact h.hold i
theorem lie_gd {p : Int} {N m t k : Nat} {L L' : List Shr} (h : LieP p m t k L L') (g : Gd p N m L) : Gd p N m L' := by
  have hin : ∀ x ∈ L', ∃ j, j < L.length ∧ L'.getD j (0, []) = x := fun x hx => by
    obtain ⟨j, hj, rfl⟩ := List.mem_iff_getElem.1 hx
    exact ⟨j, by rw [← h.len]; exact hj, sget_eq hj⟩
  refine ⟨fun x hx => ?_, fun x hx => ?_, fun x hx => ?_, by rw [lie_fst h]; exact g.one⟩
  · obtain ⟨j, hj, rfl⟩ := hin x hx
    rw [h.hold j]; exact g.hold _ (sget hj)
  · obtain ⟨j, hj, rfl⟩ := hin x hx
    exact h.els j hj
  · obtain ⟨j, hj, rfl⟩ := hin x hx
    exact h.size j hj
theorem outL_few {L : List Shr} {T : Nat} (hH : ∀ j, j < T → 0 ≤ (L.getD j (0, [])).1 ∧ (L.getD j (0, [])).1 ≤ 16) : (outL L T 17).length ≤ T := by
  have h := sub_len (outL L T 17) ((List.range T).map fun j => (L.getD j (0, [])).1) (asc_nodup (outL_asc L T 17)) fun x hx => by
    obtain ⟨j, hj, rfl⟩ := (outL_mem hH x).1 hx
    exact List.mem_map.2 ⟨j, List.mem_range.2 hj, rfl⟩
  simpa using h
theorem bears {p : Int} {K N m T : Nat} {L L' : List Shr} {Sx W : List Int} {c : Int} {f : Nat → List Int} (hp : PrmI p) (hnp : (N : Int) < p) (hN : N ≤ 16) (hm : 1 ≤ m) (g : Gd p N m L) (o : On p (K + 1) m f L) (h : LieP p m T 0 L L') (hT : T ≤ (L.length - (K + 1)) / 2) (hK : K + 1 ≤ L.length)
    (hr : RobR p (K + 1) m L' Sx W c) : c = 0 ∧ Sx = (List.range m).map (fun i => E (f i) 0 % p) ∧ W = outL L T 17 := by
  have hp1 : 1 ≤ p := by have := hp.1; omega
  have hTL : T ≤ L.length := by omega
  have hH : ∀ j, j < T → 0 ≤ (L.getD j (0, [])).1 ∧ (L.getD j (0, [])).1 ≤ 16 := fun j hj => by
    have := g.hold _ (sget (show j < L.length by omega))
    omega
  refine robR_bears hp hnp (lie_gd h g) hr (by rw [h.len]; exact hK) f o.len (outL L T 17) (outL_asc L T 17) (fun x => ?_) (by rw [h.len]; exact Nat.le_trans (outL_few hH) hT)
  rw [outL_mem hH x, h.len]
  constructor
  · rintro ⟨j, hj, rfl⟩
    refine ⟨j, by omega, h.hold j, 0, hm, ?_⟩
    rw [← o.val _ (sget (show j < L.length by omega)) 0 hm]
    exact fun e => h.wrong j hj e.symm
  · rintro ⟨j, hj, hx, i, hi, hne⟩
    by_cases hjT : j < T
    · exact ⟨j, hjT, by rw [← h.hold j]; exact hx⟩
    · exfalso
      apply hne
      rw [← hx, h.hold j, ← o.val _ (sget hj) i hi]
      by_cases e : j = T
      · subst e; exact (h.rest i (Nat.zero_le _)).symm
      · rw [h.same j (by omega)]
end Go.Proofs.YtkcbbdkijlipfaaDoor
