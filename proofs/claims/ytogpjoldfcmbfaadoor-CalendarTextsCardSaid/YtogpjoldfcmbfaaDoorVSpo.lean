
/- A string with one byte changed: the kit's Spoil. -/
import Derived.Test.YtogpjoldfcmbfaaDoorVTxt
namespace Go.Proofs.YtogpjoldfcmbfaaDoor
open Go.RowKit
set_option linter.unusedVariables false

/-- One byte of a slice of the call's own is changed. -/
theorem OwnB.set {w : World} {B g len cap : Nat} {l : List UInt8} (h : OwnB w B (.slice (some ⟨g, 0, none⟩) len cap) l) (i : Nat) (hi : i < l.length) (b : UInt8) (v : Int) (hv : v = (b.toNat : Int)) :
    w.frozen? ⟨g, i, none⟩ = false ∧ OwnB (w.setCell ⟨g, i, none⟩ (.int .u8 v)) B (.slice (some ⟨g, 0, none⟩) len cap) (l.set i b) ∧ Below B w (w.setCell ⟨g, i, none⟩ (.int .u8 v)) := by
  subst hv
  rcases h with ⟨h, _⟩ | ⟨g', cap', cur, fr, h1, hb, hg, hfr, hlc, hcm, hcs, hcell⟩
  · cases h
  · simp only [Value.slice.injEq, Option.some.injEq, Addr.mk.injEq] at h1
    obtain ⟨⟨rfl, _⟩, rfl, rfl⟩ := h1
    obtain ⟨c', h2, h3, h4⟩ := setCells_heap (g := g) [.int .u8 (b.toNat : Int)] i w cur hg
    refine ⟨?_, .inr ⟨g, cap, c', fr, by rw [List.length_set], hb, h2, by rw [h3]; exact hfr, by rw [List.length_set]; exact hlc, hcm, by rw [h3]; exact hcs, fun j hj => ?_⟩, Go.below_setCells hb [.int .u8 (b.toNat : Int)] i w (Below.refl _ _)⟩
    · simp only [World.frozen?, hg]
      rcases hfr with rfl | hf
      · simp
      · obtain ⟨lo, hi'⟩ := fr
        simp only at hf ⊢
        have : ¬ lo ≤ i := by omega
        rw [decide_eq_false this]; rfl
    · rw [List.length_set] at hj
      rw [h4 j (by omega)]
      by_cases e : j = i
      · subst e
        rw [if_pos (by simp)]
        simp [Sha.bt, List.getD, hj]
      · rw [if_neg (by simp; omega), hcell j hj]
        have e' : ¬ i = j := fun h => e h.symm
        simp [Sha.bt, List.getD, e']
end Go.Proofs.YtogpjoldfcmbfaaDoor
