
/- The walk through ShareHides. -/
import Derived.Test.YtgenollnnfljkaaDoorHXp
namespace Go.Proofs.YtgenollnnfljkaaDoor
open Go.RowKit Go.Sort
open Num
set_option linter.unusedVariables false

/-- A part of a list of shares that lies in new memory. -/
theorem SharesN.take {w : World} {base : Nat} {a : Option Addr} {n c : Nat} {L : List Shr} (h : SharesN w base (.slice a n c) L) (k c' : Nat) (hk : k ≤ n) (hc : k ≤ c') (hc2 : c' ≤ 9223372036854775807) : SharesN w base (.slice a k c') (L.take k) := by
  obtain ⟨a', c2, hv, h1, h2, h3, hx⟩ := h
  simp only [Value.slice.injEq] at hv
  obtain ⟨rfl, rfl, rfl⟩ := hv
  have hl : (L.take k).length = k := by rw [List.length_take]; omega
  refine ⟨a, c', by rw [hl], by omega, by omega, hc2, fun hne => ?_⟩
  have h0 : 0 < k := by rw [← hl]; exact List.length_pos_iff.2 hne
  obtain ⟨b, off, e, hb, hcell⟩ := hx (fun e => by subst e; simp at hk; omega)
  refine ⟨b, off, e, hb, fun i hi => ?_⟩
  rw [hl] at hi
  have e3 : (L.take k).getD i (0, []) = L.getD i (0, []) := by simp [List.getD, hi]
  rw [e3]
  exact hcell i (by omega)
/-- One share of a list of shares, as a list. -/
theorem Shares.one {w : World} {b off n c c' : Nat} {L : List Shr} (h : Shares w (.slice (some ⟨b, off, none⟩) n c) L) {i : Nat} (hi : i < n) (hc : 1 ≤ c') (hc2 : c' ≤ 9223372036854775807) : Shares w (.slice (some ⟨b, off + i * 2, none⟩) 1 c') [L.getD i (0, [])] := by
  obtain ⟨b', off', v, e, c0, c1, hI⟩ := h.at hi
  simp only [Option.some.injEq, Addr.mk.injEq, and_true] at e
  obtain ⟨rfl, rfl⟩ := e
  refine ⟨_, c', rfl, by simp, hc, hc2, fun _ => ⟨b, off + i * 2, rfl, fun j hj => ?_⟩⟩
  obtain rfl : j = 0 := by simp at hj; omega
  exact ⟨v, by simpa using c0, by simpa using c1, hI⟩

end Go.Proofs.YtgenollnnfljkaaDoor
