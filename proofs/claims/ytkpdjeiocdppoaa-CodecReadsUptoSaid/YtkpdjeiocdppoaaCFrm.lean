
/- What the frames of layer 4's statements share. -/
import Derived.Test.YtkpdjeiocdppoaaRows
import Derived.Test.YtkpdjeiocdppoaaVPtx
import Derived.Test.YtkpdjeiocdppoaaFrame
import Derived.ShutString
import Derived.Deep.CondSized
namespace Go.Proofs.Ytkpdjeiocdppoaa
open Go.ChangeShapes Go.WideShapes Go.ChangeAt Go.RowKit

/-- A slice of integers that came in, each of 64 bits. -/
theorem ints_open64 {H : Type} {enc : TypeId × Value → H} {W : World} {fuel : Nat} {a : Option Addr} {len cap : Nat} {d : DataW H} {m : List MemPlace} {ts : List TypeId} {ds : List (DataW H)}
    (hf : DataW.trod enc Try.prog W 0 (fun _ => true) true fuel 22 (Value.slice a len cap).cells.toList = some (d, m))
    (hsz : (DataW.weightsEach Try.prog ts ds).all (· ≤ reachBytes) = true) (j : Nat) (ht : ts[j]? = some 22) (hd : ds[j]? = some d) : ∃ l, Ints W (.slice a len cap) l ∧ ∀ x ∈ l, in64 x := by
  obtain ⟨l, hl⟩ := ints_open hf hsz j ht hd
  refine ⟨l, hl, ?_⟩
  rcases open_ints Try.underlying22 Try.underlying3 cellsInt hf with ⟨hcs, _⟩ | ⟨x, n, c, zs, hcs, _, hle, hm, hz, hx, hcell, hwz⟩
  · simp [Value.cells] at hcs
    obtain ⟨rfl, rfl, rfl⟩ := hcs
    obtain ⟨a', c', hv, _, _⟩ := hl
    simp only [Value.slice.injEq] at hv
    obtain rfl : l = [] := List.length_eq_zero_iff.1 hv.2.1.symm
    intro x hx; cases hx
  · simp [Value.cells] at hcs
    obtain ⟨rfl, rfl, rfl⟩ := hcs
    simp only [if_true] at hz
    obtain ⟨a', c', hv, _, hc⟩ := hl
    simp only [Value.slice.injEq] at hv
    obtain ⟨rfl, rfl, rfl⟩ := hv
    intro y hy
    obtain ⟨i, hi, rfl⟩ := List.getElem_of_mem hy
    obtain ⟨b, off, hb, hce⟩ := hc (fun e => by subst e; cases hy)
    simp only [Option.some.injEq] at hb
    subst hb
    have h1 := hcell i (by omega)
    have ea : (⟨b, off, none⟩ : Addr).add i = ⟨b, off + i, none⟩ := by unfold Addr.add; split <;> simp_all
    rw [ea, hce i hi] at h1
    have h2 : l.getD i 0 = zs.getD i 0 := by simpa using h1
    have h3 : l.getD i 0 = l[i] := by simp [List.getD, hi]
    rw [h3] at h2
    have hiz : i < zs.length := by omega
    have h4 := hwz (zs.getD i 0) (by
      rw [List.getD_eq_getElem?_getD, List.getElem?_eq_getElem hiz]
      exact List.getElem_mem hiz)
    rw [← h2] at h4
    simp [Lit.wf, IntKind.min, IntKind.max, IntKind.signed, IntKind.bits] at h4
    exact h4
theorem wf_i64 {a : Int} (h : (Lit.int .i64 a).wf = true) : in64 a := by
  simp [Lit.wf, IntKind.min, IntKind.max, IntKind.signed, IntKind.bits] at h
  exact h
theorem bulk_le {H : Type} {d : DataW H} : ∀ {l : List (DataW H)}, d ∈ l → Rows.uptoBulk d ≤ Rows.uptoBulkAll l
  | x :: r, h => by
    simp only [Rows.uptoBulkAll]
    rcases List.mem_cons.1 h with e | e
    · subst e; omega
    · have := bulk_le e; omega
/-- A slice of strings that came in, of which each is short. -/
theorem strs_openU {H : Type} {enc : TypeId × Value → H} {W : World} {fuel : Nat} {a : Option Addr} {len cap : Nat} {d : DataW H} {m : List MemPlace} {ts : List TypeId} {ds : List (DataW H)}
    (hf : DataW.trod enc Try.prog W 0 (fun _ => true) true fuel 23 (Value.slice a len cap).cells.toList = some (d, m))
    (hsz : (DataW.weightsEach Try.prog ts ds).all (· ≤ reachBytes) = true) (j : Nat) (ht : ts[j]? = some 23) (hd : ds[j]? = some d) (hk : Rows.uptoSmall H ds = true) : ∃ l, Strs W (.slice a len cap) l ∧ ∀ x ∈ l, x.size ≤ 1048576 := by
  obtain ⟨l, hl⟩ := strs_open hf hsz j ht hd
  refine ⟨l, hl, ?_⟩
  have hb : Rows.uptoBulkAll ds ≤ 1048576 := of_decide_eq_true hk
  have hd1 := bulk_le (List.mem_of_getElem? hd)
  rcases open_strings Try.underlying23 Try.underlying9 cellsStr hf with ⟨hcs, _⟩ | ⟨x, n, c, ss, hcs, _, hle, hm, hz, hx, hcell, _⟩
  · simp [Value.cells] at hcs
    obtain ⟨rfl, rfl, rfl⟩ := hcs
    obtain ⟨a', c', hv, _, _, _⟩ := hl
    simp only [Value.slice.injEq] at hv
    obtain rfl : l = [] := List.length_eq_zero_iff.1 hv.2.1.symm
    intro x hx; cases hx
  · simp [Value.cells] at hcs
    obtain ⟨rfl, rfl, rfl⟩ := hcs
    simp only [if_true] at hz
    simp only [Prod.mk.injEq] at hx
    obtain ⟨rfl, _⟩ := hx
    obtain ⟨a', c', hv, _, _, hc⟩ := hl
    simp only [Value.slice.injEq] at hv
    obtain ⟨rfl, rfl, rfl⟩ := hv
    intro y hy
    obtain ⟨i, hi, rfl⟩ := List.getElem_of_mem hy
    obtain ⟨b, off, hb', hce⟩ := hc (fun e => by subst e; cases hy)
    simp only [Option.some.injEq] at hb'
    subst hb'
    have h1 := hcell i (by omega)
    have ea : (⟨b, off, none⟩ : Addr).add i = ⟨b, off + i, none⟩ := by unfold Addr.add; split <;> simp_all
    rw [ea, hce i hi] at h1
    have h2 : l.getD i ByteArray.empty = ss.getD i ByteArray.empty := by simpa using h1
    have h3 : l.getD i ByteArray.empty = l[i] := by simp [List.getD, hi]
    rw [h3] at h2
    have hiz : i < (ss.take l.length).length := by rw [List.length_take]; omega
    have h4 : l[i] ∈ ss.take l.length := by
      rw [h2, List.getD_eq_getElem?_getD, List.getElem?_eq_getElem (by omega)]
      have := List.getElem_mem hiz
      simpa using this
    have h5 : (DataW.lit (H := H) (.string l[i].data.toList)) ∈ (Go.ChangeShapes.strs (ss.take l.length) : List (DataW H)) := by
      unfold Go.ChangeShapes.strs
      exact List.mem_map.2 ⟨_, h4, rfl⟩
    have h6 := bulk_le h5
    simp only [Rows.uptoBulk] at h6 hd1
    rw [Lib.size_eq]
    omega
end Go.Proofs.Ytkpdjeiocdppoaa
