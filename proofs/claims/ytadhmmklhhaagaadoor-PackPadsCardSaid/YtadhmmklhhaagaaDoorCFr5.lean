
/- Slices of numbers that came in, each of 64 bits. -/
import Derived.Test.YtadhmmklhhaagaaDoorWf
import Derived.Test.YtadhmmklhhaagaaDoorKTb
import Derived.Test.YtadhmmklhhaagaaDoorFrame
import Derived.Lib.LaidTab
/-! Slices of numbers that came in, each of 64 bits. -/
namespace Go.Proofs.YtadhmmklhhaagaaDoor
open Go.ChangeShapes Go.WideShapes Go.ChangeAt Go.RowKit

/-- A slice of integers that came in, each of 64 bits. -/
theorem ints_open64 {H : Type} {enc : TypeId × Value → H} {W : World} {fuel : Nat} {a : Option Addr} {len cap : Nat} {d : DataW H} {m : List MemPlace} {ts : List TypeId} {ds : List (DataW H)}
    (hf : DataW.trod enc Tryd.prog W 0 (fun _ => true) true fuel 24 (Value.slice a len cap).cells.toList = some (d, m))
    (hsz : (DataW.weightsEach Tryd.prog ts ds).all (· ≤ reachBytes) = true) (j : Nat) (ht : ts[j]? = some 24) (hd : ds[j]? = some d) : ∃ l, Ints W (.slice a len cap) l ∧ ∀ x ∈ l, in64 x := by
  obtain ⟨l, hl⟩ := ints_open hf hsz j ht hd
  refine ⟨l, hl, ?_⟩
  rcases open_ints Tryd.underlying24 Tryd.underlying3 cellsInt hf with ⟨hcs, _⟩ | ⟨x, n, c, zs, hcs, _, hle, hm, hz, hx, hcell, hwz⟩
  · simp [Value.cells] at hcs
    obtain ⟨rfl, rfl, rfl⟩ := hcs
    obtain ⟨a', c', hv, _, _⟩ := hl
    simp only [Value.slice.injEq] at hv
    obtain rfl : l = [] := List.length_eq_zero_iff.1 hv.2.1.symm
    intro x hx; cases hx
  · simp [Value.cells] at hcs
    obtain ⟨rfl, rfl, rfl⟩ := hcs
    simp only [if_true] at hz
    obtain ⟨a', c', hv, _, hc⟩ := hl
    simp only [Value.slice.injEq] at hv
    obtain ⟨rfl, rfl, rfl⟩ := hv
    intro y hy
    obtain ⟨i, hi, rfl⟩ := List.getElem_of_mem hy
    obtain ⟨b, off, hb, hce⟩ := hc (fun e => by subst e; cases hy)
    simp only [Option.some.injEq] at hb
    subst hb
    have h1 := hcell i (by omega)
    have ea : (⟨b, off, none⟩ : Addr).add i = ⟨b, off + i, none⟩ := by unfold Addr.add; split <;> simp_all
    rw [ea, hce i hi] at h1
    have h2 : l.getD i 0 = zs.getD i 0 := by simpa using h1
    have h3 : l.getD i 0 = l[i] := by simp [List.getD, hi]
    rw [h3] at h2
    have hiz : i < zs.length := by omega
    have h4 := hwz (zs.getD i 0) (by
      rw [List.getD_eq_getElem?_getD, List.getElem?_eq_getElem hiz]
      exact List.getElem_mem hiz)
    rw [← h2] at h4
    simp [Lit.wf, IntKind.min, IntKind.max, IntKind.signed, IntKind.bits] at h4
    exact h4
end Go.Proofs.YtadhmmklhhaagaaDoor
/-! The two tables that the statements of layer 5 list, out of the rows' premises. -/
namespace Go.Proofs.YtadhmmklhhaagaaDoor
open Go.ChangeShapes Go.WideShapes Go.ChangeAt Go.RowKit

theorem gPw : Tryd.prog.globalNamed "reportescrow/pack.powers" = some 0 := by kernel_rfl
theorem gPwType : (Tryd.prog.globals[0]?).map (·.type) = some 56 := by kernel_rfl
theorem cellsPw : Tryd.prog.cellsOf 56 = 3 := by kernel_rfl
theorem pows_of_tab {W : World} (h : Lib.TabIs Tryd.prog W "reportescrow/pack.powers" .i64 [256, 65536, 16777216]) : Pows W := by
  unfold Lib.TabIs World.var? at h
  rw [gPw] at h
  simp only [Option.bind_some] at h
  split at h
  · rename_i cs t fr hh
    refine ⟨t, fr, ?_⟩
    rw [hh]
    have := Option.some.inj h
    subst this
    rfl
  · cases h
end Go.Proofs.YtadhmmklhhaagaaDoor
