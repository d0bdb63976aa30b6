
/- What the frames of layer 1's statements share. -/
import Derived.Test.YtpgbjnenllfmlaaGreatDoorArith
import Derived.ProofKit
import Derived.LaidMore
import Derived.ShutString
import Derived.ChangeOld
import Derived.Stop.Joined
import Derived.Lib.LaidTab
/-! What the frames of layer 1's statements share. -/
namespace Go.Proofs.YtpgbjnenllfmlaaGreatDoor
open Go.ChangeShapes Go.WideShapes Go.ChangeAt Go.RowKit

theorem own : ownKnob Tryz.prog.godebug = none := by kernel_rfl
theorem laidOut : laidOutB Tryz.prog = true := by kernel_rfl
theorem gTab : Tryz.prog.globalNamed "reportescrow/field.wheel" = some 1 := by kernel_rfl
theorem gTabType : (Tryz.prog.globals[1]?).map (·.type) = some 130 := by kernel_rfl
theorem cellsInt : Tryz.prog.cellsOf 3 = 1 := by kernel_rfl
theorem cellsWheel : Tryz.prog.cellsOf 130 = 8 := by kernel_rfl

theorem wheel_of_tab {W : World} (h : Lib.TabIs Tryz.prog W "reportescrow/field.wheel" .i64 [7, 11, 13, 17, 19, 23, 29, 31]) : Wheel W := by
  unfold Lib.TabIs World.var? at h
  rw [gTab] at h
  simp only [Option.bind_some] at h
  split at h
  · rename_i cs t fr hh
    refine ⟨t, fr, ?_⟩
    rw [hh]
    have := Option.some.inj h
    subst this
    rfl
  · cases h

theorem bytesInt : Tryz.prog.bytesOf 3 = 8 := by kernel_rfl

/-- A slice of integers that came in. -/
theorem ints_open {H : Type} {enc : TypeId × Value → H} {W : World} {fuel : Nat} {a : Option Addr} {len cap : Nat} {d : DataW H} {m : List MemPlace} {ts : List TypeId} {ds : List (DataW H)}
    (hf : DataW.trod enc Tryz.prog W 0 (fun _ => true) true fuel 22 (Value.slice a len cap).cells.toList = some (d, m))
    (hsz : (DataW.weightsEach Tryz.prog ts ds).all (· ≤ reachBytes) = true) (j : Nat) (ht : ts[j]? = some 22) (hd : ds[j]? = some d) : ∃ l, Ints W (.slice a len cap) l := by
  rcases open_ints Tryz.underlying22 Tryz.underlying3 cellsInt hf with ⟨hcs, _⟩ | ⟨x, n, c, zs, hcs, _, hl, hm, hz, hx, hcell, hwz⟩
  · simp [Value.cells] at hcs
    obtain ⟨rfl, rfl, rfl⟩ := hcs
    exact ⟨[], ints_nil W⟩
  · simp [Value.cells] at hcs
    obtain ⟨rfl, rfl, rfl⟩ := hcs
    simp only [Prod.mk.injEq] at hx
    obtain ⟨rfl, _⟩ := hx
    have hr := sized_slice hsz ht hd Tryz.underlying22
    rw [bytesInt] at hr
    simp only [if_true] at hz
    have hlen : (zs.take len).length = len := by rw [List.length_take]; omega
    have hb : len ≤ 140737488355328 := by
      simp only [lits, List.length_map, List.length_take, List.length_drop] at hr
      have := reachBytes_lt
      omega
    refine ⟨zs.take len, some x, cap, by rw [hlen], by omega, fun hne => ?_⟩
    have h0 : 0 < len := by
      by_cases h : 0 < len
      · exact h
      · obtain rfl : len = 0 := by omega
        simp at hne
    obtain ⟨b, off, spot⟩ := x
    have hc0 := hcell 0 (by omega)
    have hspot : spot = none := by simpa [Addr.add] using World.cell?_spot hc0
    subst hspot
    refine ⟨b, off, rfl, fun i hi => ?_⟩
    have hci := hcell i (by omega)
    have e : (zs.take len).getD i 0 = zs.getD i 0 := by
      simp only [List.getD]
      rw [List.getElem?_take_of_lt (by omega)]
    rw [e]
    have ea : (⟨b, off, none⟩ : Addr).add i = ⟨b, off + i, none⟩ := by unfold Addr.add; split <;> simp_all
    rwa [ea] at hci
end Go.Proofs.YtpgbjnenllfmlaaGreatDoor
/-! Ranges of numbers that came in. -/
namespace Go.Proofs.YtpgbjnenllfmlaaGreatDoor
open Go.ChangeShapes Go.WideShapes Go.ChangeAt Go.RowKit

/-- A number of 64 bits. -/
def in64 (x : Int) : Prop := -9223372036854775808 ≤ x ∧ x ≤ 9223372036854775807
theorem wf_i64 {a : Int} (h : (Lit.int .i64 a).wf = true) : in64 a := by
  simp [Lit.wf, IntKind.min, IntKind.max, IntKind.signed, IntKind.bits] at h
  exact h
theorem wf_u8 {a : Int} (h : (Lit.int .u8 a).wf = true) : ∃ n : Nat, a = n ∧ n < 256 := by
  simp [Lit.wf, IntKind.min, IntKind.max, IntKind.signed, IntKind.bits] at h
  exact ⟨a.toNat, by omega, by omega⟩
theorem wf_u16 {a : Int} (h : (Lit.int .u16 a).wf = true) : ∃ n : Nat, a = n ∧ n < 65536 := by
  simp [Lit.wf, IntKind.min, IntKind.max, IntKind.signed, IntKind.bits] at h
  exact ⟨a.toNat, by omega, by omega⟩
end Go.Proofs.YtpgbjnenllfmlaaGreatDoor
