
/- A number's bytes, the highest first: the program's highestFirst. -/
import Derived.Test.YtidmcemcmalfnaaDoorSSch
import Derived.Laws.IdiomStrings
namespace Go.Proofs.YtidmcemcmalfnaaDoor
open Go.RowKit
set_option linter.unusedVariables false

theorem infoU8 : (Tryd.prog.info? 5).map (fun i => (i.zero, i.size, i.bytes)) = some (some (.int .u8 0), 1, 1) := by kernel_rfl
/-- The bytes of n, c of them, the highest first. -/
def hfb (n c j : Nat) : UInt8 := UInt8.ofNat (n / 256 ^ (c - 1 - j))
def hf (n c : Nat) : List UInt8 := (List.range c).map (hfb n c)
def hfRow (n c k j : Nat) : Value := .int .u8 (if c - 1 - j < k then ((hfb n c j).toNat : Int) else 0)
theorem hf_len (n c : Nat) : (hf n c).length = c := by simp [hf]
theorem hfb_val (n c j : Nat) : ((hfb n c j).toNat : Int) = ((n / 256 ^ (c - 1 - j) % 256 : Nat) : Int) := by
  unfold hfb
  simp
theorem hfRow_step (n c k : Nat) (hk : k < c) (x : Int) (hx : x = ((n / 256 ^ k % 256 : Nat) : Int)) (j : Nat) (hj : j < c) : (if j = c - 1 - k then Value.int .u8 x else hfRow n c k j) = hfRow n c (k + 1) j := by
  subst hx
  unfold hfRow
  by_cases h : j = c - 1 - k
  · rw [if_pos h, if_pos (by omega), hfb_val]
    congr 3
    rw [show c - 1 - j = k by omega]
  · rw [if_neg h]
    by_cases h2 : c - 1 - j < k
    · rw [if_pos h2, if_pos (by omega)]
    · rw [if_neg h2, if_neg (by omega)]

theorem shift_val (n k : Nat) : (n : Int) / 2 ^ (8 * k) % 256 = ((n / 256 ^ k % 256 : Nat) : Int) := by
  have e : (256 : Nat) ^ k = 2 ^ (8 * k) := by rw [Nat.pow_mul]
  rw [e]
  simp

set_option maxHeartbeats 1000000 in
theorem hf_any (n c : Nat) (w : World) (hn : n < 18446744073709551616) (hc : c ≤ 8) :
    Calls Tryd.prog 35 #[.int .u64 n, .int .i64 c] w fun e w' => e = .returned (.string ⟨(hf n c).toArray⟩) ∧ Below w.heap.size w w' := by
  have hmk := run_make_row' (P := Tryd.prog) 24 5 (.int .u8 0) 1 Tryd.underlying24 infoU8 rfl .i64 .i64 c (by omega) (by omega)
  go_enter Tryd.func35, Tryd.ntmps35
  go_wp2_with fail
  go_loopw [6, 11] (fun _ i wr => ∃ k : Nat, k ≤ c ∧ i = .int .i64 k ∧ Hid (wr.rowIs w.heap.size 5 c (hfRow n c k)) ∧ Hid (Below w.heap.size w wr)) (fun _ i _ => c - (intOf i).toNat)
  case atStart => exact ⟨0, Nat.zero_le _, rfl, (World.rowIs_made w (.int .u8 0) c 5).congr (fun j _ => by simp [hfRow]), (Below.refl _ _).alloc (Nat.le_refl _) _⟩
  case round =>
    obtain ⟨k, hk, rfl, HR, HB⟩ := hrel
    by_cases hlt : k < c
    · obtain ⟨j, hj⟩ : ∃ j, j = c - 1 - k := ⟨_, rfl⟩
      have hcl := HR.out.cell (i := j) (by omega)
      have hfr := HR.out.frozen j
      have h1 : (c : Int) - 1 - k = (j : Int) := by omega
      have hjc : j < c := by omega
      have HJ := Lib.hid hj
      have HV := Lib.hid (shift_val n k)
      clear hj
      go_wp2
      have HS : Hid ((wr.setCell ⟨w.heap.size, j, none⟩ (.int .u8 ((n : Int) / 2 ^ (8 * k) % 256))).rowIs w.heap.size 5 c (hfRow n c (k + 1))) :=
        (HR.out.set j _).congr fun i hi => by rw [HJ.out]; exact hfRow_step n c k hlt _ HV.out i hi
      exact ⟨⟨k + 1, by omega, by go_num, HS, HB.out.setCell (Nat.le_refl _) _⟩, by simp [intOf]; omega⟩
    · have hconv := run_convert_bytes_back (P := Tryd.prog) wr 24 9 5 ⟨w.heap.size, 0, none⟩ c (hf n c) Tryd.underlying24 Tryd.underlying5 Tryd.underlying9 (fun j hj => by
        obtain rfl : k = c := by omega
        rw [hf_len] at hj
        have ha : (⟨w.heap.size, 0, none⟩ : Addr).add j = ⟨w.heap.size, j, none⟩ := by unfold Addr.add; split <;> simp_all
        rw [ha, HR.out.cell hj]
        unfold hfRow
        rw [if_pos (by omega)]
        simp [hf])
      rw [hf_len] at hconv
      obtain ⟨s, hs⟩ : ∃ s : ByteArray, (⟨(hf n c).toArray⟩ : ByteArray) = s := ⟨_, rfl⟩
      rw [hs] at hconv
      have HSV := Lib.hid hs
      clear hs
      go_wp2
      go_ret
      exact ⟨by rw [HSV.out]; rfl, HB.out⟩
end Go.Proofs.YtidmcemcmalfnaaDoor
