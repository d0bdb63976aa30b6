
/- Contract of the document's answer for places; the product that its weights gather. -/
import Derived.Test.YtpohhgbmdgjipaaRfA
import Derived.Test.YtpohhgbmdgjipaaThru
namespace Go.Proofs.Ytpohhgbmdgjipaa
open Go.RowKit
open Num
set_option linter.unusedVariables false

theorem take_has {xs : List Int} {j k : Nat} {v : Int} (hj : j < k) (hk : k ≤ xs.length) (h : xs.getD j 0 = v) : (xs.take k).contains v = true := by
  refine List.elem_eq_true_of_mem ?_
  rw [List.mem_iff_getElem]
  refine ⟨j, by rw [List.length_take]; omega, ?_⟩
  rw [List.getElem_take, ← h, getD_lt (by omega)]
theorem take_hasnt {xs : List Int} {k : Nat} {v : Int} (hk : k ≤ xs.length) (h : ∀ j, j < k → xs.getD j 0 ≠ v) : (xs.take k).contains v = false := by
  cases e : (xs.take k).contains v with
  | false => rfl
  | true =>
    have hm : v ∈ xs.take k := List.mem_of_elem_eq_true e
    obtain ⟨j, hj, he⟩ := List.mem_iff_getElem.1 hm
    rw [List.length_take] at hj
    rw [List.getElem_take] at he
    exact absurd (by rw [getD_lt (by omega)]; exact he) (h j (by omega))
def plc0 (xs : List Int) : Int := if dupB xs = true then 6 else 0
theorem plc_of {xs : List Int} (h : xs ≠ []) : plc xs = plc0 xs := by unfold plc plc0; rw [if_neg h]
theorem plc0_dup {xs : List Int} {k : Nat} (hk : k < xs.length) (h : (xs.take k).contains (xs.getD k 0) = true) : plc0 xs = 6 := by unfold plc0; rw [if_pos (dupB_true hk h)]
theorem plc0_ok {xs : List Int} (h : ∀ k, k < xs.length → (xs.take k).contains (xs.getD k 0) = false) : plc0 xs = 0 := by unfold plc0; rw [if_neg (by rw [dupB_false h]; simp)]

set_option maxRecDepth 100000 in
set_option maxHeartbeats 1000000 in
theorem ref_places_core (a : Option Addr) (len cap : Nat) (xs : List Int) (w : World) (hI : Ints w (.slice a len cap) xs) (hlen : Hid (len = xs.length)) (hn : len ≤ 1000000) (hc : len ≤ cap) (hc2 : cap ≤ 9223372036854775807) :
    Calls Try.prog 44 #[.slice a len cap] w fun e w' => e = .returned (.int .i64 (plc0 xs)) ∧ w = w' := by
  go_enter Try.func44, Try.ntmps44
  go_wp2
  go_loopw [3, 4, 6, 9] (fun _ _ _ i wr => ∃ k : Nat, k ≤ len ∧ i = .int .i64 k ∧ Hid (∀ j, j < k → (xs.take j).contains (xs.getD j 0) = false) ∧ wr = w) (fun _ _ _ i _ => len - (intOf i).toNat)
  case atStart => exact ⟨0, Nat.zero_le _, rfl, Lib.hid (fun j hj => by omega), rfl⟩
  case round =>
    obtain ⟨k, hk, rfl, hd, rfl⟩ := hrel
    by_cases hlt : k < len
    · obtain ⟨b, o, rfl, hcx⟩ := ints_at hI hlen.out (k := k) hlt
      obtain ⟨x, hx⟩ : ∃ x, xs.getD k 0 = x := ⟨_, rfl⟩
      rw [hx] at hcx
      have HX := Lib.hid hx
      clear hx
      go_wp2
      go_loopw [6, 18] (fun _ c wr' => ∃ j : Nat, j ≤ k ∧ c = .int .i64 j ∧ Hid (∀ i, i < j → xs.getD i 0 ≠ x) ∧ wr' = wr) (fun _ c _ => k - (intOf c).toNat)
      case atStart => exact ⟨0, Nat.zero_le _, rfl, Lib.hid (fun j hj => by omega), rfl⟩
      case round =>
        obtain ⟨j, hj, rfl, hne, rfl⟩ := hrel
        by_cases hjk : j < k
        · obtain ⟨b1, o1, e1, hcy⟩ := ints_at hI hlen.out (k := j) (by omega)
          injection e1 with e1
          injection e1 with e1 e2
          subst e1 e2
          obtain ⟨y, hy⟩ : ∃ y, xs.getD j 0 = y := ⟨_, rfl⟩
          rw [hy] at hcy
          have HY := Lib.hid hy
          clear hy
          by_cases hxy : x = y
          · have hp6 : Hid (plc0 xs = 6) := plc0_dup (k := k) (by rw [← hlen.out]; exact hlt) (take_has hjk (by rw [← hlen.out]; omega) (by rw [HY.out, HX.out, hxy]))
            subst hxy
            clear hne hd
            go_wp2
            go_ret
            exact ⟨by rw [hp6.out]; rfl, rfl⟩
          · have hb : (x == y) = false := by simpa using hxy
            have hb2 : decide (x = y) = false := decide_eq_false hxy
            go_wp2
            go_roundw
            case rel =>
              refine ⟨j + 1, by omega, by go_num, Lib.hid fun i hi => ?_, trivial⟩
              by_cases e : i = j
              · subst e; rw [HY.out]; exact fun e => hxy e.symm
              · exact hne.out i (by omega)
            case measure => simp [intOf]; omega
        · obtain rfl : j = k := by omega
          have hct : Hid ((xs.take j).contains (xs.getD j 0) = false) := by
            show _ = _
            rw [HX.out]; exact take_hasnt (by rw [← hlen.out]; omega) hne.out
          clear hne
          go_wp2
          go_roundw
          case rel =>
            refine ⟨j + 1, by omega, by go_num, Lib.hid fun i hi => ?_, trivial⟩
            by_cases e : i = j
            · subst e; exact hct.out
            · exact hd.out i (by omega)
          case measure => simp [intOf]; omega
    · obtain rfl : k = len := by omega
      have hp0 : Hid (plc0 xs = 0) := plc0_ok fun j hj => hd.out j (by rw [hlen.out]; exact hj)
      clear hd
      go_wp2
      go_ret
      exact ⟨by rw [hp0.out]; rfl, rfl⟩

/-! ### The product over all places but one -/
def PK (xs : List Int) (i : Nat) (x : Int) : Nat → Int
  | 0 => 1
  | j + 1 => if j = i then PK xs i x j else PK xs i x j * (x - xs.getD j 0)
theorem PK_low {xs : List Int} {i : Nat} {x : Int} : ∀ j, j ≤ i → j ≤ xs.length → PK xs i x j = prodE (xs.take j) x
  | 0, _, _ => by simp [PK, prodE]
  | j + 1, h, hl => by rw [PK, if_neg (by omega), PK_low j (by omega) (by omega), take_succ_getD (by omega), prodE_snoc]
theorem PK_all {xs : List Int} {i : Nat} {x : Int} (hi : i < xs.length) : ∀ k, i + 1 + k ≤ xs.length → PK xs i x (i + 1 + k) = prodE (xs.take i ++ (xs.drop (i + 1)).take k) x
  | 0, _ => by rw [Nat.add_zero, PK, if_pos rfl, PK_low i (Nat.le_refl _) (by omega)]; simp
  | k + 1, h => by
    have h1 : (xs.drop (i + 1)).take (k + 1) = (xs.drop (i + 1)).take k ++ [xs.getD (i + 1 + k) 0] := by
      rw [take_succ_getD (by rw [List.length_drop]; omega)]
      congr 2
      simp [List.getD, List.getElem?_drop]
    rw [show i + 1 + (k + 1) = (i + 1 + k) + 1 by omega, PK, if_neg (by omega), PK_all hi k (by omega), h1, ← List.append_assoc, prodE_snoc]
theorem PK_rest {xs : List Int} {i : Nat} {x : Int} (hi : i < xs.length) : PK xs i x xs.length = prodE (rest xs i) x := by
  have h := PK_all (x := x) hi (xs.length - (i + 1)) (by omega)
  rw [show i + 1 + (xs.length - (i + 1)) = xs.length by omega, List.take_of_length_le (l := xs.drop (i + 1)) (by rw [List.length_drop]; omega)] at h
  exact h
theorem PK_step {p x b : Int} {xs : List Int} {i j : Nat} (h : j ≠ i) (hb : xs.getD j 0 = b) : (PK xs i x j % p) * subF p x b % p = PK xs i x (j + 1) % p := by
  subst hb
  rw [PK, if_neg h, subF, ← Int.mul_emod]
theorem PK_skip {x : Int} {xs : List Int} {i j : Nat} (h : j = i) : PK xs i x (j + 1) = PK xs i x j := by rw [PK, if_pos h]
end Go.Proofs.Ytpohhgbmdgjipaa
