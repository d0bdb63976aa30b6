
/- poly.others: the iterator over all places but one. -/
import Derived.Test.YtpohhgbmdgjipaaPlaces
import Derived.Test.YtpohhgbmdgjipaaRound
namespace Go.Proofs.Ytpohhgbmdgjipaa
open Go.RowKit Go.Shelf
open Num
set_option linter.unusedVariables false
attribute [local go_sem] Oper.semAt_some

/-- Of the first k places all but number i. -/
def restK (xs : List Int) (i k : Nat) : List Int := if k ≤ i then xs.take k else xs.take i ++ (xs.take k).drop (i + 1)
theorem restK_all {xs : List Int} {i : Nat} (h : i < xs.length) : restK xs i xs.length = rest xs i := by
  unfold restK rest; rw [if_neg (by omega), List.take_length]
theorem restK_own (xs : List Int) (i : Nat) : restK xs i (i + 1) = restK xs i i := by
  unfold restK; rw [if_neg (by omega), if_pos (Nat.le_refl _), List.drop_of_length_le (by simp; omega), List.append_nil]
theorem restK_other {xs : List Int} {i k : Nat} (h : k < xs.length) (hne : k ≠ i) : restK xs i (k + 1) = restK xs i k ++ [xs.getD k 0] := by
  unfold restK
  by_cases h1 : k < i
  · rw [if_pos (by omega), if_pos (by omega), take_succ_getD h]
  · rw [if_neg (by omega), if_neg (by omega), take_succ_getD h, List.drop_append_of_le_length (by simp; omega), List.append_assoc]

abbrev InL (xs : List Int) := { v : Int // v ∈ xs }
def OthR (Bx Bi i : Nat) (xs : List Int) (a : Option Addr) (cap : Nat) (W : World) : Prop := Reads (At xs) Bx a xs.length cap W ∧ W.cell? ⟨Bi, 0, none⟩ = some (.int .i64 i)
theorem OthR.of_cells {Bx Bi i : Nat} {xs : List Int} {a : Option Addr} {cap : Nat} {W W' : World} (h : OthR Bx Bi i xs a cap W) (hc : ∀ p : Addr, ∀ v, W.cell? p = some v → W'.cell? p = some v) : OthR Bx Bi i xs a cap W' :=
  ⟨h.1.of_cells hc, hc _ _ h.2⟩
theorem OthR.but {Bx Bi i B : Nat} {xs : List Int} {a : Option Addr} {cap : Nat} {W W' : World} (h : OthR Bx Bi i xs a cap W) (k : But B W W') (h1 : Bx ≠ B) (h2 : Bi ≠ B) (ha : ∀ b off, a = some ⟨b, off, none⟩ → b ≠ B) : OthR Bx Bi i xs a cap W' :=
  ⟨h.1.but k h1 ha, by rw [k.cell (p := ⟨Bi, 0, none⟩) (cell_lt h.2) h2]; exact h.2⟩

set_option maxRecDepth 100000 in
set_option maxHeartbeats 2000000 in
theorem others1_in (n : Nat) (hn : 1 ≤ n) (l Bx Bi i : Nat) (xs : List Int) (a : Option Addr) (len cap : Nat) (hlen : Hid (len = xs.length)) (hreach : len ≤ 140737488355328) (J Jx : List (InL xs) → World → Prop)
    (hY : ∀ pre x W, J pre W → pre.length < len → YieldAt Fence.wide (n - 1) Try.prog l #[.int .i64 x.1] W fun e W' =>
      (e = .returned (.bool true) ∧ J (pre ++ [x]) W' ∧ (OthR Bx Bi i xs a cap W → OthR Bx Bi i xs a cap W')) ∨ (e = .returned (.bool false) ∧ Jx (pre ++ [x]) W'))
    (W : World) (hQ : OthR Bx Bi i xs a cap W) (h0 : J [] W) :
    CallsIn Fence.wide n Try.prog 50 #[.func (.yield l) #[] #[], .pointer (some ⟨Bx, 0, none⟩), .pointer (some ⟨Bi, 0, none⟩)] W fun e W' => (∃ v, e = .returned v) ∧
      ((∃ ys : List (InL xs), ys.map (·.1) = restK xs i len ∧ J ys W') ∨ (∃ pre : List (InL xs), True ∧ Jx pre W')) := by
  refine callsIn_of_wp Try.func50 rfl trivial ?_ rfl
  simp only [Try.ntmps50, List.size_toArray, List.length_cons, List.length_nil, Nat.reduceAdd, Nat.reduceSub, Array.replicate_succ, Array.replicate_zero, List.push_toArray, List.append_toArray, List.nil_append, List.cons_append]
  have hc0 := hQ.1.1
  rw [← hlen.out] at hc0
  gi_wp2
  gi_loopw [4, 5, 8] (fun _ _ c wr => ∃ k : Nat, ∃ pre : List (InL xs), k ≤ len ∧ c = .int .i64 k ∧ Hid (pre.map (·.1) = restK xs i k) ∧ J pre wr ∧ OthR Bx Bi i xs a cap wr)
    (fun _ _ c _ => len - (intOf c).toNat)
  case atStart => exact ⟨0, [], Nat.zero_le _, rfl, Lib.hid (by simp [restK]), h0, hQ⟩
  case round =>
    obtain ⟨k, pre, hk, rfl, hpre, hJs, hq⟩ := hrel
    have hcb := hq.2
    by_cases hlt : k < len
    · obtain ⟨b, off, v, rfl, hRv, hcv⟩ := hq.1.2 k (by rw [← hlen.out]; exact hlt)
      have hm : v ∈ xs := by rw [show v = xs.getD k 0 from hRv, getD_lt (by rw [← hlen.out]; exact hlt)]; exact List.getElem_mem _
      have HRV : Hid (xs.getD k 0 = v) := Eq.symm hRv
      clear hRv
      by_cases hki : k = i
      · subst hki
        have hpre' : Hid (pre.map (·.1) = restK xs k (k + 1)) := by show _ = _; rw [restK_own]; exact hpre.out
        have HQ := Lib.hid hq
        have hb : ((k : Int) != (k : Int)) = false := by simp
        clear hq hm
        gi_wp2
        refine ⟨fun _ h => (by cases h), ?_⟩
        gi_wp2
        go_roundw
        case rel => exact ⟨k + 1, pre, by omega, by go_num, hpre', hJs, HQ.out⟩
        case measure => simp [intOf]; omega
      · obtain ⟨fn, tmps, assign, body, hy, hR⟩ := hY pre ⟨v, hm⟩ wr hJs (by
          have h1 := congrArg List.length hpre.out
          have h2 : (restK xs i k).length ≤ k := by unfold restK; split <;> simp <;> omega
          rw [List.length_map] at h1; omega)
        dsimp only at hy
        have hpre' : Hid ((pre ++ [(⟨v, hm⟩ : InL xs)]).map (·.1) = restK xs i (k + 1)) := by
          show _ = _
          rw [restK_other (by rw [← hlen.out]; exact hlt) hki, List.map_append, hpre.out, HRV.out]; rfl
        have HR := Lib.hid hR
        have HQ := Lib.hid hq
        have hb : ((k : Int) != (i : Int)) = true := by simp; omega
        clear hR hq hJs
        gi_wp2
        refine HR.out.mono ?_
        rintro e W3 (⟨rfl, hJ3, hk3⟩ | ⟨rfl, hJx3⟩)
        · have HQ3 := Lib.hid (hk3 HQ.out)
          clear hk3
          gi_wp2
          go_roundw
          case rel => exact ⟨k + 1, pre ++ [⟨v, hm⟩], by omega, by go_num, hpre', hJ3, HQ3.out⟩
          case measure => simp [intOf]; omega
        · gi_wp2
          refine bodyPost_ret (results_none rfl _ _ _) rfl ?_
          exact ⟨⟨_, rfl⟩, .inr ⟨_, trivial, hJx3⟩⟩
    · obtain rfl : k = len := by omega
      gi_wp2
      go_end0
      exact ⟨⟨_, rfl⟩, .inl ⟨pre, hpre.out, hJs⟩⟩

theorem others_any (a : Option Addr) (len cap i : Nat) (w : World) :
    Calls Try.prog 43 #[.slice a len cap, .int .i64 i] w fun e w' => e = .returned (.func (.func 50) #[] #[.pointer (some ⟨w.heap.size, 0, none⟩), .pointer (some ⟨w.heap.size + 1, 0, none⟩)]) ∧ w' = (w.alloc (.cells #[.slice a len cap] 22)).alloc (.cells #[.int .i64 i] 3) := by
  go_enter Try.func43, Try.ntmps43
  go_wp2
  go_ret
  exact ⟨rfl, rfl⟩

theorem others_stops (n : Nat) (hn : 1 ≤ n) (Bx Bi i : Nat) (xs : List Int) (a : Option Addr) (cap : Nat) (hreach : xs.length ≤ 140737488355328) (hi : i < xs.length) (w : World) (hQ : OthR Bx Bi i xs a cap w) :
    SeqStopsK Fence.wide n Try.prog 50 #[.pointer (some ⟨Bx, 0, none⟩), .pointer (some ⟨Bi, 0, none⟩)] (fun x : InL xs => #[Value.int .i64 x.1]) (fun A B => OthR Bx Bi i xs a cap A → OthR Bx Bi i xs a cap B)
      (fun ys => ys.map (·.1) = rest xs i) (fun _ => True) xs.length w := fun l J Jx W hW _ _ hY h0 => by
  rw [← restK_all hi]
  exact others1_in n hn l Bx Bi i xs a xs.length cap (Lib.hid rfl) hreach J Jx hY W (hQ.of_cells fun p v h => by rw [hW.cell (cell_lt h)]; exact h) h0
end Go.Proofs.Ytpohhgbmdgjipaa
