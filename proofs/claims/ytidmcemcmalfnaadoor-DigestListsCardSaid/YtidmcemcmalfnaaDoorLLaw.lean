
/- The walk of DigestLists. -/
import Derived.Test.YtidmcemcmalfnaaDoorRLst
import Derived.Test.YtidmcemcmalfnaaDoorSAwk
namespace Go.Proofs.YtidmcemcmalfnaaDoor
open Go.RowKit
set_option linter.unusedVariables false

/-- The lengths of strings together, above a number. -/
def tot (c : Nat) (l : List ByteArray) : Nat := c + (l.map ByteArray.size).sum
theorem tot_next (c : Nat) (l : List ByteArray) (k : Nat) (hk : k < l.length) : tot c (l.take k) + (l.getD k ByteArray.empty).size = tot c (l.take (k + 1)) := by
  unfold tot
  rw [List.take_add_one, List.map_append, List.sum_append, List.getElem?_eq_getElem hk]
  simp [List.getElem?_eq_getElem hk]
  omega
theorem tot_le (c : Nat) (l : List ByteArray) (B : Nat) (h : ∀ x ∈ l, x.size ≤ B) : tot c l ≤ c + B * l.length := by
  unfold tot
  induction l with
  | nil => simp
  | cons x r ih =>
    have h1 := ih (fun y hy => h y (List.mem_cons_of_mem _ hy))
    have h2 := h x (List.mem_cons_self ..)
    rw [List.map_cons, List.sum_cons, List.length_cons, Nat.mul_add, Nat.mul_one]
    omega
theorem le_tot (c : Nat) (l : List ByteArray) (x : ByteArray) (h : x ∈ l) : x.size ≤ tot c l := by
  unfold tot
  induction l with
  | nil => cases h
  | cons y r ih =>
    rw [List.map_cons, List.sum_cons]
    rcases List.mem_cons.1 h with rfl | h
    · omega
    · have := ih h
      omega

set_option maxRecDepth 100000 in
set_option maxHeartbeats 8000000 in
theorem digestLists_walk (a b : ByteArray) (s : Value) (l : List ByteArray) (w : World) (ht : Tabs w) (ha : a.size ≤ 140737488355328) (hb : b.size ≤ 140737488355328) (hs : Strs w s l) :
    Calls Tryd.prog 4 #[.string a, .string b, s] w fun e w' => e = .returned (.bool true) ∧ Below w.heap.size w w' := by
  have hT := ht.size
  have HT := Lib.hid ht
  have HS := Lib.hid hs
  obtain ⟨aa, c, rfl, hlen, hszs, -⟩ := hs
  obtain ⟨n, hn⟩ : ∃ n, n = l.length := ⟨_, rfl⟩
  rw [← hn] at HS hlen ⊢
  have HN := Lib.hid hn
  have HZS := Lib.hid hszs
  obtain ⟨C, hC⟩ : ∃ C, a.size + b.size = C := ⟨_, rfl⟩
  have HTT : ∀ k, k ≤ n → n ≤ 50 → tot C (l.take k) ≤ 8000000000000000 := fun k hk hn50 => by
    have h := tot_le C (l.take k) 140737488355328 (fun x hx => hszs x (List.mem_of_mem_take hx))
    rw [List.length_take] at h
    have : min k l.length ≤ 50 := by omega
    have : 140737488355328 * min k l.length ≤ 140737488355328 * 50 := Nat.mul_le_mul_left _ this
    omega
  have HTT := Lib.hid HTT
  obtain ⟨z0, hz0⟩ : ∃ z0 : Int, IntKind.i64.wrap ((a.size : Int) + (b.size : Int)) = z0 := ⟨_, rfl⟩
  have HZ0 : Hid (n ≤ 50 → z0 = ((tot C (l.take 0) : Nat) : Int)) := fun _ => by
    rw [← hz0, IntKind.wrap_i64, List.take_zero]
    simp only [tot, List.map_nil, List.sum_nil]
    omega
  have HC := Lib.hid hC
  clear ht ha hb hn hszs hC
  go_enter Tryd.func4, Tryd.ntmps4
  go_wp2_with fail
  go_loop [7, 9, 17] (fun v _ i => ∃ (k : Nat) (z : Int), k ≤ n ∧ v = .int .i64 z ∧ i = .int .i64 k ∧ Hid (n ≤ 50 → z = ((tot C (l.take k) : Nat) : Int))) (fun _ _ i => n - (intOf i).toNat)
  case atStart => exact ⟨0, z0, by omega, rfl, rfl, HZ0⟩
  case round =>
    obtain ⟨k, z, hk, rfl, rfl, HZ⟩ := hrel
    clear hz0
    by_cases hlt : k < n
    · obtain ⟨bk, off, rfl, hcl⟩ := HS.out.at hlt
      have hnx := tot_next C l k (by have := HN.out; omega)
      obtain ⟨x, hxx⟩ : ∃ x, l.getD k ByteArray.empty = x := ⟨_, rfl⟩
      rw [hxx] at hcl hnx
      obtain ⟨z1, hz1⟩ : ∃ z1 : Int, IntKind.i64.wrap (z + (x.size : Int)) = z1 := ⟨_, rfl⟩
      have HZ1 : Hid (n ≤ 50 → z1 = ((tot C (l.take (k + 1)) : Nat) : Int)) := fun h50 => by
        have h1 := HTT.out (k + 1) (by omega) h50
        rw [← hz1, IntKind.wrap_i64, HZ.out h50, ← hnx]
        rw [← hnx] at h1
        omega
      clear hnx hxx HZ
      go_wp2
      go_round
      case rel => exact ⟨k + 1, z1, by omega, rfl, by go_num, HZ1⟩
      case measure => simp [intOf]; omega
    · by_cases hz : 3000 < z
      · have hzd : decide ((3000 : Int) < z) = true := decide_eq_true hz
        clear hz
        go_wp2_with (go_at_call 7; refine (awake3_any _ HT.out).mono ?_; rintro e w6 ⟨rfl, hb6⟩)
        go_ret
        exact ⟨rfl, hb6⟩
      · have hzd : decide ((3000 : Int) < z) = false := decide_eq_false hz
        by_cases h50 : n ≤ 50
        · have hnd : decide ((50 : Int) < (n : Int)) = false := decide_eq_false (by omega)
          have hzt := HZ.out h50
          rw [List.take_of_length_le (by have := HN.out; omega)] at hzt
          have hCl : C ≤ 3000 := by have : C ≤ tot C l := by { unfold tot; omega }; omega
          have HX : Hid (∀ x ∈ l, x.size ≤ 3000) := fun x hx => by have := le_tot C l x hx; omega
          have has : a.size ≤ 3000 := by have := HC.out; omega
          have hbs : b.size ≤ 3000 := by have := HC.out; omega
          have HAS := Lib.hid has
          have HBS := Lib.hid hbs
          have H50 := Lib.hid h50
          have HP1 : Hid (∀ w, Tabs w → _) := Lib.hid (fun w (ht : Tabs w) => pairP_any a b w ht (by omega) (by omega))
          have HP2 := Lib.hid (fun w => refPair_any a b w (by omega) (by omega))
          obtain ⟨P, hP⟩ : ∃ P : ByteArray, (⟨(Sha.sum (([1] ++ txt a.data.toList) ++ txt b.data.toList)).toArray⟩ : ByteArray) = P := ⟨_, rfl⟩
          rw [hP] at HP1 HP2
          have HL1 := Lib.hid (fun w (ht : Tabs w) (hs : Strs w (.slice aa n c) l) => listP_any aa n c l w ht hs HN h50 HX)
          have HL2 := Lib.hid (fun w (hs : Strs w (.slice aa n c) l) => refList_any aa n c l w hs HN h50 HX)
          obtain ⟨L, hL⟩ : ∃ L : ByteArray, (⟨(Sha.sum (([2] ++ hf n 4) ++ txts l)).toArray⟩ : ByteArray) = L := ⟨_, rfl⟩
          rw [hL] at HL1 HL2
          clear hz h50 hzt hCl has hbs hP hL HZ
          go_wp2_with fail
          refine (HP1.out w HT.out).mono ?_
          rintro e w1 ⟨rfl, hb1⟩
          have HB1 := Lib.hid hb1
          have HT1 := Lib.hid (HT.out.below hb1 hT)
          have hs1 := hb1.size
          clear hb1
          go_wp2_with fail
          refine (HP2.out w1).mono ?_
          rintro e w2 ⟨rfl, hb2⟩
          have HB2 := Lib.hid (HB1.out.trans (hb2.mono hs1))
          have HT2 := Lib.hid (HT1.out.below hb2 (by omega))
          have hs2 : w.heap.size ≤ w2.heap.size := HB2.out.size
          clear hb2 HB1 HT1
          have HS2 := Lib.hid (HS.out.below (Nat.le_refl _) HB2.out)
          go_wp2_with fail
          refine (HL1.out w2 HT2.out HS2.out).mono ?_
          rintro e w3 ⟨rfl, hb3⟩
          have HB3 := Lib.hid (HB2.out.trans (hb3.mono hs2))
          have HT3 := Lib.hid (HT2.out.below hb3 (by omega))
          have hs3 : w.heap.size ≤ w3.heap.size := HB3.out.size
          clear hb3 HB2 HT2 HS2
          have HS3 := Lib.hid (HS.out.below (Nat.le_refl _) HB3.out)
          go_wp2_with fail
          refine (HL2.out w3 HS3.out).mono ?_
          rintro e w4 ⟨rfl, hb4⟩
          have HB4 := Lib.hid (HB3.out.trans (hb4.mono hs3))
          have HT4 := Lib.hid (HT3.out.below hb4 (by omega))
          have hs4 : w.heap.size ≤ w4.heap.size := HB4.out.size
          clear hb4 HB3 HT3 HS3
          go_wp2_with (go_at_call 7; refine (awake3_any _ HT4.out).mono ?_; rintro e w6 ⟨rfl, hb6⟩)
          go_ret
          exact ⟨rfl, HB4.out.trans (hb6.mono hs4)⟩
        · have hnd : decide ((50 : Int) < (n : Int)) = true := decide_eq_true (by omega)
          clear hz h50
          go_wp2_with (go_at_call 7; refine (awake3_any _ HT.out).mono ?_; rintro e w6 ⟨rfl, hb6⟩)
          go_ret
          exact ⟨rfl, hb6⟩
end Go.Proofs.YtidmcemcmalfnaaDoor
