
/- The walk of CodecCut. -/
import Derived.Test.YtkpdjeiocdppoaaCAwk
import Derived.Test.YtkpdjeiocdppoaaCPts
import Derived.Test.YtkpdjeiocdppoaaCRns
import Derived.Test.YtkpdjeiocdppoaaVMa
import Derived.Test.YtkpdjeiocdppoaaPow
namespace Go.Proofs.Ytkpdjeiocdppoaa
open Go.RowKit
set_option linter.unusedVariables false

theorem cut_nil (A : ByteArray) (k : Nat) : (A.extract 0 k).data.toList = A.data.toList.take k := by
  have h := cut_toList A 0 k
  rw [Nat.zero_add] at h
  rw [← h, List.drop_zero]
theorem text_cut (A : ByteArray) (s : List UInt8) (hs : s.length ≤ 300) (hA : A.data.toList = gtxt s) (k : Nat) (hk : k < A.size) (w : World) :
    Calls Try.prog 22 #[.string (A.extract 0 k), .int .i64 0] w fun e w' => e = .returned (.tuple #[.string ⟨#[]⟩, .int .i64 0, .int .i64 5]) ∧ w = w' := by
  have hl := gtxt_len s (by omega)
  rw [Lib.size_eq, hA] at hk
  have hz : (A.extract 0 k).size ≤ 1000000000 := by
    rw [Lib.size_eq, cut_nil, List.length_take]
    omega
  have h := text_any (A.extract 0 k) 0 w hz
  rw [cut_nil, hA, txtR_cut s (by omega) k hk] at h
  exact h
theorem ints_cut (B : ByteArray) (l : List Int) (h64 : ∀ x ∈ l, in64 x) (hl : l.length ≤ 60) (hB : B.data.toList = Vi.grp (Vi.zz (l.length : Int)) ++ gnums l) (k : Nat) (hk : k < B.size) (w : World) :
    Calls Try.prog 24 #[.string (B.extract 0 k), .int .i64 0] w fun e w' => ∃ a c, e = .returned (.tuple #[.slice a 0 c, .int .i64 0, .int .i64 5]) ∧ Below w.heap.size w w' := by
  have hg := gnums_len l h64
  have hg1 := Vi.grp_len10 (Vi.zz_lt (l.length : Int) (by omega))
  rw [Lib.size_eq, hB] at hk
  have hk2 := hk
  rw [List.length_append] at hk2
  have hz : (B.extract 0 k).size ≤ 1000000000 := by
    rw [Lib.size_eq, cut_nil, List.length_take]
    omega
  have h := ints_any (B.extract 0 k) 0 w hz
  rw [cut_nil, hB, intsR_cut l h64 (by omega) k hk] at h
  refine h.mono ?_
  rintro e w' ⟨v, rfl, hi, hb⟩
  obtain ⟨a, c, rfl, _, _⟩ := hi
  exact ⟨a, c, rfl, hb⟩

set_option maxRecDepth 100000 in
set_option maxHeartbeats 8000000 in
theorem codecCut_walk (s : ByteArray) (v : Value) (l : List Int) (cut : Int) (w : World) (hs : s.size ≤ 140737488355328) (hv : Ints w v l) (h64 : ∀ x ∈ l, in64 x) (hc : in64 cut) :
    Calls Try.prog 7 #[.string s, v, .int .i64 cut] w fun e w' => e = .returned (.bool true) ∧ Below w.heap.size w w' := by
  obtain ⟨aa, cp, rfl, hll, -⟩ := id hv
  obtain ⟨n, hn⟩ : ∃ n, l.length = n := ⟨_, rfl⟩
  obtain ⟨N, hN⟩ : ∃ N, s.size = N := ⟨_, rfl⟩
  rw [hn] at hv hll ⊢
  by_cases h1 : N ≤ 300
  · have h1' : decide ((300 : Int) < (N : Int)) = false := decide_eq_false (by omega)
    by_cases h2 : n ≤ 60
    · have h2' : decide ((60 : Int) < (n : Int)) = false := decide_eq_false (by omega)
      have hsl : s.data.toList.length = N := by rw [← Lib.size_eq]; exact hN
      obtain ⟨A, hA⟩ : ∃ A : ByteArray, (⟨(gtxt s.data.toList).toArray⟩ : ByteArray) = A := ⟨_, rfl⟩
      have hAl : A.data.toList = gtxt s.data.toList := by rw [← hA]
      obtain ⟨B, hB⟩ : ∃ B : ByteArray, (⟨(Vi.grp (Vi.zz (n : Int)) ++ gnums l).toArray⟩ : ByteArray) = B := ⟨_, rfl⟩
      have hBl : B.data.toList = Vi.grp (Vi.zz (l.length : Int)) ++ gnums l := by rw [← hB, hn]
      have HPT := putText_any ⟨#[]⟩ s w (by decide) (by omega)
      have HPT : Hid (Calls Try.prog 12 #[.string ⟨#[]⟩, .string s] w fun e w' => e = .returned (.string A) ∧ Below w.heap.size w w') := by
        subst hA
        exact HPT
      have HPI : Hid (∀ w1, Ints w1 (.slice aa n cp) l → Calls Try.prog 14 #[.string ⟨#[]⟩, .slice aa n cp] w1 fun e w' => e = .returned (.string B) ∧ Below w1.heap.size w1 w') := fun w1 hi => by
        have h := putInts_any ⟨#[]⟩ aa n cp l w1 hi (Lib.hid hn.symm) (by omega) (Lib.hid h64) (by decide)
        subst hB
        exact h
      have hap : 0 < A.size := by
        rw [Lib.size_eq, hAl]; unfold gtxt; rw [List.length_append]
        have := Vi.grp_pos (Vi.zz (s.data.toList.length : Int)); omega
      have hbp : 0 < B.size := by
        rw [Lib.size_eq, hBl, List.length_append]
        have := Vi.grp_pos (Vi.zz (l.length : Int)); omega
      have hau : A.size ≤ 310 := by
        rw [Lib.size_eq, hAl]
        have := gtxt_len s.data.toList (by omega)
        omega
      have hbu : B.size ≤ 610 := by
        have hg := gnums_len l h64
        have hg1 := Vi.grp_len10 (Vi.zz_lt (l.length : Int) (by omega))
        rw [Lib.size_eq, hBl, List.length_append]
        omega
      obtain ⟨ka, hka⟩ : ∃ k : Nat, cut % (A.size : Int) = (k : Int) := ⟨(cut % (A.size : Int)).toNat, by
        have := Int.emod_nonneg cut (show (A.size : Int) ≠ 0 by omega)
        omega⟩
      have hka1 : ka < A.size := by
        have := Int.emod_lt_of_pos cut (show 0 < (A.size : Int) by omega)
        omega
      obtain ⟨kb, hkb⟩ : ∃ k : Nat, cut % (B.size : Int) = (k : Int) := ⟨(cut % (B.size : Int)).toNat, by
        have := Int.emod_nonneg cut (show (B.size : Int) ≠ 0 by omega)
        omega⟩
      have hkb1 : kb < B.size := by
        have := Int.emod_lt_of_pos cut (show 0 < (B.size : Int) by omega)
        omega
      have HMA := fun w => mod_any cut (A.size : Int) w (by omega) (by omega)
      have HMB := fun w => mod_any cut (B.size : Int) w (by omega) (by omega)
      rw [hka] at HMA
      rw [hkb] at HMB
      have HTC := Lib.hid (fun w => text_cut A s.data.toList (by omega) hAl ka hka1 w)
      have HIC := Lib.hid (fun w => ints_cut B l h64 (by omega) hBl kb hkb1 w)
      obtain ⟨NA, hNA⟩ : ∃ k, A.size = k := ⟨_, rfl⟩
      obtain ⟨NB, hNB⟩ : ∃ k, B.size = k := ⟨_, rfl⟩
      rw [hNA] at HMA hka1 hap
      rw [hNB] at HMB hkb1 hbp
      have HMA := Lib.hid HMA
      have HMB := Lib.hid HMB
      have z1 : ((NA : Int) == 0) = false := by simp only [beq_eq_false_iff_ne]; omega
      have z2 : ((NB : Int) == 0) = false := by simp only [beq_eq_false_iff_ne]; omega
      have z3 : (ka : Int) ≤ (NA : Int) := by omega
      have z4 : (kb : Int) ≤ (NB : Int) := by omega
      have HS := Lib.hid hv
      clear h1 h2 hka hkb hAl hBl hA hB hap hbp hau hbu hv h64 hn hc
      go_enter Try.func7, Try.ntmps7
      go_wp2_with fail
      refine HPT.out.mono ?_
      rintro e w1 ⟨rfl, hb1⟩
      have HB1 := Lib.hid hb1
      have HS1 := Lib.hid (HS.out.below (Nat.le_refl _) hb1)
      have hs1 := hb1.size
      clear hb1 HPT HS
      go_wp2_with fail
      refine (HPI.out w1 HS1.out).mono ?_
      rintro e w2 ⟨rfl, hb2⟩
      have HB2 := Lib.hid (HB1.out.trans (hb2.mono hs1))
      have hs2 : w.heap.size ≤ w2.heap.size := HB2.out.size
      clear hb2 HB1 HPI HS1
      go_wp2_with fail
      refine (HMA.out w2).mono ?_
      rintro e w3 ⟨rfl, rfl⟩
      go_wp2_with fail
      refine (HTC.out w2).mono ?_
      rintro e w3 ⟨rfl, rfl⟩
      go_wp2_with fail
      refine (HMB.out w2).mono ?_
      rintro e w3 ⟨rfl, rfl⟩
      go_wp2_with fail
      refine (HIC.out w2).mono ?_
      rintro e w3 ⟨ay, cy, rfl, hb3⟩
      have HB3 := Lib.hid (HB2.out.trans (hb3.mono hs2))
      have hs3 : w.heap.size ≤ w3.heap.size := HB3.out.size
      clear hb3 HB2
      go_wp2_with fail
      refine (awake4_any w3).mono ?_
      rintro e w4 ⟨rfl, hb4⟩
      have HB4 := Lib.hid (HB3.out.trans (hb4.mono hs3))
      clear hb4 HB3
      go_wp2
      go_ret
      exact ⟨rfl, HB4.out⟩
    · have h2' : decide ((60 : Int) < (n : Int)) = true := decide_eq_true (by omega)
      clear h1 h2 hv h64 hn
      go_enter Try.func7, Try.ntmps7
      go_wp2_with fail
      refine (awake4_any w).mono ?_
      rintro e w1 ⟨rfl, hb1⟩
      have HB1 := Lib.hid hb1
      clear hb1
      go_wp2
      go_ret
      exact ⟨rfl, HB1.out⟩
  · have h1' : decide ((300 : Int) < (N : Int)) = true := decide_eq_true (by omega)
    clear h1 hv h64 hn
    go_enter Try.func7, Try.ntmps7
    go_wp2_with fail
    refine (awake4_any w).mono ?_
    rintro e w1 ⟨rfl, hb1⟩
    have HB1 := Lib.hid hb1
    clear hb1
    go_wp2
    go_ret
    exact ⟨rfl, HB1.out⟩
end Go.Proofs.Ytkpdjeiocdppoaa
