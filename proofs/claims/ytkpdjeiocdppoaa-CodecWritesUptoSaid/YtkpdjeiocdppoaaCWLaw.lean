
/- The walk of CodecWrites. -/
import Derived.Test.YtkpdjeiocdppoaaCAwk
import Derived.Test.YtkpdjeiocdppoaaCPts
namespace Go.Proofs.Ytkpdjeiocdppoaa
open Go.RowKit
set_option linter.unusedVariables false

theorem row_ints {w : World} {g n : Nat} {l : List Int} (hn : l.length = n) (hs : n ≤ 1000) (h : ∀ i, i < n → w.cell? ⟨g, i, none⟩ = some (.int .i64 (l.getD i 0))) : Ints w (.slice (some ⟨g, 0, none⟩) n n) l := by
  subst hn
  exact ⟨_, _, rfl, by omega, fun _ => ⟨g, 0, rfl, fun i hi => by rw [Nat.zero_add]; exact h i hi⟩⟩

set_option maxRecDepth 100000 in
set_option maxHeartbeats 16000000 in
theorem codecWrites_walk (b : ByteArray) (n : Int) (s : ByteArray) (v : Value) (l : List Int) (vm : Value) (m : List ByteArray) (w : World) (hb : b.size ≤ 140737488355328) (hn : in64 n) (hs : s.size ≤ 140737488355328) (hv : Ints w v l) (h64 : ∀ x ∈ l, in64 x) (hm : Strs w vm m) (hms : ∀ x ∈ m, x.size ≤ 1048576) :
    Calls Try.prog 3 #[.string b, .int .i64 n, .string s, v, vm] w fun e w' => e = .returned (.bool true) ∧ Below w.heap.size w w' := by
  obtain ⟨av, cv, rfl, hll, -⟩ := id hv
  obtain ⟨am, cm, rfl, hml, -⟩ := id hm
  obtain ⟨nl, hnl⟩ : ∃ n, l.length = n := ⟨_, rfl⟩
  obtain ⟨nm, hnm⟩ : ∃ n, m.length = n := ⟨_, rfl⟩
  obtain ⟨B, hB⟩ : ∃ N, b.size = N := ⟨_, rfl⟩
  obtain ⟨N, hN⟩ : ∃ N, s.size = N := ⟨_, rfl⟩
  rw [hnl] at hv hll ⊢
  rw [hnm] at hm hml ⊢
  rw [hB] at hb
  rw [hN] at hs
  have awk := fun (h : True) => awake4_any w
  by_cases h1 : B + N ≤ 1000
  · have h1' : decide ((1000 : Int) < (B : Int) + (N : Int)) = false := decide_eq_false (by omega)
    by_cases h2 : nl ≤ 100
    · have h2' : decide ((100 : Int) < (nl : Int)) = false := decide_eq_false (by omega)
      by_cases h3 : nm ≤ 40
      · have h3' : decide ((40 : Int) < (nm : Int)) = false := decide_eq_false (by omega)
        obtain ⟨T, hT⟩ : ∃ T : ByteArray, (⟨(b.data.toList ++ gtxt s.data.toList).toArray⟩ : ByteArray) = T := ⟨_, rfl⟩
        obtain ⟨I, hI⟩ : ∃ T : ByteArray, (⟨(b.data.toList ++ Vi.grp (Vi.zz (nl : Int)) ++ gnums l).toArray⟩ : ByteArray) = T := ⟨_, rfl⟩
        obtain ⟨M, hM⟩ : ∃ T : ByteArray, (⟨(b.data.toList ++ Vi.grp (Vi.zz (nm : Int)) ++ gtxts m).toArray⟩ : ByteArray) = T := ⟨_, rfl⟩
        have PT := fun w => putText_any b s w (by omega) (by omega)
        have RT := fun w => refPutText_any b s w (by omega) (by omega)
        have PI := fun w (h : Ints w (.slice av nl cv) l) => putInts_any b av nl cv l w h (Lib.hid hnl.symm) (by omega) (Lib.hid h64) (by omega)
        have RI := fun w (h : Ints w (.slice av nl cv) l) => refPutInts_any b av nl cv l w h (Lib.hid hnl.symm) (by omega) (Lib.hid h64) (by omega)
        have PM := fun w (h : Strs w (.slice am nm cm) m) => putTexts_any b am nm cm m w h (Lib.hid hnm.symm) (by omega) (Lib.hid fun x hx => by have := hms x hx; omega) (by omega)
        have RM := fun w (h : Strs w (.slice am nm cm) m) => refPutTexts_any b am nm cm m w h (Lib.hid hnm.symm) (by omega) (Lib.hid fun x hx => by have := hms x hx; omega) (by omega)
        rw [hT] at PT RT
        rw [hI] at PI RI
        rw [hM] at PM RM
        have PT := Lib.hid PT
        have RT := Lib.hid RT
        have PI := Lib.hid PI
        have RI := Lib.hid RI
        have PM := Lib.hid PM
        have RM := Lib.hid RM
        have PN : Hid (∀ x w, in64 x → ∃ r : ByteArray, (Calls Try.prog 10 #[.string b, .int .i64 x] w fun e w' => e = .returned (.string r) ∧ Below w.heap.size w w') ∧ ∀ w, Calls Try.prog 11 #[.string b, .int .i64 x] w fun e w' => e = .returned (.string r) ∧ Below w.heap.size w w') :=
          fun x w hx => ⟨_, putInt_any b x w (by omega) hx, fun w => refPutInt_any b x w (by omega) hx⟩
        obtain ⟨x1, hx1⟩ : ∃ x : Int, n / 256 = x := ⟨_, rfl⟩
        obtain ⟨x2, hx2⟩ : ∃ x : Int, n / 4294967296 = x := ⟨_, rfl⟩
        obtain ⟨x3, hx3⟩ : ∃ x : Int, n / 281474976710656 = x := ⟨_, rfl⟩
        obtain ⟨x4, hx4⟩ : ∃ x : Int, n / 72057594037927936 = x := ⟨_, rfl⟩
        have H64 : Hid (∀ x ∈ [n, x1, x2, x3, x4], in64 x) := fun x hx => by
          obtain ⟨h1, h2⟩ := hn
          simp only [List.mem_cons, List.not_mem_nil, or_false] at hx
          rcases hx with rfl | rfl | rfl | rfl | rfl
          all_goals (constructor <;> omega)
        have HV := Lib.hid hv
        have HM := Lib.hid hm
        clear hv hm hT hI hM hnl hnm h64 hms hn h1 h2 h3 awk
        obtain ⟨g0, hg0⟩ : ∃ g, w.heap.size = g := ⟨_, rfl⟩
        have HG0 := Lib.hid hg0
        rw [hg0]
        go_enter Try.func3, Try.ntmps3
        go_wp2_with fail
        have hba : Below g0 w (w.alloc (.cells #[.int .i64 n, .int .i64 x1, .int .i64 x2, .int .i64 x3, .int .i64 x4] 3)) := by
          rw [← HG0.out]; exact (Below.refl _ _).alloc (Nat.le_refl _) _
        have hca : (w.alloc (.cells #[.int .i64 n, .int .i64 x1, .int .i64 x2, .int .i64 x3, .int .i64 x4] 3)).heap[g0]? = some (.cells #[.int .i64 n, .int .i64 x1, .int .i64 x2, .int .i64 x3, .int .i64 x4] 3 (0, 0)) := by
          rw [← HG0.out]; exact heap_alloc_new _ _
        generalize w.alloc (.cells #[.int .i64 n, .int .i64 x1, .int .i64 x2, .int .i64 x3, .int .i64 x4] 3) = w0 at *
        have hs0 : g0 < w0.heap.size := (Array.getElem?_eq_some_iff.1 hca).1
        have HR : Hid (Ints w0 (.slice (some ⟨g0, 0, none⟩) 5 5) [n, x1, x2, x3, x4]) := row_ints rfl (by omega) (fun i hi => by
          simp only [World.cell?, hca]
          match i, hi with
          | 0, _ => rfl
          | 1, _ => rfl
          | 2, _ => rfl
          | 3, _ => rfl
          | 4, _ => rfl)
        have HB0 := Lib.hid hba
        have HV0 := Lib.hid (HV.out.below (Nat.le_of_eq HG0.out) hba)
        have HM0 := Lib.hid (HM.out.below (Nat.le_of_eq HG0.out) hba)
        have HW0 : Hid (Below w0.heap.size w0 w0) := Below.refl _ _
        obtain ⟨L, hL⟩ : ∃ L, [n, x1, x2, x3, x4] = L := ⟨_, rfl⟩
        have HLL : Hid (L.length = 5) := by show _ = _; rw [← hL]; rfl
        rw [hL] at HR H64
        clear hba hca HV HM hL hx1 hx2 hx3 hx4
        go_loopw [12, 41] (fun _ i wr => ∃ k : Nat, k ≤ 5 ∧ i = .int .i64 k ∧ Hid (Below w0.heap.size w0 wr)) (fun _ i _ => 5 - (intOf i).toNat)
        case atStart => exact ⟨0, by omega, rfl, HW0⟩
        case round =>
          obtain ⟨k, hk, rfl, HB⟩ := hrel
          by_cases hlt : k < 5
          · obtain ⟨bk, off, hbk, hcl⟩ := Ints.at' (HR.out.below (Nat.le_refl _) HB.out) hlt
            simp only [Option.some.injEq, Addr.mk.injEq, and_true] at hbk
            obtain ⟨rfl, rfl⟩ := hbk
            rw [Nat.zero_add] at hcl
            have hmem : L.getD k 0 ∈ L := by
              have hk2 : k < L.length := by have := HLL.out; omega
              rw [List.getD_eq_getElem?_getD, List.getElem?_eq_getElem hk2]
              exact List.getElem_mem hk2
            obtain ⟨r, hp, hq⟩ := PN.out _ wr (H64.out _ hmem)
            generalize L.getD k 0 = x at *
            have HP := Lib.hid hp
            have HQ := Lib.hid hq
            have hsr := HB.out.size
            clear hmem hp hq
            go_wp2_with fail
            refine HP.out.mono ?_
            rintro e w1 ⟨rfl, hb1⟩
            have HB1 := Lib.hid (HB.out.trans (hb1.mono hsr))
            have hs1 := HB1.out.size
            clear hb1 HB HP
            go_wp2_with fail
            refine (HQ.out w1).mono ?_
            rintro e w2 ⟨rfl, hb2⟩
            have HB2 := Lib.hid (HB1.out.trans (hb2.mono hs1))
            clear hb2 HB1 HQ
            go_wp2
            exact ⟨⟨k + 1, by omega, by go_num, HB2⟩, by simp [intOf]; omega⟩
          · have HV1 := Lib.hid (HV0.out.below (Nat.le_refl _) HB.out)
            have HM1 := Lib.hid (HM0.out.below (Nat.le_refl _) HB.out)
            have HB1 := Lib.hid (HB0.out.trans (HB.out.mono (Nat.le_of_lt hs0)))
            have hs1 : g0 ≤ wr.heap.size := by have := HB.out.size; omega
            clear HB HV0 HM0 HB0 HR
            go_wp2_with fail
            refine (PT.out wr).mono ?_
            rintro e w1 ⟨rfl, hb1⟩
            have HV2 := Lib.hid (HV1.out.below (Nat.le_refl _) hb1)
            have HM2 := Lib.hid (HM1.out.below (Nat.le_refl _) hb1)
            have HB2 := Lib.hid (HB1.out.trans (hb1.mono hs1))
            have hs2 : g0 ≤ w1.heap.size := by have := hb1.size; omega
            clear hb1 HB1 HV1 HM1
            go_wp2_with fail
            refine (RT.out w1).mono ?_
            rintro e w2 ⟨rfl, hb2⟩
            have HV3 := Lib.hid (HV2.out.below (Nat.le_refl _) hb2)
            have HM3 := Lib.hid (HM2.out.below (Nat.le_refl _) hb2)
            have HB3 := Lib.hid (HB2.out.trans (hb2.mono hs2))
            have hs3 : g0 ≤ w2.heap.size := by have := hb2.size; omega
            clear hb2 HB2 HV2 HM2
            go_wp2_with fail
            refine (PI.out w2 HV3.out).mono ?_
            rintro e w3 ⟨rfl, hb3⟩
            have HV4 := Lib.hid (HV3.out.below (Nat.le_refl _) hb3)
            have HM4 := Lib.hid (HM3.out.below (Nat.le_refl _) hb3)
            have HB4 := Lib.hid (HB3.out.trans (hb3.mono hs3))
            have hs4 : g0 ≤ w3.heap.size := by have := hb3.size; omega
            clear hb3 HB3 HV3 HM3
            go_wp2_with fail
            refine (RI.out w3 HV4.out).mono ?_
            rintro e w4 ⟨rfl, hb4⟩
            have HM5 := Lib.hid (HM4.out.below (Nat.le_refl _) hb4)
            have HB5 := Lib.hid (HB4.out.trans (hb4.mono hs4))
            have hs5 : g0 ≤ w4.heap.size := by have := hb4.size; omega
            clear hb4 HB4 HV4 HM4
            go_wp2_with fail
            refine (PM.out w4 HM5.out).mono ?_
            rintro e w5 ⟨rfl, hb5⟩
            have HM6 := Lib.hid (HM5.out.below (Nat.le_refl _) hb5)
            have HB6 := Lib.hid (HB5.out.trans (hb5.mono hs5))
            have hs6 : g0 ≤ w5.heap.size := by have := hb5.size; omega
            clear hb5 HB5 HM5
            go_wp2_with fail
            refine (RM.out w5 HM6.out).mono ?_
            rintro e w6 ⟨rfl, hb6⟩
            have HB7 := Lib.hid (HB6.out.trans (hb6.mono hs6))
            have hs7 : g0 ≤ w6.heap.size := by have := hb6.size; omega
            clear hb6 HB6 HM6
            go_wp2_with fail
            refine (awake4_any w6).mono ?_
            rintro e w7 ⟨rfl, hb7⟩
            have HB8 := Lib.hid (HB7.out.trans (hb7.mono hs7))
            clear hb7 HB7
            go_wp2
            go_ret
            exact ⟨rfl, HB8.out⟩
      · have h3' : decide ((40 : Int) < (nm : Int)) = true := decide_eq_true (by omega)
        have HA := Lib.hid (awk trivial)
        clear h1 h2 h3 hv hm h64 hms hnl hnm awk
        go_enter Try.func3, Try.ntmps3
        go_wp2_with fail
        refine HA.out.mono ?_
        rintro e w1 ⟨rfl, hb1⟩
        have HB1 := Lib.hid hb1
        clear hb1
        go_wp2
        go_ret
        exact ⟨rfl, HB1.out⟩
    · have h2' : decide ((100 : Int) < (nl : Int)) = true := decide_eq_true (by omega)
      have HA := Lib.hid (awk trivial)
      clear h1 h2 hv hm h64 hms hnl hnm awk
      go_enter Try.func3, Try.ntmps3
      go_wp2_with fail
      refine HA.out.mono ?_
      rintro e w1 ⟨rfl, hb1⟩
      have HB1 := Lib.hid hb1
      clear hb1
      go_wp2
      go_ret
      exact ⟨rfl, HB1.out⟩
  · have h1' : decide ((1000 : Int) < (B : Int) + (N : Int)) = true := decide_eq_true (by omega)
    have HA := Lib.hid (awk trivial)
    clear h1 hv hm h64 hms hnl hnm awk
    go_enter Try.func3, Try.ntmps3
    go_wp2_with fail
    refine HA.out.mono ?_
    rintro e w1 ⟨rfl, hb1⟩
    have HB1 := Lib.hid hb1
    clear hb1
    go_wp2
    go_ret
    exact ⟨rfl, HB1.out⟩
end Go.Proofs.Ytkpdjeiocdppoaa
