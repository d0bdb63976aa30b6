
/- The walk of CodecBack. -/
import Derived.Test.YtkpdjeiocdppoaaCAwk
import Derived.Test.YtkpdjeiocdppoaaCPts
import Derived.Test.YtkpdjeiocdppoaaCRts
import Derived.Test.YtkpdjeiocdppoaaVMa
namespace Go.Proofs.Ytkpdjeiocdppoaa
open Go.RowKit
set_option linter.unusedVariables false

/-- What was written lies at q in D, and r is the place behind it. -/
def LiesAt (D : ByteArray) (G : List UInt8) (q r : Nat) : Prop := ∃ pre post, D.data.toList = pre ++ (G ++ post) ∧ pre.length = q ∧ r = q + G.length
theorem int_at {D : ByteArray} {n : Int} {q r : Nat} (h : LiesAt D (Vi.grp (Vi.zz n)) q r) (hn : in64 n) (hD : D.size ≤ 1000000000) (w : World) :
    Calls Try.prog 20 #[.string D, .int .i64 (q : Int)] w fun e w' => e = .returned (.tuple #[.int .i64 n, .int .i64 (r : Int), .int .i64 0]) ∧ w = w' := by
  obtain ⟨pre, post, hd, rfl, rfl⟩ := h
  have h := int_any D (pre.length : Int) w hD
  rw [hd, intR_back pre post n hn] at h
  exact h
theorem text_at {D s : ByteArray} {q r : Nat} (h : LiesAt D (gtxt s.data.toList) q r) (hs : s.size ≤ 1000000000) (hD : D.size ≤ 1000000000) (w : World) :
    Calls Try.prog 22 #[.string D, .int .i64 (q : Int)] w fun e w' => e = .returned (.tuple #[.string s, .int .i64 (r : Int), .int .i64 0]) ∧ w = w' := by
  obtain ⟨pre, post, hd, rfl, rfl⟩ := h
  have h := text_any D (pre.length : Int) w hD
  rw [hd, txtR_back pre post _ (by rw [← Lib.size_eq]; exact hs)] at h
  have e : (⟨s.data.toList.toArray⟩ : ByteArray) = s := by simp
  unfold triT at h
  simp only at h
  rw [e] at h
  exact h
theorem ints_at' {D : ByteArray} {l : List Int} {q r : Nat} (h : LiesAt D (Vi.grp (Vi.zz (l.length : Int)) ++ gnums l) q r) (h64 : ∀ x ∈ l, in64 x) (hl : l.length ≤ 2048) (hD : D.size ≤ 1000000000) (w : World) :
    Calls Try.prog 24 #[.string D, .int .i64 (q : Int)] w fun e w' => ∃ a c, e = .returned (.tuple #[.slice a l.length c, .int .i64 (r : Int), .int .i64 0]) ∧ Ints w' (.slice a l.length c) l ∧ Below w.heap.size w w' := by
  obtain ⟨pre, post, hd, rfl, rfl⟩ := h
  have h := ints_any D (pre.length : Int) w hD
  rw [hd, intsR_back pre post l h64 hl] at h
  refine h.mono ?_
  rintro e w' ⟨v, rfl, hi, hb⟩
  obtain ⟨a, c, rfl, _⟩ := id hi
  exact ⟨a, c, rfl, hi, hb⟩
theorem texts_at {D : ByteArray} {m : List ByteArray} {q r : Nat} (h : LiesAt D (Vi.grp (Vi.zz (m.length : Int)) ++ gtxts m) q r) (hm : ∀ x ∈ m, x.size ≤ 1000000000) (hl : m.length ≤ 256) (hD : D.size ≤ 1000000000) (w : World) :
    Calls Try.prog 26 #[.string D, .int .i64 (q : Int)] w fun e w' => ∃ a c, e = .returned (.tuple #[.slice a m.length c, .int .i64 (r : Int), .int .i64 0]) ∧ Strs w' (.slice a m.length c) m ∧ Below w.heap.size w w' := by
  obtain ⟨pre, post, hd, rfl, rfl⟩ := h
  have h := texts_any D (pre.length : Int) w hD
  rw [hd, textsR_back pre post m hm hl] at h
  refine h.mono ?_
  rintro e w' ⟨v, rfl, hi, hb⟩
  obtain ⟨a, c, rfl, _⟩ := id hi
  exact ⟨a, c, rfl, hi, hb⟩

set_option maxRecDepth 100000 in
set_option maxHeartbeats 16000000 in
theorem codecBack_walk (bf : ByteArray) (n : Int) (s : ByteArray) (v : Value) (l : List Int) (vm : Value) (m : List ByteArray) (af : ByteArray) (w : World) (hb : bf.size ≤ 140737488355328) (hn : in64 n) (hs : s.size ≤ 140737488355328) (hv : Ints w v l) (h64 : ∀ x ∈ l, in64 x) (hm : Strs w vm m) (hms : ∀ x ∈ m, x.size ≤ 1048576) (ha : af.size ≤ 140737488355328) :
    Calls Try.prog 5 #[.string bf, .int .i64 n, .string s, v, vm, .string af] w fun e w' => e = .returned (.bool true) ∧ Below w.heap.size w w' := by
  obtain ⟨av, cv, rfl, hll, -⟩ := id hv
  obtain ⟨am, cm, rfl, hml, -⟩ := id hm
  obtain ⟨nl, hnl⟩ : ∃ n, l.length = n := ⟨_, rfl⟩
  obtain ⟨nm, hnm⟩ : ∃ n, m.length = n := ⟨_, rfl⟩
  obtain ⟨B, hB⟩ : ∃ N, bf.size = N := ⟨_, rfl⟩
  obtain ⟨N, hN⟩ : ∃ N, s.size = N := ⟨_, rfl⟩
  obtain ⟨A, hA⟩ : ∃ N, af.size = N := ⟨_, rfl⟩
  rw [hnl] at hv hll ⊢
  rw [hnm] at hm hml ⊢
  rw [hB] at hb
  rw [hN] at hs
  rw [hA] at ha
  have awk := fun (h : True) => awake4_any w
  by_cases h1 : B + N + A ≤ 1000
  · have h1' : decide ((1000 : Int) < (B : Int) + (N : Int) + (A : Int)) = false := decide_eq_false (by omega)
    by_cases h2 : nl ≤ 100
    · have h2' : decide ((100 : Int) < (nl : Int)) = false := decide_eq_false (by omega)
      by_cases h3 : nm ≤ 40
      · have h3' : decide ((40 : Int) < (nm : Int)) = false := decide_eq_false (by omega)
        have gl1 := Vi.grp_len10 (Vi.zz_lt n hn)
        have gl2 := gtxt_len s.data.toList (by rw [← Lib.size_eq]; omega)
        rw [← Lib.size_eq, hN] at gl2
        have gl3 := Vi.grp_len10 (Vi.zz_lt (nl : Int) (by omega))
        have gl4 := gnums_len l h64
        rw [hnl] at gl4
        have gl5 := Vi.grp_len10 (Vi.zz_lt (nm : Int) (by omega))
        have gl6 := gtxts_len m 1048576 (by omega) hms
        rw [hnm] at gl6
        have hbl : bf.data.toList.length = B := by rw [← Lib.size_eq]; exact hB
        have hal : af.data.toList.length = A := by rw [← Lib.size_eq]; exact hA
        obtain ⟨P1, hP1⟩ : ∃ T : ByteArray, (⟨(bf.data.toList ++ Vi.grp (Vi.zz n)).toArray⟩ : ByteArray) = T := ⟨_, rfl⟩
        have hP1l : P1.data.toList = bf.data.toList ++ Vi.grp (Vi.zz n) := by rw [← hP1]
        have hP1s : P1.size ≤ 2000 := by rw [Lib.size_eq, hP1l, List.length_append]; omega
        obtain ⟨P2, hP2⟩ : ∃ T : ByteArray, (⟨(P1.data.toList ++ gtxt s.data.toList).toArray⟩ : ByteArray) = T := ⟨_, rfl⟩
        have hP2l : P2.data.toList = P1.data.toList ++ gtxt s.data.toList := by rw [← hP2]
        have hP2s : P2.size ≤ 4000 := by rw [Lib.size_eq, hP2l, List.length_append, ← Lib.size_eq]; omega
        obtain ⟨P3, hP3⟩ : ∃ T : ByteArray, (⟨(P2.data.toList ++ Vi.grp (Vi.zz (nl : Int)) ++ gnums l).toArray⟩ : ByteArray) = T := ⟨_, rfl⟩
        have hP3l : P3.data.toList = P2.data.toList ++ Vi.grp (Vi.zz (nl : Int)) ++ gnums l := by rw [← hP3]
        have hP3s : P3.size ≤ 6000 := by rw [Lib.size_eq, hP3l, List.length_append, List.length_append, ← Lib.size_eq]; omega
        obtain ⟨P4, hP4⟩ : ∃ T : ByteArray, (⟨(P3.data.toList ++ Vi.grp (Vi.zz (nm : Int)) ++ gtxts m).toArray⟩ : ByteArray) = T := ⟨_, rfl⟩
        have hP4l : P4.data.toList = P3.data.toList ++ Vi.grp (Vi.zz (nm : Int)) ++ gtxts m := by rw [← hP4]
        have hP4s : P4.size ≤ 100000000 := by rw [Lib.size_eq, hP4l, List.length_append, List.length_append, ← Lib.size_eq]; omega
        have hDl : (P4 ++ af).data.toList = bf.data.toList ++ (Vi.grp (Vi.zz n) ++ (gtxt s.data.toList ++ ((Vi.grp (Vi.zz (nl : Int)) ++ gnums l) ++ ((Vi.grp (Vi.zz (nm : Int)) ++ gtxts m) ++ af.data.toList)))) := by
          rw [cat_list, hP4l, hP3l, hP2l, hP1l]
          simp only [List.append_assoc]
        have hDs : (P4 ++ af).size ≤ 1000000000 := by
          rw [ByteArray.size_append]; omega
        have C1 := fun w => putInt_any bf n w (by omega) hn
        have C2 := fun w => putText_any P1 s w (by omega) (by omega)
        have C3 := fun w (h : Ints w (.slice av nl cv) l) => putInts_any P2 av nl cv l w h (Lib.hid hnl.symm) (by omega) (Lib.hid h64) (by omega)
        have C4 := fun w (h : Strs w (.slice am nm cm) m) => putTexts_any P3 am nm cm m w h (Lib.hid hnm.symm) (by omega) (Lib.hid fun x hx => by have := hms x hx; omega) (by omega)
        rw [hP1] at C1
        rw [hP2] at C2
        rw [hP3] at C3
        rw [hP4] at C4
        obtain ⟨q1, hq1⟩ : ∃ q, q = B + (Vi.grp (Vi.zz n)).length := ⟨_, rfl⟩
        obtain ⟨q2, hq2⟩ : ∃ q, q = q1 + (gtxt s.data.toList).length := ⟨_, rfl⟩
        obtain ⟨q3, hq3⟩ : ∃ q, q = q2 + (Vi.grp (Vi.zz (nl : Int)) ++ gnums l).length := ⟨_, rfl⟩
        obtain ⟨q4, hq4⟩ : ∃ q, q = q3 + (Vi.grp (Vi.zz (nm : Int)) ++ gtxts m).length := ⟨_, rfl⟩
        have C5 := fun w => int_at (D := P4 ++ af) (q := B) (r := q1) ⟨bf.data.toList, _, hDl, hbl, hq1⟩ hn hDs w
        have C6 := fun w => text_at (D := P4 ++ af) (s := s) (q := q1) (r := q2) ⟨bf.data.toList ++ Vi.grp (Vi.zz n), (Vi.grp (Vi.zz (nl : Int)) ++ gnums l) ++ ((Vi.grp (Vi.zz (nm : Int)) ++ gtxts m) ++ af.data.toList), by rw [hDl]; simp only [List.append_assoc], by rw [List.length_append, hbl, hq1], hq2⟩ (by omega) hDs w
        have C7 := fun w => ints_at' (D := P4 ++ af) (l := l) (q := q2) (r := q3) ⟨bf.data.toList ++ Vi.grp (Vi.zz n) ++ gtxt s.data.toList, (Vi.grp (Vi.zz (nm : Int)) ++ gtxts m) ++ af.data.toList, by rw [hDl, hnl]; simp only [List.append_assoc], by rw [List.length_append, List.length_append, hbl, hq2, hq1], by rw [hq3, hnl]⟩ h64 (by omega) hDs w
        have C8 := fun w => texts_at (D := P4 ++ af) (m := m) (q := q3) (r := q4) ⟨bf.data.toList ++ Vi.grp (Vi.zz n) ++ gtxt s.data.toList ++ (Vi.grp (Vi.zz (nl : Int)) ++ gnums l), af.data.toList, by rw [hDl, hnm]; simp only [List.append_assoc], by rw [List.length_append, List.length_append, List.length_append, hbl, hq3, hq2, hq1], by rw [hq4, hnm]⟩ (fun x hx => by have := hms x hx; omega) (by omega) hDs w
        rw [hnl] at C7
        rw [hnm] at C8
        have hDn : (P4 ++ af).size = q4 + A := by
          rw [Lib.size_eq, hDl]
          simp only [List.length_append] at hq1 hq2 hq3 hq4 ⊢
          omega
        obtain ⟨DN, hDN⟩ : ∃ k, (P4 ++ af).size = k := ⟨_, rfl⟩
        obtain ⟨PN, hPN⟩ : ∃ k, P4.size = k := ⟨_, rfl⟩
        have hPA : PN + A = DN := by rw [← hDN, ByteArray.size_append, hPN, hA]
        have z1 : ((q4 : Int) != (DN : Int) - (A : Int)) = false := by
          simp only [bne_eq_false_iff_eq]; omega
        have z2 : ((q4 : Int) != (PN : Int) + (A : Int) - (A : Int)) = false := by
          simp only [bne_eq_false_iff_eq]; omega
        have hPN1 : PN ≤ 100000000 := by omega
        have HV := Lib.hid hv
        have HM := Lib.hid hm
        have C1 := Lib.hid C1
        have C2 := Lib.hid C2
        have C3 := Lib.hid C3
        have C4 := Lib.hid C4
        have C5 := Lib.hid C5
        have C6 := Lib.hid C6
        have C7 := Lib.hid C7
        have C8 := Lib.hid C8
        have ha1 : A ≤ 1000 := by omega
        clear hv hm hP1 hP2 hP3 hP4 hP1l hP2l hP3l hP4l hP1s hP2s hP3s hP4s hDl hq1 hq2 hq3 hq4 hbl hal gl1 gl2 gl3 gl4 gl5 gl6 hnl hnm h64 hms hn h1 h2 h3 awk hDs hDn
        go_enter Try.func5, Try.ntmps5
        go_wp2_with fail
        refine (C1.out w).mono ?_
        rintro e w1 ⟨rfl, hb1⟩
        have HV1 := Lib.hid (HV.out.below (Nat.le_refl _) hb1)
        have HM1 := Lib.hid (HM.out.below (Nat.le_refl _) hb1)
        have HB1 := Lib.hid hb1
        have hs1 := hb1.size
        clear hb1 HV HM
        go_wp2_with fail
        refine (C2.out w1).mono ?_
        rintro e w2 ⟨rfl, hb2⟩
        have HV2 := Lib.hid (HV1.out.below (Nat.le_refl _) hb2)
        have HM2 := Lib.hid (HM1.out.below (Nat.le_refl _) hb2)
        have HB2 := Lib.hid (HB1.out.trans (hb2.mono hs1))
        have hs2 : w.heap.size ≤ w2.heap.size := HB2.out.size
        clear hb2 HV1 HM1 HB1
        go_wp2_with fail
        refine (C3.out w2 HV2.out).mono ?_
        rintro e w3 ⟨rfl, hb3⟩
        have HV3 := Lib.hid (HV2.out.below (Nat.le_refl _) hb3)
        have HM3 := Lib.hid (HM2.out.below (Nat.le_refl _) hb3)
        have HB3 := Lib.hid (HB2.out.trans (hb3.mono hs2))
        have hs3 : w.heap.size ≤ w3.heap.size := HB3.out.size
        clear hb3 HV2 HM2 HB2
        go_wp2_with fail
        refine (C4.out w3 HM3.out).mono ?_
        rintro e w4 ⟨rfl, hb4⟩
        have HV4 := Lib.hid (HV3.out.below (Nat.le_refl _) hb4)
        have HM4 := Lib.hid (HM3.out.below (Nat.le_refl _) hb4)
        have HB4 := Lib.hid (HB3.out.trans (hb4.mono hs3))
        have hs4 : w.heap.size ≤ w4.heap.size := HB4.out.size
        clear hb4 HV3 HM3 HB3 C1 C2 C3 C4
        go_wp2_with fail
        refine (C5.out w4).mono ?_
        rintro e w5 ⟨rfl, rfl⟩
        go_wp2_with fail
        refine (C6.out w4).mono ?_
        rintro e w5 ⟨rfl, rfl⟩
        go_wp2_with fail
        refine (C7.out w4).mono ?_
        rintro e w5 ⟨au, cu, rfl, hiu, hb5⟩
        have HV5 := Lib.hid (HV4.out.below (Nat.le_refl _) hb5)
        have HM5 := Lib.hid (HM4.out.below (Nat.le_refl _) hb5)
        have HU5 := Lib.hid hiu
        have HB5 := Lib.hid (HB4.out.trans (hb5.mono hs4))
        have hs5 : w.heap.size ≤ w5.heap.size := HB5.out.size
        clear hb5 HV4 HM4 HB4 hiu
        go_wp2_with fail
        refine (C8.out w5).mono ?_
        rintro e w6 ⟨ax, cx, rfl, hix, hb6⟩
        have HV6 := Lib.hid (HV5.out.below (Nat.le_refl _) hb6)
        have HM6 := Lib.hid (HM5.out.below (Nat.le_refl _) hb6)
        have HU6 := Lib.hid (HU5.out.below (Nat.le_refl _) hb6)
        have HX6 := Lib.hid hix
        have HB6 := Lib.hid (HB5.out.trans (hb6.mono hs5))
        have hs6 : w.heap.size ≤ w6.heap.size := HB6.out.size
        clear hb6 HV5 HM5 HB5 HU5 hix C5 C6 C7 C8
        go_wp2_with fail
        go_loop [23, 24, 136] (fun _ _ i => ∃ k : Nat, k ≤ nl ∧ i = .int .i64 k) (fun _ _ i => nl - (intOf i).toNat)
        case atStart => exact ⟨0, by omega, rfl⟩
        case round =>
          obtain ⟨k, hk, rfl⟩ := hrel
          by_cases hlt : k < nl
          · obtain ⟨b1, o1, rfl, hc1⟩ := Ints.at' HV6.out hlt
            obtain ⟨b2, o2, rfl, hc2⟩ := Ints.at' HU6.out hlt
            generalize l.getD k 0 = x at *
            go_wp2
            go_round
            case rel => exact ⟨k + 1, by omega, by go_num⟩
            case measure => simp [intOf]; omega
          · go_wp2_with fail
            go_loop [25, 26, 150] (fun _ _ i => ∃ k : Nat, k ≤ nm ∧ i = .int .i64 k) (fun _ _ i => nm - (intOf i).toNat)
            case atStart => exact ⟨0, by omega, rfl⟩
            case round =>
              obtain ⟨k, hk, rfl⟩ := hrel
              by_cases hlt : k < nm
              · obtain ⟨b1, o1, rfl, hc1⟩ := HM6.out.at hlt
                obtain ⟨b2, o2, rfl, hc2⟩ := HX6.out.at hlt
                generalize m.getD k ByteArray.empty = x at *
                go_wp2
                go_round
                case rel => exact ⟨k + 1, by omega, by go_num⟩
                case measure => simp [intOf]; omega
              · go_wp2_with fail
                refine (awake4_any w6).mono ?_
                rintro e w7 ⟨rfl, hb7⟩
                have HB7 := Lib.hid (HB6.out.trans (hb7.mono hs6))
                clear hb7 HB6
                go_wp2
                go_ret
                exact ⟨rfl, HB7.out⟩
      · have h3' : decide ((40 : Int) < (nm : Int)) = true := decide_eq_true (by omega)
        have HA := Lib.hid (awk trivial)
        clear h1 h2 h3 hv hm h64 hms hnl hnm awk
        go_enter Try.func5, Try.ntmps5
        go_wp2_with fail
        refine HA.out.mono ?_
        rintro e w1 ⟨rfl, hb1⟩
        have HB1 := Lib.hid hb1
        clear hb1
        go_wp2
        go_ret
        exact ⟨rfl, HB1.out⟩
    · have h2' : decide ((100 : Int) < (nl : Int)) = true := decide_eq_true (by omega)
      have HA := Lib.hid (awk trivial)
      clear h1 h2 hv hm h64 hms hnl hnm awk
      go_enter Try.func5, Try.ntmps5
      go_wp2_with fail
      refine HA.out.mono ?_
      rintro e w1 ⟨rfl, hb1⟩
      have HB1 := Lib.hid hb1
      clear hb1
      go_wp2
      go_ret
      exact ⟨rfl, HB1.out⟩
  · have h1' : decide ((1000 : Int) < (B : Int) + (N : Int) + (A : Int)) = true := decide_eq_true (by omega)
    have HA := Lib.hid (awk trivial)
    clear h1 hv hm h64 hms hnl hnm awk
    go_enter Try.func5, Try.ntmps5
    go_wp2_with fail
    refine HA.out.mono ?_
    rintro e w1 ⟨rfl, hb1⟩
    have HB1 := Lib.hid hb1
    clear hb1
    go_wp2
    go_ret
    exact ⟨rfl, HB1.out⟩
end Go.Proofs.Ytkpdjeiocdppoaa
