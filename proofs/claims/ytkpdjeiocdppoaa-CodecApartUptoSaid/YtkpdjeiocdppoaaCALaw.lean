
/- The walk of CodecApart. -/
import Derived.Test.YtkpdjeiocdppoaaCAp
import Derived.BigQuiet
import Derived.Lib.QuietBelow
namespace Go.Proofs.Ytkpdjeiocdppoaa
open Go.RowKit
open Go.Sort (grow)
set_option linter.unusedVariables false

set_option maxRecDepth 100000 in
set_option maxHeartbeats 32000000 in
theorem codecApart_walk (va : Value) (a : List Int) (vb : Value) (b : List Int) (vs : Value) (s : List ByteArray) (vt : Value) (t : List ByteArray) (w : World) (ha : Ints w va a) (ha64 : ∀ x ∈ a, in64 x) (hb : Ints w vb b) (hb64 : ∀ x ∈ b, in64 x) (hs : Strs w vs s) (hss : ∀ x ∈ s, x.size ≤ 1048576) (ht : Strs w vt t) (hts : ∀ x ∈ t, x.size ≤ 1048576) :
    Calls Try.prog 8 #[va, vb, vs, vt] w fun e w' => e = .returned (.bool true) ∧ Below w.heap.size w w' := by
  obtain ⟨aa, ca, rfl, hal, -⟩ := id ha
  obtain ⟨ab, cb, rfl, hbl, -⟩ := id hb
  obtain ⟨a3, cs, rfl, hsl, -⟩ := id hs
  obtain ⟨at_, ct, rfl, htl, -⟩ := id ht
  obtain ⟨na, hna⟩ : ∃ n, a.length = n := ⟨_, rfl⟩
  obtain ⟨nb, hnb⟩ : ∃ n, b.length = n := ⟨_, rfl⟩
  obtain ⟨ns', hns⟩ : ∃ n, s.length = n := ⟨_, rfl⟩
  obtain ⟨nt, hnt⟩ : ∃ n, t.length = n := ⟨_, rfl⟩
  rw [hna] at ha hal ⊢
  rw [hnb] at hb hbl ⊢
  rw [hns] at hs hsl ⊢
  rw [hnt] at ht htl ⊢
  by_cases hg : na ≤ 50 ∧ nb ≤ 50 ∧ ns' ≤ 20 ∧ nt ≤ 20
  · obtain ⟨g1, g2, g3, g4⟩ := hg
    have c1 : decide ((50 : Int) < (na : Int)) = false := decide_eq_false (by omega)
    have c2 : decide ((50 : Int) < (nb : Int)) = false := decide_eq_false (by omega)
    have c3 : decide ((20 : Int) < (ns' : Int)) = false := decide_eq_false (by omega)
    have c4 : decide ((20 : Int) < (nt : Int)) = false := decide_eq_false (by omega)
    obtain ⟨X, hX⟩ : ∃ T : ByteArray, (⟨(Vi.grp (Vi.zz (na : Int)) ++ gnums a).toArray⟩ : ByteArray) = T := ⟨_, rfl⟩
    obtain ⟨Y, hY⟩ : ∃ T : ByteArray, (⟨(Vi.grp (Vi.zz (nb : Int)) ++ gnums b).toArray⟩ : ByteArray) = T := ⟨_, rfl⟩
    obtain ⟨U, hU⟩ : ∃ T : ByteArray, (⟨(Vi.grp (Vi.zz (ns' : Int)) ++ gtxts s).toArray⟩ : ByteArray) = T := ⟨_, rfl⟩
    obtain ⟨V, hV⟩ : ∃ T : ByteArray, (⟨(Vi.grp (Vi.zz (nt : Int)) ++ gtxts t).toArray⟩ : ByteArray) = T := ⟨_, rfl⟩
    have K1 := cmp_ints (X := X) (Y := Y) (a := a) (b := b) (by rw [← hX, hna]) (by rw [← hY, hnb]) ha64 hb64 (by omega) (by omega)
    have K2 := cmp_texts (X := U) (Y := V) (a := s) (b := t) (by rw [← hU, hns]) (by rw [← hV, hnt]) (fun x hx => by have := hss x hx; omega) (fun x hx => by have := hts x hx; omega) (by omega) (by omega)
    have E1 := sm_end a b
    have E2 := sm_end s t
    rw [hna] at E1
    rw [hns] at E2
    generalize decide (a = b) = e1 at *
    generalize decide (s = t) = e2 at *
    have PX : Hid (∀ w1, Ints w1 (.slice aa na ca) a → Calls Try.prog 14 #[.string ⟨#[]⟩, .slice aa na ca] w1 fun e w' => e = .returned (.string X) ∧ Below w1.heap.size w1 w') := fun w1 hi => by
      have h := putInts_any ⟨#[]⟩ aa na ca a w1 hi (Lib.hid hna.symm) (by omega) (Lib.hid ha64) (by decide)
      subst hX
      exact h
    have PY : Hid (∀ w1, Ints w1 (.slice ab nb cb) b → Calls Try.prog 14 #[.string ⟨#[]⟩, .slice ab nb cb] w1 fun e w' => e = .returned (.string Y) ∧ Below w1.heap.size w1 w') := fun w1 hi => by
      have h := putInts_any ⟨#[]⟩ ab nb cb b w1 hi (Lib.hid hnb.symm) (by omega) (Lib.hid hb64) (by decide)
      subst hY
      exact h
    have PU : Hid (∀ w1, Strs w1 (.slice a3 ns' cs) s → Calls Try.prog 16 #[.string ⟨#[]⟩, .slice a3 ns' cs] w1 fun e w' => e = .returned (.string U) ∧ Below w1.heap.size w1 w') := fun w1 hi => by
      have h := putTexts_any ⟨#[]⟩ a3 ns' cs s w1 hi (Lib.hid hns.symm) (by omega) (Lib.hid fun x hx => by have := hss x hx; omega) (by decide)
      subst hU
      exact h
    have PV : Hid (∀ w1, Strs w1 (.slice at_ nt ct) t → Calls Try.prog 16 #[.string ⟨#[]⟩, .slice at_ nt ct] w1 fun e w' => e = .returned (.string V) ∧ Below w1.heap.size w1 w') := fun w1 hi => by
      have h := putTexts_any ⟨#[]⟩ at_ nt ct t w1 hi (Lib.hid hnt.symm) (by omega) (Lib.hid fun x hx => by have := hts x hx; omega) (by decide)
      subst hV
      exact h
    have Z1 : Hid (((na : Int) == (nb : Int)) = sm a b 0) := by
      show _ = _
      rw [sm_zero, hna, hnb]
      by_cases h : na = nb
      · rw [decide_eq_true h, h]; simp
      · rw [decide_eq_false h]; simp only [beq_eq_false_iff_ne]; omega
    have Z2 : Hid (((ns' : Int) == (nt : Int)) = sm s t 0) := by
      show _ = _
      rw [sm_zero, hns, hnt]
      by_cases h : ns' = nt
      · rw [decide_eq_true h, h]; simp
      · rw [decide_eq_false h]; simp only [beq_eq_false_iff_ne]; omega
    have hmx : Try.prog.follows .mixedOrders = true := by kernel_rfl
    have K1 := Lib.hid K1
    have K2 := Lib.hid K2
    have E1 := Lib.hid E1
    have E2 := Lib.hid E2
    have HA := Lib.hid ha
    have HB := Lib.hid hb
    have HS := Lib.hid hs
    have HT := Lib.hid ht
    have NA := Lib.hid hna
    have NB := Lib.hid hnb
    have NS := Lib.hid hns
    have NT := Lib.hid hnt
    clear ha hb hs ht hna hnb hns hnt hX hY hU hV ha64 hb64 hss hts
    go_enter Try.func8, Try.ntmps8
    go_wp2_with fail
    refine (PX.out w HA.out).mono ?_
    rintro e w1 ⟨rfl, hb1⟩
    have HA1 := Lib.hid (HA.out.below (Nat.le_refl _) hb1)
    have HB1 := Lib.hid (HB.out.below (Nat.le_refl _) hb1)
    have HS1 := Lib.hid (HS.out.below (Nat.le_refl _) hb1)
    have HT1 := Lib.hid (HT.out.below (Nat.le_refl _) hb1)
    have W1 := Lib.hid hb1
    have s1 := hb1.size
    clear hb1 HA HB HS HT
    go_wp2_with fail
    refine (PY.out w1 HB1.out).mono ?_
    rintro e w2 ⟨rfl, hb2⟩
    have HA2 := Lib.hid (HA1.out.below (Nat.le_refl _) hb2)
    have HB2 := Lib.hid (HB1.out.below (Nat.le_refl _) hb2)
    have HS2 := Lib.hid (HS1.out.below (Nat.le_refl _) hb2)
    have HT2 := Lib.hid (HT1.out.below (Nat.le_refl _) hb2)
    have W2 := Lib.hid (W1.out.trans (hb2.mono s1))
    have s2 : w.heap.size ≤ w2.heap.size := W2.out.size
    clear hb2 HA1 HB1 HS1 HT1 W1
    go_wp2_with fail
    refine (PU.out w2 HS2.out).mono ?_
    rintro e w3 ⟨rfl, hb3⟩
    have HA3 := Lib.hid (HA2.out.below (Nat.le_refl _) hb3)
    have HB3 := Lib.hid (HB2.out.below (Nat.le_refl _) hb3)
    have HS3 := Lib.hid (HS2.out.below (Nat.le_refl _) hb3)
    have HT3 := Lib.hid (HT2.out.below (Nat.le_refl _) hb3)
    have W3 := Lib.hid (W2.out.trans (hb3.mono s2))
    have s3 : w.heap.size ≤ w3.heap.size := W3.out.size
    clear hb3 HA2 HB2 HS2 HT2 W2
    go_wp2_with fail
    refine (PV.out w3 HT3.out).mono ?_
    rintro e w4 ⟨rfl, hb4⟩
    have HA4 := Lib.hid (HA3.out.below (Nat.le_refl _) hb4)
    have HB4 := Lib.hid (HB3.out.below (Nat.le_refl _) hb4)
    have HS4 := Lib.hid (HS3.out.below (Nat.le_refl _) hb4)
    have HT4 := Lib.hid (HT3.out.below (Nat.le_refl _) hb4)
    have W4 := Lib.hid (W3.out.trans (hb4.mono s3))
    have s4 : w.heap.size ≤ w4.heap.size := W4.out.size
    clear hb4 HA3 HB3 HS3 HT3 W3 PX PY PU PV
    go_wp2_with fail
    have W0 : Hid (Below w4.heap.size w4 w4) := Below.refl _ _
    go_loopw [13, 15, 58] (fun v _ i wr => ∃ k : Nat, k ≤ na ∧ i = .int .i64 k ∧ v = .bool (sm a b k) ∧ Hid (Below w4.heap.size w4 wr)) (fun _ _ i _ => na - (intOf i).toNat)
    case atStart => exact ⟨0, by omega, rfl, by rw [Z1.out], W0⟩
    case round =>
      obtain ⟨k, hk, rfl, rfl, HW⟩ := hrel
      by_cases hlt : k < na
      · have HW2 := Lib.hid HW.out.drew
        cases hsm : sm a b k with
        | false =>
          have hst := sm_false hsm
          have HST := Lib.hid hst
          clear hst hsm
          go_wp2
          refine wp_region_quiet_below (by kernel_rfl) (by kernel_rfl) ?_
          repeat (go_big_quiet_step (fail))
          refine wpQuiet_nil ?_
          intro _ hw'
          obtain ⟨⟨dq, osq⟩, hw''⟩ := hw'
          subst hw''
          have hbq := below_regrown wr dq osq
          have HBQ := Lib.hid (HW.out.trans (hbq.mono HW.out.size))
          clear hbq
          generalize grow (redrawn wr dq) osq = w5 at *
          go_wp2
          exact ⟨⟨k + 1, by omega, by go_num, by rw [HST.out], HBQ⟩, by simp [intOf]; omega⟩
        | true =>
          obtain ⟨hkb, hst⟩ := sm_true 0 hsm (by rw [NA.out]; exact hlt)
          rw [NB.out] at hkb
          obtain ⟨b1, o1, rfl, hc1⟩ := Ints.at' (HA4.out.below (Nat.le_refl _) HW.out) hlt
          obtain ⟨b2, o2, rfl, hc2⟩ := Ints.at' (HB4.out.below (Nat.le_refl _) HW.out) hkb
          have HST := Lib.hid hst
          generalize a.getD k 0 = x at *
          generalize b.getD k 0 = y at *
          have cC1 := cell_regrown hc1
          have cC2 := cell_regrown hc2
          clear hst hsm
          go_wp2
          refine wp_region_quiet_below (by kernel_rfl) (by kernel_rfl) ?_
          repeat (go_big_quiet_step (fail))
          refine wpQuiet_nil ?_
          intro _ hw'
          obtain ⟨⟨dq, osq⟩, hw''⟩ := hw'
          subst hw''
          have hbq := below_regrown wr dq osq
          have HBQ := Lib.hid (HW.out.trans (hbq.mono HW.out.size))
          clear hbq cC1 cC2 hc1 hc2
          generalize grow (redrawn wr dq) osq = w5 at *
          go_wp2
          exact ⟨⟨k + 1, by omega, by go_num, by rw [HST.out]; rfl, HBQ⟩, by simp [intOf]; omega⟩
      · obtain rfl : k = na := by omega
        rw [E1.out]
        clear Z1 E1
        go_wp2_with fail
        go_loopw [14, 16, 76] (fun v _ i wr => ∃ k : Nat, k ≤ ns' ∧ i = .int .i64 k ∧ v = .bool (sm s t k) ∧ Hid (Below w4.heap.size w4 wr)) (fun _ _ i _ => ns' - (intOf i).toNat)
        case atStart => exact ⟨0, by omega, rfl, by rw [Z2.out], HW⟩
        case round =>
          obtain ⟨k, hk, rfl, rfl, HW⟩ := hrel
          by_cases hlt : k < ns'
          · cases hsm : sm s t k with
            | false =>
              have HST := Lib.hid (sm_false hsm)
              clear hsm
              go_wp2
              refine wp_region_quiet_below (by kernel_rfl) (by kernel_rfl) ?_
              repeat (go_big_quiet_step (fail))
              refine wpQuiet_nil ?_
              intro _ hw'
              obtain ⟨⟨dq, osq⟩, hw''⟩ := hw'
              subst hw''
              have hbq := below_regrown wr dq osq
              have HBQ := Lib.hid (HW.out.trans (hbq.mono HW.out.size))
              clear hbq
              generalize grow (redrawn wr dq) osq = w5 at *
              go_wp2
              exact ⟨⟨k + 1, by omega, by go_num, by rw [HST.out], HBQ⟩, by simp [intOf]; omega⟩
            | true =>
              obtain ⟨hkb, hst⟩ := sm_true ByteArray.empty hsm (by rw [NS.out]; exact hlt)
              rw [NT.out] at hkb
              obtain ⟨b1, o1, rfl, hc1⟩ := (HS4.out.below (Nat.le_refl _) HW.out).at hlt
              obtain ⟨b2, o2, rfl, hc2⟩ := (HT4.out.below (Nat.le_refl _) HW.out).at hkb
              have HST := Lib.hid hst
              generalize s.getD k ByteArray.empty = x at *
              generalize t.getD k ByteArray.empty = y at *
              have cC1 := cell_regrown hc1
              have cC2 := cell_regrown hc2
              clear hst hsm
              go_wp2
              refine wp_region_quiet_below (by kernel_rfl) (by kernel_rfl) ?_
              repeat (go_big_quiet_step (fail))
              refine wpQuiet_nil ?_
              intro _ hw'
              obtain ⟨⟨dq, osq⟩, hw''⟩ := hw'
              subst hw''
              have hbq := below_regrown wr dq osq
              have HBQ := Lib.hid (HW.out.trans (hbq.mono HW.out.size))
              clear hbq cC1 cC2 hc1 hc2
              generalize grow (redrawn wr dq) osq = w5 at *
              go_wp2
              exact ⟨⟨k + 1, by omega, by go_num, by rw [HST.out, ← beq_dec], HBQ⟩, by simp [intOf]; omega⟩
          · obtain rfl : k = ns' := by omega
            rw [E2.out]
            have HB5 := Lib.hid (W4.out.trans (HW.out.mono s4))
            have s5 : w.heap.size ≤ wr.heap.size := HB5.out.size
            have d1 := K1.out.deq
            have d2 := K2.out.deq
            have k1 := K1.out.beg
            have k2 := K2.out.beg
            rw [← beq_dec] at d1 d2 k1 k2
            obtain ⟨J1, hZ1⟩ : ∃ Z, Y.extract 0 X.size = Z := ⟨_, rfl⟩
            obtain ⟨J2, hZ2⟩ : ∃ Z, V.extract 0 U.size = Z := ⟨_, rfl⟩
            rw [hZ1] at k1
            rw [hZ2] at k2
            have HA := Lib.hid (awake4_any wr)
            clear Z2 E2 HW K1 K2 W4 HA4 HB4 HS4 HT4
            rcases k1 with ⟨p1, p2⟩ | ⟨p1, rfl⟩ <;> rcases k2 with ⟨p3, p4⟩ | ⟨p3, rfl⟩ <;> first | cases e1 | skip
            all_goals first | cases e2 | skip
            all_goals
              first
                | (have p1' := decide_eq_true p1; have p1m : X.size ≤ Y.size := (by omega); have p1n : decide (X.size ≤ Y.size) = true := decide_eq_true p1m)
                | (have p1' := decide_eq_false p1; have p1n : decide (X.size ≤ Y.size) = false := decide_eq_false (by omega))
              first
                | (have p3' := decide_eq_true p3; have p3m : U.size ≤ V.size := (by omega); have p3n : decide (U.size ≤ V.size) = true := decide_eq_true p3m)
                | (have p3' := decide_eq_false p3; have p3n : decide (U.size ≤ V.size) = false := decide_eq_false (by omega))
              go_wp2_with fail
              refine HA.out.mono ?_
              rintro e w6 ⟨rfl, hb6⟩
              have HB6 := Lib.hid (HB5.out.trans (hb6.mono s5))
              clear hb6 HB5
              go_wp2
              go_ret
              exact ⟨rfl, HB6.out⟩
  · have HA := Lib.hid (awake4_any w)
    clear ha hb hs ht ha64 hb64 hss hts hna hnb hns hnt
    have hc : (decide ((50 : Int) < (na : Int)) = true) ∨ (decide ((50 : Int) < (na : Int)) = false ∧ decide ((50 : Int) < (nb : Int)) = true) ∨ (decide ((50 : Int) < (na : Int)) = false ∧ decide ((50 : Int) < (nb : Int)) = false ∧ decide ((20 : Int) < (ns' : Int)) = true) ∨ (decide ((50 : Int) < (na : Int)) = false ∧ decide ((50 : Int) < (nb : Int)) = false ∧ decide ((20 : Int) < (ns' : Int)) = false ∧ decide ((20 : Int) < (nt : Int)) = true) := by
      simp only [decide_eq_true_eq, decide_eq_false_iff_not]
      omega
    clear hg
    rcases hc with c1 | ⟨c1, c2⟩ | ⟨c1, c2, c3⟩ | ⟨c1, c2, c3, c4⟩
    all_goals
      go_enter Try.func8, Try.ntmps8
      go_wp2_with fail
      refine HA.out.mono ?_
      rintro e w1 ⟨rfl, hb1⟩
      have HB1 := Lib.hid hb1
      clear hb1
      go_wp2
      go_ret
      exact ⟨rfl, HB1.out⟩
end Go.Proofs.Ytkpdjeiocdppoaa
