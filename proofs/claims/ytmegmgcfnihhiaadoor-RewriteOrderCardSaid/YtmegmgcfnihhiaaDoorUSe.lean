
/- Rules carried out until none matches: settle and Apply. -/
import Derived.Test.YtmegmgcfnihhiaaDoorUFi
namespace Go.Proofs.YtmegmgcfnihhiaaDoor
open Go.RowKit Go.Shelf
set_option linter.unusedVariables false
set_option linter.unusedSimpArgs false

theorem umax_lay (P : Program) (a b : Int) : ∀ (ts : Array TypeId) (t : TypeId) (W : World), (Builtin.max_ ts t #[.int .i64 a, .int .i64 b]).run P W = .ok (.int .i64 (max a b)) W := fun ts t W => by
  rw [run_max_int2]; congr 2; split <;> omega
def wtV : Value → Nat | .string s => wt s.data.toList | _ => 0
theorem mild_of {R : List Rul} (h : validRs R = true) : Mild R := fun j hj => by
  have := validRs_at h hj
  have h1 := this.fl
  have h2 := this.tl
  omega
theorem lenRs {R : List Rul} (h : validRs R = true) : R.length ≤ 32 := by
  simp only [validRs, Bool.and_eq_true, decide_eq_true_eq] at h
  exact h.1

set_option maxRecDepth 100000 in
set_option maxHeartbeats 4000000 in
theorem settle_any (s : ByteArray) (sv : Value) (R : List Rul) (w : World) (hT : Tbw w) (hR : validRs R = true) (hr : RulesW w sv R) (hs : s.size ≤ 3000) (hp : ∀ b ∈ s.data.toList, plB b = true) (hf : Fd s.data.toList) :
    Calls Tryd.prog 26 #[sv, .string s] w fun e w' => ∃ T : List UInt8, e = .returned (.string ⟨T.toArray⟩) ∧ Ends R s.data.toList T ∧ Below w.heap.size w w' := by
  obtain ⟨a, c, rfl, hl, hlc, hc, _⟩ := id hr
  obtain ⟨N, hN⟩ : ∃ N, R.length = N := ⟨_, rfl⟩
  rw [hN] at hr hl hlc ⊢
  obtain ⟨g, hg⟩ : ∃ g, w.heap.size = g := ⟨_, rfl⟩
  have hm := mild_of hR
  have HS := Lib.hid hr
  have HM := Lib.hid hm
  have HR := Lib.hid hR
  have HN := Lib.hid hN
  have HG := Lib.hid hg
  have HT := Lib.hid hT
  have HZ : Hid (s.size ≤ 3000) := hs
  have HPF : Hid ((∀ b ∈ s.data.toList, plB b = true) ∧ Fd s.data.toList) := ⟨hp, hf⟩
  have HW0 : Hid (Below g w w) := Below.refl _ _
  rw [hg]
  clear hr hm hN hg hR hT hs hp hf
  go_enter Tryd.func26, Tryd.ntmps26
  go_wp2_with fail
  go_loopw [5, 7, 12] (fun x _ i wr => ∃ (k L : Nat), k ≤ N ∧ x = .int .i64 L ∧ i = .int .i64 k ∧ Hid (L ≤ 256 ∧ ∀ j, j < k → (R.getD j noRul).f.length ≤ L) ∧ Hid (Below g w wr)) (fun _ _ i _ => N - (intOf i).toNat)
  case atStart => exact ⟨0, 0, Nat.zero_le _, rfl, rfl, ⟨Nat.zero_le _, fun j hj => absurd hj (Nat.not_lt_zero _)⟩, HW0⟩
  case round =>
    obtain ⟨k, L, hk, rfl, rfl, HL, HW⟩ := hrel
    by_cases hlt : k < N
    · have hsz : g ≤ wr.heap.size := by have := HW.out.size; have := HG.out; omega
      obtain ⟨b, o, rfl, c0, c1, c2⟩ := (HS.out.below (Nat.le_of_eq HG.out) HW.out).at (by rw [HN.out]; exact hlt)
      have hro := validRs_at HR.out (show k < R.length by rw [HN.out]; exact hlt)
      obtain ⟨r, hr⟩ : ∃ r, R.getD k noRul = r := ⟨_, rfl⟩
      rw [hr] at c0 c1 c2 hro
      obtain ⟨F, hF⟩ : ∃ F : ByteArray, (⟨r.f.toArray⟩ : ByteArray) = F := ⟨_, rfl⟩
      obtain ⟨T, hTT⟩ : ∃ T : ByteArray, (⟨r.t.toArray⟩ : ByteArray) = T := ⟨_, rfl⟩
      obtain ⟨p, hp⟩ : ∃ p, r.p = p := ⟨_, rfl⟩
      obtain ⟨n, hn⟩ : ∃ n, F.size = n := ⟨_, rfl⟩
      have hnl : r.f.length = n := by rw [← hn, Lib.size_eq, ← hF]
      obtain ⟨w1, hw1⟩ : ∃ w1, wr.alloc (.cells #[.string F, .string T, .int .i64 p] 38) = w1 := ⟨_, rfl⟩
      obtain ⟨g1, hg1⟩ : ∃ g1, wr.heap.size = g1 := ⟨_, rfl⟩
      have hra : RuleAt w1 g1 F T p := by rw [← hw1, ← hg1]; exact ruleAt_new _ _ _ _ _
      have HB1 : Hid (Below g w w1) := by rw [← hw1]; exact HW.out.alloc hsz _
      have d0 := hra.c0
      have hmx := umax_lay Tryd.prog (L : Int) (n : Int)
      have hmn : max (L : Int) (n : Int) = ((max L n : Nat) : Int) := by omega
      rw [hmn] at hmx
      have HL2 : Hid (max L n ≤ 256 ∧ ∀ j, j < k + 1 → (R.getD j noRul).f.length ≤ max L n) := by
        refine ⟨by have := HL.out.1; have := hro.fl; omega, fun j hj => ?_⟩
        by_cases e : j = k
        · subst e; rw [hr, hnl]; omega
        · have := HL.out.2 j (by omega); omega
      generalize max L n = M at hmx HL2
      rw [hF] at c0
      rw [hTT] at c1
      rw [hp] at c2
      clear hr hF hTT hp hra hnl hro hmn
      go_wp2
      try rw [hw1]
      go_roundw
      case rel => exact ⟨k + 1, M, by omega, rfl, by go_num, HL2, HB1⟩
      case measure => simp [intOf]; omega
    · obtain rfl : k = N := by omega
      have HLL : Hid (∀ j, j < R.length → (R.getD j noRul).f.length ≤ L) := fun j hj => HL.out.2 j (by rw [← HN.out]; exact hj)
      have HL1 : Hid (L ≤ 256) := HL.out.1
      have HF0 := Lib.hid (first_any s 0 (.slice a k c) R wr (by have := HZ.out; omega) (by omega) HM.out (HS.out.below (Nat.le_of_eq HG.out) HW.out))
      have HGW : Hid (g ≤ wr.heap.size) := by show _ ≤ _; have := HW.out.size; have := HG.out; omega
      clear HL
      go_wp2_with fail
      refine HF0.out.mono ?_
      rintro e w1 ⟨rfl, hb1⟩
      have HB1 := Lib.hid (HW.out.trans (hb1.mono HGW.out))
      clear hb1 HF0 HW HGW
      obtain ⟨i0, hi0⟩ : ∃ i0, fstA (firstO R s.data.toList 0) = i0 := ⟨_, rfl⟩
      obtain ⟨k0, hk0⟩ : ∃ k0, fstB (firstO R s.data.toList 0) = k0 := ⟨_, rfl⟩
      rw [hi0, hk0]
      have HI0 := Lib.hid hi0
      have HK0 := Lib.hid hk0
      clear hi0 hk0
      go_wp2_with fail
      go_loopw [1, 8, 9] (fun v1 v8 v9 wr => ∃ (S : ByteArray) (i k : Int), v1 = .string S ∧ v8 = .int .i64 i ∧ v9 = .int .i64 k ∧ Hid (fstA (firstO R S.data.toList 0) = i) ∧ Hid (fstB (firstO R S.data.toList 0) = k) ∧ Hid ((∀ b ∈ S.data.toList, plB b = true) ∧ Fd S.data.toList) ∧ Hid (wt S.data.toList ≤ wt s.data.toList) ∧ Hid (∀ T, Ends R S.data.toList T → Ends R s.data.toList T) ∧ Hid (Below g w wr)) (fun v1 _ _ _ => wtV v1)
      case atStart => exact ⟨s, i0, k0, rfl, rfl, rfl, HI0, HK0, HPF, Nat.le_refl _, fun T h => h, HB1⟩
      case round =>
        obtain ⟨S, i, kk, rfl, rfl, rfl, HI, HK, HP, HWT, HEN, HB⟩ := hrel
        clear HI0 HK0 HB1
        cases hfo : firstO R S.data.toList 0 with
        | none =>
          obtain rfl : -1 = kk := by rw [← HK.out, hfo]; rfl
          have HEE : Hid (Ends R s.data.toList S.data.toList) := HEN.out _ (.stop hfo)
          clear hfo
          go_wp2
          go_ret
          exact ⟨S.data.toList, rfl, HEE.out, HB.out⟩
        | some x =>
          obtain ⟨m, q⟩ := x
          obtain rfl : (m : Int) = i := by rw [← HI.out, hfo]; rfl
          obtain rfl : (q : Int) = kk := by rw [← HK.out, hfo]; rfl
          obtain ⟨_, h2, h3, h4, _⟩ := first_some hfo
          have hzs : S.size ≤ 3000 := by
            rw [Lib.size_eq]
            have h5 := wt_short (s := S.data.toList) (n := s.size) (Nat.le_trans HWT.out (by have := (wt_len s.data.toList).2; rwa [← Lib.size_eq] at this)) HZ.out
            have h6 := HZ.out
            omega
          have hro := validRs_at HR.out h3
          have hsp := stand_parts h4 (Nat.le_of_lt h2)
          have hwt := step_wt hro HP.out.1 h4 (Nat.le_of_lt h2)
          have hpl := step_pl hro HP.out.1 m
          have hfd := step_fd hro HP.out.2 h4 (Nat.le_of_lt h2)
          have hrs := restart HR.out HP.out.1 HP.out.2 hfo HLL.out
          have HEN2 : Hid (∀ T, Ends R (stepL (R.getD q noRul) S.data.toList m) T → Ends R s.data.toList T) := fun T h => HEN.out T (.step hfo h)
          rw [← Lib.size_eq] at hsp h2
          have hqN : q < k := by rw [← HN.out]; exact h3
          have hsz : g ≤ wr.heap.size := by have := HB.out.size; have := HG.out; omega
          have hrw := HS.out.below (Nat.le_of_eq HG.out) HB.out
          obtain ⟨b, o, rfl, c0, c1, c2⟩ := hrw.at h3
          obtain ⟨r, hr⟩ : ∃ r, R.getD q noRul = r := ⟨_, rfl⟩
          rw [hr] at c0 c1 c2 hro hsp hwt hpl hfd hrs HEN2
          have hST := step_any r S m wr (HT.out.below (by rw [HG.out]; exact HB.out)) hzs hsp.2 hro.fl hro.tl
          unfold ruleV at hST
          obtain ⟨X, hX⟩ : ∃ X : ByteArray, (⟨(stepL r S.data.toList m).toArray⟩ : ByteArray) = X := ⟨_, rfl⟩
          have hXd : X.data.toList = stepL r S.data.toList m := by rw [← hX]
          rw [hX] at hST
          rw [← hXd] at hwt hpl hfd hrs HEN2
          obtain ⟨F, hF⟩ : ∃ F : ByteArray, (⟨r.f.toArray⟩ : ByteArray) = F := ⟨_, rfl⟩
          obtain ⟨T, hTT⟩ : ∃ T : ByteArray, (⟨r.t.toArray⟩ : ByteArray) = T := ⟨_, rfl⟩
          obtain ⟨p, hp⟩ : ∃ p, r.p = p := ⟨_, rfl⟩
          rw [hF, hTT, hp] at hST
          rw [hF] at c0
          rw [hTT] at c1
          rw [hp] at c2
          have HST := Lib.hid hST
          have HWX : Hid (wt X.data.toList < wt S.data.toList) := hwt
          have HWT3 : Hid (wt X.data.toList ≤ wt s.data.toList) := Nat.le_trans (Nat.le_of_lt hwt) HWT.out
          have HPX : Hid ((∀ b ∈ X.data.toList, plB b = true) ∧ Fd X.data.toList) := ⟨hpl, hfd⟩
          have hxz : X.size ≤ 3000 := by
            rw [Lib.size_eq]
            have h5 := wt_short (s := X.data.toList) (n := s.size) (Nat.le_trans (Nat.le_of_lt hwt) (Nat.le_trans HWT.out (by have := (wt_len s.data.toList).2; rwa [← Lib.size_eq] at this))) HZ.out
            have h6 := HZ.out
            omega
          have HFX : Hid (∀ W, Below g w W → Calls Tryd.prog 38 #[.slice (some ⟨b, o, none⟩) k c, .string X, .int .i64 ((m - 1 - L : Nat) : Int)] W fun e W' => e = .returned (.tuple #[.int .i64 (fstA (firstO R X.data.toList 0)), .int .i64 (fstB (firstO R X.data.toList 0))]) ∧ Below W.heap.size W W') := fun W hW => by
            have h := first_any X (m - 1 - L) (.slice (some ⟨b, o, none⟩) k c) R W (by omega) (by omega) HM.out (HS.out.below (Nat.le_of_eq HG.out) hW)
            rw [hrs] at h
            exact h
          have HMB : Hid (m ≤ 3000) := by show _ ≤ _; omega
          have hw8 : wrap64 ((m : Int) - 1) = (m : Int) - 1 := by unfold wrap64; omega
          have hw9 : wrap64 ((m : Int) - 1 - (L : Int)) = (m : Int) - 1 - (L : Int) := by have := HL1.out; clear hw8; unfold wrap64; omega
          have hmx := umax_lay Tryd.prog 0 ((m : Int) - 1 - (L : Int))
          have hmm : max (0 : Int) ((m : Int) - 1 - (L : Int)) = ((m - 1 - L : Nat) : Int) := by clear hw8 hw9; omega
          rw [hmm] at hmx
          have hqI : (0 : Int) ≤ (q : Int) := Int.natCast_nonneg _
          have hqI2 : (q : Int) < (k : Int) := by clear hw8 hw9; omega
          have HGW : Hid (g ≤ wr.heap.size) := hsz
          obtain ⟨z, hz⟩ : ∃ z, m - 1 - L = z := ⟨_, rfl⟩
          rw [hz] at hmx HFX
          clear hr hF hTT hp hro hsp hwt hpl hfd hrs hST hX hXd hxz hzs h2 h3 h4 hfo hrw hsz hmm hz hqN HI HK HEN HWT
          go_wp2_with fail
          refine HST.out.mono ?_
          rintro e w2 ⟨rfl, hb2⟩
          have HB2 := Lib.hid (HB.out.trans (hb2.mono HGW.out))
          clear hb2 c0 c1 c2
          go_wp2_with fail
          refine (HFX.out w2 HB2.out).mono ?_
          rintro e w3 ⟨rfl, hb3⟩
          have HB3 : Hid (Below g w w3) := HB2.out.trans (hb3.mono (Nat.le_trans (Nat.le_of_eq HG.out.symm) HB2.out.size))
          obtain ⟨i1, hi1⟩ : ∃ i1, fstA (firstO R X.data.toList 0) = i1 := ⟨_, rfl⟩
          obtain ⟨k1, hk1⟩ : ∃ k1, fstB (firstO R X.data.toList 0) = k1 := ⟨_, rfl⟩
          rw [hi1, hk1]
          have HI1 := Lib.hid hi1
          have HK1 := Lib.hid hk1
          have HWT2 : Hid (wt X.data.toList ≤ wt s.data.toList) := HWT3.out
          clear hb3 hi1 hk1
          go_wp2
          go_roundw
          case rel => exact ⟨X, i1, k1, rfl, rfl, rfl, HI1, HK1, HPX, HWT2, HEN2, HB3⟩
          case measure => exact HWX.out

set_option maxRecDepth 100000 in
set_option maxHeartbeats 4000000 in
/-- Apply, for any rules and texts. -/
theorem apply_any (s : ByteArray) (sv : Value) (R : List Rul) (w : World) (hT : Tbw w) (hm : Mild R) (hr : RulesW w sv R) (hs : s.size ≤ 1000000) :
    Calls Tryd.prog 18 #[sv, .string s] w fun e w' => ∃ (T : List UInt8) (c : Int), e = .returned (.tuple #[.string ⟨T.toArray⟩, .int .i64 c]) ∧
      (if validRs R = false then T = [] ∧ c = 1 else if 256 < s.size then T = [] ∧ c = 3 else Ends R (foldL s.data.toList) T ∧ c = 0) ∧ Below w.heap.size w w' := by
  obtain ⟨a, c, rfl, hl, hlc, hc, _⟩ := id hr
  obtain ⟨N, hN⟩ : ∃ N, R.length = N := ⟨_, rfl⟩
  rw [hN] at hr hl hlc ⊢
  have hV := rvalid_any _ R w hr hm
  obtain ⟨vb, hvb⟩ : ∃ b, validRs R = b := ⟨_, rfl⟩
  rw [hvb] at hV ⊢
  have HV := Lib.hid hV
  have HVB := Lib.hid hvb
  have HS := Lib.hid hr
  have HT := Lib.hid hT
  obtain ⟨g, hg⟩ : ∃ g, w.heap.size = g := ⟨_, rfl⟩
  have HG := Lib.hid hg
  rw [hg]
  clear hV hvb hr hm hT
  cases vb with
  | false =>
    go_enter Tryd.func18, Tryd.ntmps18
    go_wp2_with fail
    refine HV.out.mono ?_
    rintro e w1 ⟨rfl, hb1⟩
    have HB1 : Hid (Below g w w1) := by rw [← hg]; exact hb1
    clear hb1
    go_wp2
    go_ret2
    exact ⟨[], 1, rfl, by simp, HB1.out⟩
  | true =>
    by_cases h256 : 256 < s.size
    · have hI : (256 : Int) < (s.size : Int) := by omega
      have H256 : Hid (256 < s.size) := h256
      clear h256
      go_enter Tryd.func18, Tryd.ntmps18
      go_wp2_with fail
      refine HV.out.mono ?_
      rintro e w1 ⟨rfl, hb1⟩
      have HB1 : Hid (Below g w w1) := by rw [← hg]; exact hb1
      clear hb1
      go_wp2
      go_ret2
      exact ⟨[], 3, rfl, by simp [H256.out], HB1.out⟩
    · have hI : ¬ (256 : Int) < (s.size : Int) := by omega
      have H256 : Hid (s.size ≤ 256) := by show _ ≤ _; omega
      clear h256
      obtain ⟨X, hX⟩ : ∃ X : ByteArray, (⟨(foldL s.data.toList).toArray⟩ : ByteArray) = X := ⟨_, rfl⟩
      have hXd : X.data.toList = foldL s.data.toList := by rw [← hX]
      have HXZ : Hid (X.size ≤ 3000) := by
        have h1 := join_tot (wordsL s.data.toList)
        have h2 := words_tot s.data.toList
        show _ ≤ _
        rw [Lib.size_eq, hXd]
        unfold foldL
        rw [← Lib.size_eq] at h2
        have := H256.out
        omega
      have HFO : Hid (∀ W, Below g w W → Calls Tryd.prog 10 #[.string s] W fun e w' => e = .returned (.string X) ∧ Below W.heap.size W w') := fun W hW => by
        have h := fold_any s W (HT.out.below (by rw [hg]; exact hW)) hs
        rw [hX] at h
        exact h
      have HSE : Hid (∀ W, Below g w W → Calls Tryd.prog 26 #[.slice a N c, .string X] W fun e w' => ∃ T : List UInt8, e = .returned (.string ⟨T.toArray⟩) ∧ Ends R (foldL s.data.toList) T ∧ Below W.heap.size W w') := fun W hW => by
        have h := settle_any X (.slice a N c) R W (HT.out.below (by rw [hg]; exact hW)) HVB.out (HS.out.below (Nat.le_of_eq hg) hW) HXZ.out (by rw [hXd]; exact fold_ok _) (by rw [hXd]; exact fd_fold _)
        rw [hXd] at h
        exact h
      clear hX hXd HXZ
      go_enter Tryd.func18, Tryd.ntmps18
      go_wp2_with fail
      refine HV.out.mono ?_
      rintro e w1 ⟨rfl, hb1⟩
      have HB1 : Hid (Below g w w1) := by rw [← hg]; exact hb1
      clear hb1
      go_wp2_with fail
      refine (HFO.out w1 HB1.out).mono ?_
      rintro e w2 ⟨rfl, hb2⟩
      have HB2 : Hid (Below g w w2) := HB1.out.trans (hb2.mono (Nat.le_trans (Nat.le_of_eq HG.out.symm) HB1.out.size))
      clear hb2
      go_wp2_with fail
      refine (HSE.out w2 HB2.out).mono ?_
      rintro e w3 ⟨T, rfl, hE, hb3⟩
      have HE := Lib.hid hE
      have HB3 : Hid (Below g w w3) := HB2.out.trans (hb3.mono (Nat.le_trans (Nat.le_of_eq HG.out.symm) HB2.out.size))
      clear hb3 hE
      go_wp2
      go_ret2
      exact ⟨T, 0, rfl, ⟨HE.out, rfl⟩, HB3.out⟩
end Go.Proofs.YtmegmgcfnihhiaaDoor
