
/- What is in padded strings: the walk of the document's Strip. -/
import Derived.Test.YtadhmmklhhaagaaDoorKPad
import Derived.Test.YtadhmmklhhaagaaDoorStrs
import Derived.Test.YtadhmmklhhaagaaDoorVRtx
namespace Go.Proofs.YtadhmmklhhaagaaDoor
open Go.RowKit
set_option linter.unusedVariables false
set_option linter.unusedSimpArgs false

theorem ext_take (s : ByteArray) (k : Nat) : (s.extract 0 k).data.toList = s.data.toList.take k := by
  have h := cut_toList s 0 k
  rw [Nat.zero_add] at h
  rw [← h, List.drop_zero]
/-- All that stands behind place i is 0. -/
def Zeros (l : List UInt8) (i : Nat) : Prop := ∀ j, i ≤ j → j < l.length → l.getD j 1 = 0
theorem no_pad_zero {l : List UInt8} (h : Zeros l 0) (t : List UInt8) (u : Nat) : ¬ PadOf l t u := by
  intro hp
  obtain ⟨h1, h2, _⟩ := id hp
  obtain ⟨_, h4⟩ := (padOf_iff h1 h2).1 hp
  generalize padN t.length u - t.length - 1 = k at *
  have h5 := h t.length (by omega) (by rw [h4]; simp)
  rw [h4] at h5
  simp [List.getD] at h5
theorem pad_at {l : List UInt8} {i : Nat} (h : Zeros l (i + 1)) (hi : i < l.length) (hn : l.getD i 0 ≠ 0) {t : List UInt8} {u : Nat} (hp : PadOf l t u) : l.getD i 0 = 128 ∧ t = l.take i ∧ l.length ≤ 16384 := by
  have hlen := (padOf_len hp).2.2
  obtain ⟨h1, h2, _⟩ := id hp
  obtain ⟨_, h4⟩ := (padOf_iff h1 h2).1 hp
  generalize padN t.length u - t.length - 1 = k at *
  subst h4
  have h5 := last_of (t := t) (k := k) (i := i) hi (fun j hj hjl => h j (by omega) hjl) hn
  subst h5
  refine ⟨by simp [List.getD], by simp, hlen⟩

set_option maxRecDepth 100000 in
set_option maxHeartbeats 8000000 in
theorem refStrip_any (s : ByteArray) (w : World) (hs : s.size ≤ 1000000000) :
    Calls Tryd.prog 13 #[.string s] w fun e w' => ∃ r, e = two r ∧ Strips s.data.toList r ∧ Below w.heap.size w w' := by
  obtain ⟨l, hl⟩ : ∃ l, s.data.toList = l := ⟨_, rfl⟩
  obtain ⟨N, hN⟩ : ∃ N, s.size = N := ⟨_, rfl⟩
  have hln : l.length = N := by rw [← hl, ← hN, ← Lib.size_eq]
  rw [hl]
  rw [hN] at hs
  rcases Nat.eq_zero_or_pos N with hN0 | hN0
  · have hz : Zeros l 0 := fun j _ hj => by omega
    have HR : Hid (Strips l ([], 4)) := .inr ⟨fun t u => no_pad_zero hz t u, rfl⟩
    subst hN0
    clear hl hln hz
    go_enter Tryd.func13, Tryd.ntmps13
    go_wp2_with fail
    go_loop [4] (fun v => v = .int .i64 (-1)) (fun v => 0)
    case atStart => first | rfl | go_num
    case round =>
      subst hrel
      go_wp2
      go_ret2
      exact ⟨_, _, rfl, HR.out, Below.refl _ _⟩
  · obtain ⟨N1, rfl⟩ : ∃ N1, N = N1 + 1 := ⟨N - 1, by omega⟩
    have HLN := Lib.hid hln
    have HL := Lib.hid hl
    have HSN := Lib.hid hN
    have HZ0 : Hid (Zeros l (N1 + 1)) := fun j hj hjl => by omega
    clear hl hln hN0
    go_enter Tryd.func13, Tryd.ntmps13
    go_wp2_with fail
    go_loop [4] (fun v => (∃ i : Nat, i ≤ N1 ∧ v = .int .i64 i ∧ Hid (Zeros l (i + 1))) ∨ (v = .int .i64 (-1) ∧ Hid (Zeros l 0))) (fun v => (intOf v + 1).toNat)
    case atStart => exact .inl ⟨N1, Nat.le_refl _, by first | rfl | go_num, HZ0⟩
    case round =>
      rcases hrel with ⟨i, hi, rfl, HZ⟩ | ⟨rfl, HZ⟩
      · have hix := index_str s i (by rw [HSN.out]; omega)
        rw [HL.out] at hix
        obtain ⟨c, hc⟩ : ∃ c : Nat, (l.getD i 0).toNat = c := ⟨_, rfl⟩
        have hcl : c < 256 := by rw [← hc]; exact (l.getD i 0).toNat_lt
        rw [show Sha.bt l i = (c : Int) by rw [← hc]; rfl] at hix
        have hge : decide ((0 : Int) ≤ (i : Int)) = true := decide_eq_true (by omega)
        have hlt : decide ((i : Int) < 0) = false := decide_eq_false (by omega)
        have hln := HLN.out
        by_cases hc0 : c = 0
        · have hz : l.getD i 0 = 0 := by
            apply UInt8.toNat_inj.1
            rw [hc, hc0]; rfl
          have hz1 : l.getD i 1 = 0 := by
            have h1 : i < l.length := by omega
            simp [List.getD, h1] at hz ⊢
            exact hz
          have HZ2 : Hid (Zeros l i) := fun j hj hjl => by
            rcases Nat.eq_or_lt_of_le hj with h | h
            · subst h; exact hz1
            · exact HZ.out j h hjl
          have q1 : ((c : Int) == 0) = true := by rw [hc0]; rfl
          have q2 : (c == 0) = true := by rw [hc0]; rfl
          clear hz hz1 hc hc0 hln HZ
          rcases Nat.eq_zero_or_pos i with hi0 | hi0
          · have hs1 : (i : Int) - 1 = -1 := by omega
            have HZ3 : Hid (Zeros l 0) := by rw [← hi0]; exact HZ2
            clear hi0 HZ2
            go_wp2
            go_round
            case rel => exact .inr ⟨by first | rfl | go_num, HZ3⟩
            case measure => first | (simp [intOf]; done) | (simp [intOf]; omega)
          · obtain ⟨i', hi'⟩ : ∃ i', i = i' + 1 := ⟨i - 1, by omega⟩
            have hs1 : (i : Int) - 1 = (i' : Int) := by omega
            have HZ3 : Hid (Zeros l (i' + 1)) := by rw [← hi']; exact HZ2
            have hile : i' ≤ N1 := by omega
            have hmeas : i' < i := by omega
            clear hi' hi0 HZ2
            go_wp2
            go_round
            case rel => exact .inl ⟨i', hile, by first | rfl | go_num, HZ3⟩
            case measure => simp [intOf]; omega
        · have q1 : ((c : Int) == 0) = false := by simp only [beq_eq_false_iff_ne]; omega
          have q2 : (c == 0) = false := by simp only [beq_eq_false_iff_ne]; omega
          have hne : l.getD i 0 ≠ 0 := fun h => by rw [h] at hc; exact hc0 hc.symm
          have HPA : Hid (∀ t u, PadOf l t u → c = 128 ∧ t = l.take i ∧ N1 + 1 ≤ 16384) := fun t u hp => by
            obtain ⟨h1, h2, h3⟩ := pad_at HZ.out (by omega) hne hp
            rw [h1] at hc
            exact ⟨hc.symm, h2, by omega⟩
          clear hne hc hc0 hln
          by_cases hc128 : c = 128
          · have q3 : ((c : Int) != 128) = false := by rw [hc128]; rfl
            have q4 : (c != 128) = false := by rw [hc128]; rfl
            by_cases hbig : 16384 < N1 + 1
            · have q5 : decide ((16384 : Int) < (N1 : Int) + 1) = true := decide_eq_true (by omega)
              have q6 : decide ((16384 : Int) < ((N1 + 1 : Nat) : Int)) = true := decide_eq_true (by omega)
              have HR : Hid (Strips l ([], 4)) := .inr ⟨fun t u hp => by have := (HPA.out t u hp).2.2; omega, rfl⟩
              clear hc128 hbig
              go_wp2
              go_ret2
              exact ⟨_, _, rfl, HR.out, Below.refl _ _⟩
            · have q5 : decide ((16384 : Int) < (N1 : Int) + 1) = false := decide_eq_false (by omega)
              have q6 : decide ((16384 : Int) < ((N1 + 1 : Nat) : Int)) = false := decide_eq_false (by omega)
              have HT : Hid (∀ t u, PadOf l t u → t = l.take i) := fun t u hp => (HPA.out t u hp).2.1
              have hiN : i ≤ N1 + 1 := by omega
              have HCP : Hid (∀ (u : Int) w, Calls Tryd.prog 10 #[.string (s.extract 0 i), .int .i64 u] w fun e w' => e = two (padR (l.take i) u) ∧ Below w.heap.size w w') := fun u w => by
                have h := refPad_any (s.extract 0 i) u w (by rw [Lib.size_eq, ext_take, List.length_take, HL.out, HLN.out]; omega)
                rw [ext_take, HL.out] at h
                exact h
              have HEX : Hid ((s.extract 0 i) = ⟨(l.take i).toArray⟩) := by
                apply bytes_ext
                rw [ext_take, HL.out]
              obtain ⟨t, ht⟩ : ∃ t, l.take i = t := ⟨_, rfl⟩
              rw [ht] at HT HCP HEX
              have HW0 : Hid (Below w.heap.size w w) := Below.refl _ _
              have HU0 : Hid (∀ u' : Nat, 1 ≤ u' → u' < 1 → ¬ PadOf l t u') := fun u' h1 h2 => by omega
              clear hc128 hbig HPA ht
              go_wp2_with fail
              go_loopw [5] (fun v wr => ∃ u : Nat, 1 ≤ u ∧ u ≤ 1025 ∧ v = .int .i64 u ∧ Hid (∀ u' : Nat, 1 ≤ u' → u' < u → ¬ PadOf l t u') ∧ Hid (Below w.heap.size w wr)) (fun v _ => 1025 - (intOf v).toNat)
              case atStart => exact ⟨1, by omega, by omega, rfl, HU0, HW0⟩
              case round =>
                obtain ⟨u, hu1, hu2, rfl, HU, HB⟩ := hrel
                have hsr := HB.out.size
                by_cases hul : u ≤ 1024
                · have q7 : decide ((u : Int) ≤ 1024) = true := decide_eq_true (by omega)
                  have HC := HCP.out (u : Int) wr
                  obtain ⟨rl, re, hre⟩ : ∃ rl re, padR t (u : Int) = (rl, re) := ⟨_, _, rfl⟩
                  rw [hre] at HC
                  unfold two at HC
                  simp only at HC
                  obtain ⟨P, hP⟩ : ∃ P : ByteArray, (⟨rl.toArray⟩ : ByteArray) = P := ⟨_, rfl⟩
                  rw [hP] at HC
                  have HC := Lib.hid HC
                  have hPl : P.data.toList = rl := by rw [← hP]
                  by_cases hyes : re = 0 ∧ P = s
                  · obtain ⟨h1, h2⟩ := hyes
                    have q8 : (re == 0) = true := by rw [h1]; rfl
                    have q9 : (P.toList == s.toList) = true := by rw [h2]; simp
                    have HR : Hid (Strips l (t, 0)) := .inl ⟨t, u, ⟨hu1, hul, by rw [hre, h1, ← hPl, h2, HL.out]⟩, rfl⟩
                    clear h1 h2 hre hP hPl
                    go_wp2_with fail
                    refine HC.out.mono ?_
                    rintro e w2 ⟨rfl, hb2⟩
                    have HB2 := Lib.hid (HB.out.trans (hb2.mono hsr))
                    clear hb2 HB HC
                    go_wp2
                    go_ret2
                    exact ⟨(t, 0), by rw [HEX.out]; rfl, HR.out, HB2.out⟩
                  · have HU2 : Hid (∀ u' : Nat, 1 ≤ u' → u' < u + 1 → ¬ PadOf l t u') := fun u' h1 h2 hp => by
                      rcases Nat.eq_or_lt_of_le (Nat.le_of_lt_succ h2) with h | h
                      · subst h
                        have h3 := hp.2.2
                        rw [hre] at h3
                        obtain ⟨h4, h5⟩ := Prod.mk.inj h3
                        exact hyes ⟨h5, bytes_ext (by rw [hPl, h4, HL.out])⟩
                      · exact HU.out u' h1 h hp
                    have hcs : ((re == 0) = false) ∨ ((re == 0) = true ∧ (P.toList == s.toList) = false) := by
                      by_cases h1 : re = 0
                      · right
                        refine ⟨by rw [h1]; rfl, ?_⟩
                        rw [beq_dec]
                        exact decide_eq_false fun h2 => hyes ⟨h1, h2⟩
                      · left
                        simpa using h1
                    clear hyes hre hP hPl HU
                    rcases hcs with q8 | ⟨q8, q9⟩
                    all_goals
                      go_wp2_with fail
                      refine HC.out.mono ?_
                      rintro e w2 ⟨rfl, hb2⟩
                      have HB2 := Lib.hid (HB.out.trans (hb2.mono hsr))
                      clear hb2 HB HC
                      go_wp2
                      go_roundw
                      case rel => exact ⟨u + 1, by omega, by omega, by go_num, HU2, HB2⟩
                      case measure => simp [intOf]; omega
                · have q7 : decide ((u : Int) ≤ 1024) = false := decide_eq_false (by omega)
                  have HR : Hid (Strips l ([], 4)) := .inr ⟨fun t' u' hp => by
                    have h1 := HT.out t' u' hp
                    subst h1
                    exact HU.out u' hp.1 (by have := hp.2.1; omega) hp, rfl⟩
                  clear HU
                  go_wp2
                  go_ret2
                  exact ⟨([], 4), rfl, HR.out, HB.out⟩
          · have q3 : ((c : Int) != 128) = true := by simp only [bne_iff_ne]; omega
            have q4 : (c != 128) = true := by simp only [bne_iff_ne]; omega
            have HR : Hid (Strips l ([], 4)) := .inr ⟨fun t u hp => hc128 (HPA.out t u hp).1, rfl⟩
            clear hc128
            go_wp2
            go_ret2
            exact ⟨[], 4, rfl, HR.out, Below.refl _ _⟩
      · have HR : Hid (Strips l ([], 4)) := .inr ⟨fun t u => no_pad_zero HZ.out t u, rfl⟩
        go_wp2
        go_ret2
        exact ⟨[], 4, rfl, HR.out, Below.refl _ _⟩
end Go.Proofs.YtadhmmklhhaagaaDoor
