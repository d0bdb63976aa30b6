
/- The walk through WordsLetters. -/
import Derived.Test.YtmegmgcfnihhiaaDoorOAwk
import Derived.Laws.IdiomStrings
namespace Go.Proofs.YtmegmgcfnihhiaaDoor
open Go.RowKit Go.Shelf
set_option linter.unusedVariables false
set_option linter.unusedSimpArgs false

theorem conv_one (q : Nat) (c : UInt8) (w : World) (h : w.cell? ⟨q, 0, none⟩ = some (.int .u8 c.toNat)) : (convert 35 9 (.slice (some ⟨q, 0, none⟩) 1 1)).run Tryd.prog w = .ok (.string ⟨#[c]⟩) w := by
  refine run_convert_bytes_back (P := Tryd.prog) w 35 9 5 ⟨q, 0, none⟩ 1 [c] Tryd.underlying35 Tryd.underlying5 Tryd.underlying9 (fun j hj => ?_)
  obtain rfl : j = 0 := by simp at hj; omega
  have ha : (⟨q, 0, none⟩ : Addr).add 0 = ⟨q, 0, none⟩ := by unfold Addr.add; split <;> simp_all
  rw [ha, h]
  rfl

set_option maxHeartbeats 4000000 in
theorem wordsLetters_walk (n : Nat) (w : World) (T : Tbw w) (hn : n < 256) :
    Calls Tryd.prog 6 #[.int .u8 n] w fun e w' => e = .returned (.bool true) ∧ Below w.heap.size w w' := by
  obtain ⟨c, hc⟩ : ∃ c : UInt8, c.toNat = n := ⟨n.toUInt8, by simp; omega⟩
  have HT := Lib.hid T
  have HL0 := Lib.hid (fun W => letter_any n W hn)
  clear T
  have hal : Below w.heap.size w (w.alloc (.cells #[.int .u8 n] 5)) := (Below.refl _ _).alloc (Nat.le_refl _) _
  have HAL := Lib.hid hal
  obtain ⟨s, hs⟩ : ∃ s : ByteArray, (⟨#[c]⟩ : ByteArray) = s := ⟨_, rfl⟩
  have hsd : s.data.toList = [c] := by rw [← hs]
  have HFO := Lib.hid (fun W (b : Below w.heap.size w W) => fold_any s W (HT.out.below b) (by rw [Lib.size_eq, hsd]; simp))
  have HSE : Hid ((⟨[c].toArray⟩ : ByteArray) = s) := hs
  have HSD := Lib.hid hsd
  have HAW := Lib.hid (fun W (b : Below w.heap.size w W) => awake11_any W (HT.out.below b))
  have hcv := conv_one w.heap.size c (w.alloc (.cells #[.int .u8 n] 5)) (by rw [cell_new, ← hc]; rfl)
  rw [hs] at hcv
  clear hal hs hsd
  go_enter Tryd.func6, Tryd.ntmps6
  go_wp2_with fail
  refine (HL0.out _).mono ?_
  rintro e w' ⟨rfl, rfl⟩
  clear hcv
  have HF1 := Lib.hid (HFO.out _ HAL.out)
  generalize w.alloc (.cells #[.int .u8 n] 5) = w1 at *
  obtain ⟨k1, k2⟩ := one_letter c
  obtain ⟨b0, hb0⟩ : ∃ b, letR n = b := ⟨_, rfl⟩
  have hlb : letB c = b0 := by unfold letB; rw [hc, hb0]
  have heq := str_beq (foldL [c]) [c]
  rw [HSE.out] at heq
  have hem := str_beq (foldL [c]) []
  have hsp : ((n : Int) != 32) = !(c == 32) := by
    rw [← hc]
    by_cases e : c = 32
    · subst e; rfl
    · have e2 : c.toNat ≠ 32 := fun e3 => e (UInt8.toNat_inj.1 e3)
      have e3 : (c == 32) = false := by simp [e]
      rw [e3]
      simp only [Bool.not_false, bne_iff_ne, ne_eq]
      omega
  obtain ⟨bs, hbs⟩ : ∃ b, (c == 32) = b := ⟨_, rfl⟩
  rw [hbs] at hsp k1
  obtain ⟨F, hF⟩ : ∃ F, foldL [c] = F := ⟨_, rfl⟩
  have HFF : Hid (∀ W, Below w.heap.size w W → Calls Tryd.prog 10 #[.string s] W fun e w' => e = .returned (.string ⟨F.toArray⟩) ∧ Below W.heap.size W w') := fun W b => by
    have h := HFO.out W b
    rw [HSD.out, hF] at h
    exact h
  rw [hF] at k1 k2 heq hem
  rw [hb0]
  obtain ⟨X, hX⟩ : ∃ X : ByteArray, (⟨F.toArray⟩ : ByteArray) = X := ⟨_, rfl⟩
  rw [hX] at heq hem
  have HXF : Hid (X.data.toList = F) := by show _ = _; rw [← hX]
  rw [hX] at HFF
  obtain ⟨bq, hbq⟩ : ∃ b, decide (F = [c]) = b := ⟨_, rfl⟩
  rw [hbq] at heq k1
  rw [hlb] at k1
  have HF2 := Lib.hid (HFF.out _ HAL.out)
  clear HF1 HFO hF hX hb0 hlb HL0 hbs
  go_wp2_with fail
  refine HF2.out.mono ?_
  rintro e w2 ⟨rfl, hb2⟩
  have HB2 := Lib.hid (HAL.out.trans (hb2.mono HAL.out.size))
  have HF3 := Lib.hid (HFF.out _ HB2.out)
  clear hb2 HF2
  cases F with
  | nil =>
    have hm : X.toList = [] := by rw [ByteArray.toList_eq, HXF.out]
    clear hem k2
    have hst : s.toList = [c] := by rw [ByteArray.toList_eq, HSD.out]
    obtain rfl : bq = false := by
      rw [hm, hst] at heq
      rw [← heq]
      rfl
    clear heq
    obtain rfl : b0 = false := by simpa using k1
    clear hsp k1
    go_wp2_with fail
    refine HF3.out.mono ?_
    rintro e w3 ⟨rfl, hb3⟩
    have HB3 := Lib.hid (HB2.out.trans (hb3.mono HB2.out.size))
    have HA3 := Lib.hid (HAW.out _ HB3.out)
    clear hb3 HF3
    go_wp2_with fail
    refine HA3.out.mono ?_
    rintro e w4 ⟨rfl, hb4⟩
    have HB4 := Lib.hid (HB3.out.trans (hb4.mono HB3.out.size))
    clear hb4
    go_wp2
    go_ret
    exact ⟨rfl, HB4.out⟩
  | cons d F =>
    have hm : ¬ X.toList = [] := by rw [ByteArray.toList_eq, HXF.out]; simp
    have hd := k2 d (by simp)
    have hxs : 0 < X.size := by rw [Lib.size_eq, HXF.out]; simp
    have hix : ∀ w, (Instr.index 9 (.string X) (.int .i64 0)).run Tryd.prog w = .ok (.int .u8 d.toNat) w := fun w => by
      have h0 := byte_drop X hxs
      rw [HXF.out] at h0
      have h1 : (X[0]'hxs) = d := by
        rw [List.drop_zero] at h0
        exact (List.cons.inj h0).1.symm
      have h2 := Tryd.underlying9
      rw [← h1]
      simp [Instr.index, run_underlying Tryd.underlying9, asIntOf, part, go_sem, hxs]
    have hLd : ∀ W, Calls Tryd.prog 11 #[.int .u8 d.toNat] W fun e w' => e = .returned (.bool true) ∧ W = w' := fun W => by
      have h := letter_any d.toNat W d.toNat_lt
      rw [show letR d.toNat = true from hd] at h
      exact h
    have HLD := Lib.hid hLd
    clear hem k2 hd hLd
    cases bq with
    | false =>
      obtain rfl : b0 = false := by simpa using k1
      clear hsp k1
      go_wp2_with fail
      refine HF3.out.mono ?_
      rintro e w3 ⟨rfl, hb3⟩
      have HB3 := Lib.hid (HB2.out.trans (hb3.mono HB2.out.size))
      have HF4 := Lib.hid (HFF.out _ HB3.out)
      clear hb3 HF3
      go_wp2_with fail
      refine HF4.out.mono ?_
      rintro e w4 ⟨rfl, hb4⟩
      have HB4 := Lib.hid (HB3.out.trans (hb4.mono HB3.out.size))
      clear hb4 HF4
      go_wp2_with fail
      refine (HLD.out _).mono ?_
      rintro e w5 ⟨rfl, rfl⟩
      have HA3 := Lib.hid (HAW.out _ HB4.out)
      go_wp2_with fail
      refine HA3.out.mono ?_
      rintro e w6 ⟨rfl, hb6⟩
      have HB6 := Lib.hid (HB4.out.trans (hb6.mono HB4.out.size))
      clear hb6
      go_wp2
      go_ret
      exact ⟨rfl, HB6.out⟩
    | true =>
      cases bs with
      | false =>
        obtain rfl : b0 = true := by simpa using k1
        have hsp2 : ((n : Int) != 32) = true := by simpa using hsp
        clear hsp k1
        go_wp2_with fail
        refine HF3.out.mono ?_
        rintro e w3 ⟨rfl, hb3⟩
        have HB3 := Lib.hid (HB2.out.trans (hb3.mono HB2.out.size))
        have HF4 := Lib.hid (HFF.out _ HB3.out)
        clear hb3 HF3
        go_wp2_with fail
        refine HF4.out.mono ?_
        rintro e w4 ⟨rfl, hb4⟩
        have HB4 := Lib.hid (HB3.out.trans (hb4.mono HB3.out.size))
        clear hb4 HF4
        go_wp2_with fail
        refine (HLD.out _).mono ?_
        rintro e w5 ⟨rfl, rfl⟩
        have HA3 := Lib.hid (HAW.out _ HB4.out)
        go_wp2_with fail
        refine HA3.out.mono ?_
        rintro e w6 ⟨rfl, hb6⟩
        have HB6 := Lib.hid (HB4.out.trans (hb6.mono HB4.out.size))
        clear hb6
        go_wp2
        go_ret
        exact ⟨rfl, HB6.out⟩
      | true =>
        obtain rfl : b0 = false := by simpa using k1
        have hsp2 : ((n : Int) != 32) = false := by simpa using hsp
        clear hsp k1
        go_wp2_with fail
        refine HF3.out.mono ?_
        rintro e w3 ⟨rfl, hb3⟩
        have HB3 := Lib.hid (HB2.out.trans (hb3.mono HB2.out.size))
        have HF4 := Lib.hid (HFF.out _ HB3.out)
        clear hb3 HF3
        go_wp2_with fail
        refine HF4.out.mono ?_
        rintro e w4 ⟨rfl, hb4⟩
        have HB4 := Lib.hid (HB3.out.trans (hb4.mono HB3.out.size))
        clear hb4 HF4
        go_wp2_with fail
        refine (HLD.out _).mono ?_
        rintro e w5 ⟨rfl, rfl⟩
        have HA3 := Lib.hid (HAW.out _ HB4.out)
        go_wp2_with fail
        refine HA3.out.mono ?_
        rintro e w6 ⟨rfl, hb6⟩
        have HB6 := Lib.hid (HB4.out.trans (hb6.mono HB4.out.size))
        clear hb6
        go_wp2
        go_ret
        exact ⟨rfl, HB6.out⟩
end Go.Proofs.YtmegmgcfnihhiaaDoor
