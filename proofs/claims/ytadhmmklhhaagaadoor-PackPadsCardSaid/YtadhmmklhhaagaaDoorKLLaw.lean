
/- The walk of PackLimits. -/
import Derived.Test.YtadhmmklhhaagaaDoorKHLaw
import Derived.Test.YtadhmmklhhaagaaDoorKWid
import Derived.Test.YtadhmmklhhaagaaDoorVPts
namespace Go.Proofs.YtadhmmklhhaagaaDoor
open Go.RowKit
open Num
set_option linter.unusedVariables false

theorem pad_fit (F : Pk) (s : ByteArray) (U : Nat) (h1 : 1 ≤ U) (h2 : U ≤ 1024) (hs : s.size ≤ 100000) (hf : padN s.size U ≤ 16384) : ∃ X : ByteArray, X.size = padN s.size U ∧ ∀ w, Calls Tryd.prog 9 #[.string s, .int .i64 U] w fun e w' => e = .returned (.tuple #[.string X, .int .i64 0]) ∧ Below w.heap.size w w' := by
  have hl : s.data.toList.length = s.size := by rw [← Lib.size_eq]
  have hgt := padN_gt (n := s.size) h1
  refine ⟨⟨(s.data.toList ++ 128 :: List.replicate (padN s.size U - s.size - 1) 0).toArray⟩, ?_, fun w => ?_⟩
  · rw [Lib.size_eq]
    simp only [List.length_append, List.length_cons, List.length_replicate]
    omega
  · have h := F.pad s (U : Int) w hs
    have hr : padR s.data.toList (U : Int) = (s.data.toList ++ 128 :: List.replicate (padN s.size U - s.size - 1) 0, 0) := by
      unfold padR
      rw [if_neg (by omega), Int.toNat_natCast, hl, if_neg (by omega)]
    rw [hr] at h
    exact h
theorem pad_lim (F : Pk) (s : ByteArray) (U : Nat) (h1 : 1 ≤ U) (h2 : U ≤ 1024) (hs : s.size ≤ 100000) (hf : 16384 < padN s.size U) (w : World) : Calls Tryd.prog 9 #[.string s, .int .i64 U] w fun e w' => e = .returned (.tuple #[.string ⟨#[]⟩, .int .i64 3]) ∧ Below w.heap.size w w' := by
  have hl : s.data.toList.length = s.size := by rw [← Lib.size_eq]
  have h := F.pad s (U : Int) w hs
  have hr : padR s.data.toList (U : Int) = ([], 3) := by
    unfold padR
    rw [if_neg (by omega), Int.toNat_natCast, hl, if_pos hf]
  rw [hr] at h
  exact h
/-- How many bytes make the greatest number of elements. -/
def most (k : Nat) : Nat := if k = 0 then 256 else if k = 1 then 2048 else if k = 2 then 4096 else 6144
theorem most_cnt (p : Int) : cnt p (most (wdt p)) = 2048 ∧ 2048 < cnt p (most (wdt p) + 1) ∧ most (wdt p) ≤ 6144 := by
  have h := wdt_le p
  unfold cnt most
  obtain ⟨k, hk⟩ : ∃ k, wdt p = k := ⟨_, rfl⟩
  rw [hk] at h ⊢
  match k, h with
  | 0, _ => decide
  | 1, _ => decide
  | 2, _ => decide
  | 3, _ => decide
theorem made_zeros (n : Nat) (hn : n ≤ 100000) (w : World) : ∃ (Z : ByteArray) (w1 : World), Z.size = n ∧ (Instr.makeSlice 28 (.int .i64 (n : Int)) (.int .i64 (n : Int))).run Tryd.prog w = .ok (.slice (some ⟨w.heap.size, 0, none⟩) n n) w1 ∧
    (convert 28 9 (.slice (some ⟨w.heap.size, 0, none⟩) n n)).run Tryd.prog w1 = .ok (.string Z) w1 ∧ Below w.heap.size w w1 :=
  ⟨_, _, by rw [Lib.size_eq]; simp, run_make_row' (P := Tryd.prog) 28 5 (.int .u8 0) 1 Tryd.underlying28 infoU8 rfl .i64 .i64 n (by omega) (by omega) w, string_zeros w n, (Below.refl _ _).alloc (Nat.le_refl _) _⟩

set_option maxRecDepth 100000 in
set_option maxHeartbeats 16000000 in
theorem packLimits_walkF (F : Pk) (v : Value) (t : List Int) (m : Nat) (w : World) (hw : Tb w) (hv : Ints w v t) (hm : m < 256) :
    Calls Tryd.prog 4 #[v, .int .u8 m] w fun e w' => e = .returned (.bool true) ∧ Below w.heap.size w w' := by
  have hw0 := hw.size
  by_cases hl : (t.length : Int) ≤ 500
  · have hl' : decide ((t.length : Int) ≤ 500) = true := by simpa using hl
    clear hl
    have HW := Lib.hid hw
    clear hw
    have hE : (m : Int) % 2 = 0 ∨ (m : Int) % 2 = 1 := by omega
    go_enter Tryd.func4, Tryd.ntmps4
    go_wp2_with (first
      | (go_at_call 14; refine (light_any _ _ _ hv).mono ?_; rintro e w' ⟨rfl, rfl⟩)
      | (go_at_call 15; refine (roll_any _ _ (by obtain ⟨x, y, h, _⟩ := hv; exact ⟨x, _, y, h⟩)).mono ?_; rintro e w' ⟨rfl, rfl⟩))
    refine (prime_any _ v t _ (dice_new hv)).mono ?_
    rintro e w1 ⟨p, hprm, hp2, rfl, hd1, hbut⟩
    have hb1 := (But.trans (But.alloc w.heap.size w _) hbut).below (Nat.le_refl _) (Nat.le_refl _)
    have hp0 : 2 ≤ p := hprm.1
    have W1 := Lib.hid hb1
    have s1 := hb1.size
    have HPR := Lib.hid hprm
    obtain ⟨hc1, hc2, hc3⟩ := most_cnt p
    have hk3 := wdt_le p
    have HWD := Lib.hid (fun w => refWidth_any p w (by omega))
    obtain ⟨g1, hg1⟩ : ∃ g, w1.heap.size = g := ⟨_, rfl⟩
    have HG1 := Lib.hid hg1
    clear hd1 hbut hv hb1 hprm
    go_wp2_with fail
    have hba := W1.out.alloc s1 (.cells #[.int .i64 256, .int .i64 2048, .int .i64 4096, .int .i64 6144] 3)
    have hca : (w1.alloc (.cells #[.int .i64 256, .int .i64 2048, .int .i64 4096, .int .i64 6144] 3)).heap[g1]? = some (.cells #[.int .i64 256, .int .i64 2048, .int .i64 4096, .int .i64 6144] 3 (0, 0)) := by
      rw [← HG1.out]; exact heap_alloc_new _ _
    generalize w1.alloc (.cells #[.int .i64 256, .int .i64 2048, .int .i64 4096, .int .i64 6144] 3) = wb at *
    have WB := Lib.hid hba
    have sb := hba.size
    refine (HWD.out wb).mono ?_
    rintro e wb' ⟨rfl, rfl⟩
    have hcl : wb.cell? ⟨g1, wdt p, none⟩ = some (.int .i64 (most (wdt p))) := by
      simp only [World.cell?, hca]
      unfold most
      generalize wdt p = k at *
      match k, hk3 with
      | 0, _ => rfl
      | 1, _ => rfl
      | 2, _ => rfl
      | 3, _ => rfl
    obtain ⟨K, hK⟩ : ∃ K, most (wdt p) = K := ⟨_, rfl⟩
    rw [hK] at hcl hc1 hc2 hc3
    obtain ⟨k, hk⟩ : ∃ k, wdt p = k := ⟨_, rfl⟩
    rw [hk] at hcl hk3 ⊢
    have hk4 : (k : Int) < 4 := by omega
    have hk5 : k < 4 := by omega
    clear hba hca hK hk HWD W1 hg1
    rcases hE with hE | hE
    · have hKw : IntKind.i64.wrap ((K : Int) + 0) = (K : Int) := by rw [IntKind.wrap_i64]; omega
      obtain ⟨Z, wc, hZ, hmk, hcv, hbc⟩ := made_zeros K (by omega) wb
      obtain ⟨gb, hgb⟩ : ∃ g, wb.heap.size = g := ⟨_, rfl⟩
      rw [hgb] at hmk hcv
      have WC := Lib.hid (WB.out.trans (hbc.mono sb))
      have sc : w.heap.size ≤ wc.heap.size := WC.out.size
      have HP := Lib.hid (F.packOk p Z wc (HW.out.below hw0 WC.out) HPR.out hp2 (by omega) (by rw [hZ, hc1]; omega))
      rw [hZ, hc1] at HP
      clear hbc hc1 hc2 hk3 hgb
      go_wp2_with fail
      refine HP.out.mono ?_
      rintro e wd ⟨aa, ca, rfl, hi, hbd⟩
      have WD := Lib.hid (WC.out.trans (hbd.mono sc))
      have sd : w.heap.size ≤ wd.heap.size := WD.out.size
      clear hbd WC HP WB
      obtain ⟨Z1, we, hZ1, hmk1, hcv1, hbe⟩ := made_zeros 16383 (by omega) wd
      have hmk1' : (Instr.makeSlice 28 (.int .i64 16383) (.int .i64 16383)).run Tryd.prog wd = .ok (.slice (some ⟨wd.heap.size, 0, none⟩) 16383 16383) we := hmk1
      obtain ⟨gd, hgd⟩ : ∃ g, wd.heap.size = g := ⟨_, rfl⟩
      rw [hgd] at hmk1' hcv1
      have WE := Lib.hid (WD.out.trans (hbe.mono sd))
      have se : w.heap.size ≤ we.heap.size := WE.out.size
      obtain ⟨X1, hX1, C1⟩ := pad_fit F Z1 1 (by omega) (by omega) (by omega) (by rw [hZ1]; decide)
      have hX2 : X1.size = 16384 := by rw [hX1, hZ1]; rfl
      have C1 : Hid (∀ w, Calls Tryd.prog 9 #[.string Z1, .int .i64 1] w fun e w' => e = .returned (.tuple #[.string X1, .int .i64 0]) ∧ Below w.heap.size w w') := C1
      clear hmk1 hX1 hbe hgd
      go_wp2_with fail
      refine (C1.out we).mono ?_
      rintro e wf ⟨rfl, hbf⟩
      have WF := Lib.hid (WE.out.trans (hbf.mono se))
      have sf : w.heap.size ≤ wf.heap.size := WF.out.size
      clear hbf WE C1 WD
      obtain ⟨Z2, wg, hZ2, hmk2, hcv2, hbg⟩ := made_zeros 16384 (by omega) wf
      have hmk2' : (Instr.makeSlice 28 (.int .i64 16384) (.int .i64 16384)).run Tryd.prog wf = .ok (.slice (some ⟨wf.heap.size, 0, none⟩) 16384 16384) wg := hmk2
      obtain ⟨gf, hgf⟩ : ∃ g, wf.heap.size = g := ⟨_, rfl⟩
      rw [hgf] at hmk2' hcv2
      have WG := Lib.hid (WF.out.trans (hbg.mono sf))
      have sg : w.heap.size ≤ wg.heap.size := WG.out.size
      have C2 : Hid (Calls Tryd.prog 9 #[.string Z2, .int .i64 1] wg fun e w' => e = .returned (.tuple #[.string ⟨#[]⟩, .int .i64 3]) ∧ Below wg.heap.size wg w') := pad_lim F Z2 1 (by omega) (by omega) (by omega) (by rw [hZ2]; decide) wg
      clear hmk2 hbg hgf
      go_wp2_with fail
      refine C2.out.mono ?_
      rintro e wh ⟨rfl, hbh⟩
      have WH := Lib.hid (WG.out.trans (hbh.mono sg))
      have sh : w.heap.size ≤ wh.heap.size := WH.out.size
      have HA := Lib.hid (awake5_any F wh (HW.out.below hw0 WH.out))
      clear hbh WG C2 WF
      go_wp2_with fail
      refine HA.out.mono ?_
      rintro e wi ⟨rfl, hbi⟩
      have WI := Lib.hid (WH.out.trans (hbi.mono sh))
      clear hbi WH
      go_wp2
      go_ret
      exact ⟨rfl, WI.out⟩
    · obtain ⟨K1, hK1⟩ : ∃ K1, K + 1 = K1 := ⟨_, rfl⟩
      rw [hK1] at hc2
      have hKw : (K : Int) + 1 = (K1 : Int) := by omega
      obtain ⟨Z, wc, hZ, hmk, hcv, hbc⟩ := made_zeros K1 (by omega) wb
      obtain ⟨gb, hgb⟩ : ∃ g, wb.heap.size = g := ⟨_, rfl⟩
      rw [hgb] at hmk hcv
      have WC := Lib.hid (WB.out.trans (hbc.mono sb))
      have sc : w.heap.size ≤ wc.heap.size := WC.out.size
      have HP := Lib.hid (F.packLim p Z wc (HW.out.below hw0 WC.out) HPR.out hp2 (by omega) (by rw [hZ]; exact hc2))
      have hK1b : K1 ≤ 6145 := by omega
      clear hbc hc1 hc2 hk3 hgb hK1
      go_wp2_with fail
      refine HP.out.mono ?_
      rintro e wd ⟨aa, ca, rfl, hbd⟩
      have WD := Lib.hid (WC.out.trans (hbd.mono sc))
      have sd : w.heap.size ≤ wd.heap.size := WD.out.size
      clear hbd WC HP WB
      obtain ⟨Z1, we, hZ1, hmk1, hcv1, hbe⟩ := made_zeros 16382 (by omega) wd
      have hmk1' : (Instr.makeSlice 28 (.int .i64 16382) (.int .i64 16382)).run Tryd.prog wd = .ok (.slice (some ⟨wd.heap.size, 0, none⟩) 16382 16382) we := hmk1
      obtain ⟨gd, hgd⟩ : ∃ g, wd.heap.size = g := ⟨_, rfl⟩
      rw [hgd] at hmk1' hcv1
      have WE := Lib.hid (WD.out.trans (hbe.mono sd))
      have se : w.heap.size ≤ we.heap.size := WE.out.size
      obtain ⟨X1, hX1, C1⟩ := pad_fit F Z1 1 (by omega) (by omega) (by omega) (by rw [hZ1]; decide)
      have hX2 : X1.size = 16383 := by rw [hX1, hZ1]; rfl
      have C1 : Hid (∀ w, Calls Tryd.prog 9 #[.string Z1, .int .i64 1] w fun e w' => e = .returned (.tuple #[.string X1, .int .i64 0]) ∧ Below w.heap.size w w') := C1
      clear hmk1 hX1 hbe hgd
      go_wp2_with fail
      refine (C1.out we).mono ?_
      rintro e wf ⟨rfl, hbf⟩
      have WF := Lib.hid (WE.out.trans (hbf.mono se))
      have sf : w.heap.size ≤ wf.heap.size := WF.out.size
      clear hbf WE C1 WD
      obtain ⟨Z2, wg, hZ2, hmk2, hcv2, hbg⟩ := made_zeros 16384 (by omega) wf
      have hmk2' : (Instr.makeSlice 28 (.int .i64 16384) (.int .i64 16384)).run Tryd.prog wf = .ok (.slice (some ⟨wf.heap.size, 0, none⟩) 16384 16384) wg := hmk2
      obtain ⟨gf, hgf⟩ : ∃ g, wf.heap.size = g := ⟨_, rfl⟩
      rw [hgf] at hmk2' hcv2
      have WG := Lib.hid (WF.out.trans (hbg.mono sf))
      have sg : w.heap.size ≤ wg.heap.size := WG.out.size
      have C2 : Hid (Calls Tryd.prog 9 #[.string Z2, .int .i64 1] wg fun e w' => e = .returned (.tuple #[.string ⟨#[]⟩, .int .i64 3]) ∧ Below wg.heap.size wg w') := pad_lim F Z2 1 (by omega) (by omega) (by omega) (by rw [hZ2]; decide) wg
      clear hmk2 hbg hgf
      go_wp2_with fail
      refine C2.out.mono ?_
      rintro e wh ⟨rfl, hbh⟩
      have WH := Lib.hid (WG.out.trans (hbh.mono sg))
      have sh : w.heap.size ≤ wh.heap.size := WH.out.size
      have HA := Lib.hid (awake5_any F wh (HW.out.below hw0 WH.out))
      clear hbh WG C2 WF
      go_wp2_with fail
      refine HA.out.mono ?_
      rintro e wi ⟨rfl, hbi⟩
      have WI := Lib.hid (WH.out.trans (hbi.mono sh))
      clear hbi WH
      go_wp2
      go_ret
      exact ⟨rfl, WI.out⟩
  · have hl' : decide ((t.length : Int) ≤ 500) = false := by simpa using hl
    have HA := Lib.hid (awake5_any F w hw)
    clear hl
    go_enter Tryd.func4, Tryd.ntmps4
    go_wp2_with (go_at_call 14; refine (light_any _ _ _ hv).mono ?_; rintro e w' ⟨rfl, rfl⟩)
    refine HA.out.mono ?_
    rintro e w1 ⟨rfl, hb1⟩
    have HB1 := Lib.hid hb1
    clear hb1
    go_wp2
    go_ret
    exact ⟨rfl, HB1.out⟩
end Go.Proofs.YtadhmmklhhaagaaDoor
