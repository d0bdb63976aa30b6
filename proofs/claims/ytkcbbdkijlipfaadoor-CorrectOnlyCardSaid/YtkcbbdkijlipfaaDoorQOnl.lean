
/- The walk through CorrectOnly. -/
import Derived.Test.YtkcbbdkijlipfaaDoorQOst
import Derived.Deep.RegionHeld3
namespace Go.Proofs.YtkcbbdkijlipfaaDoor
open Go.RowKit Go.Sort
open Num
set_option linter.unusedVariables false

set_option maxRecDepth 100000 in
set_option maxHeartbeats 16000000 in
theorem correctOnly_walk (s : Value) (l : List Int) (z : Nat) (w : World) (hw : Wheel w) (hs : Ints w s l) (hz : z < 256) :
    Calls Tryd.prog 4 #[s, .int .u8 z] w fun e w' => e = .returned (.bool true) ∧ Below w.heap.size w w' := by
  have HL := Lib.hid (light_any s l w hs)
  have HAW := Lib.hid (awake7_any w hw)
  obtain ⟨g, hg⟩ : ∃ g, w.heap.size = g := ⟨_, rfl⟩
  have hd0 := dice_new hs
  have hta : 1 < g := by rw [← hg]; exact hw.size
  obtain ⟨bl, hbl⟩ : ∃ b, decide ((l.length : Int) ≤ 500) = b := ⟨_, rfl⟩
  rw [hbl] at HL
  have HR := Lib.hid (roll_any s w (by obtain ⟨a, c, h, _⟩ := hs; exact ⟨a, _, c, h⟩))
  rw [hg] at HR hd0
  rw [hg]
  have HW0 := Lib.hid (hw.below hw.size ((Below.refl w.heap.size w).alloc (Nat.le_refl _) (.cells #[s, .int .i64 0] 57)))
  have HB0 : Hid (Below g w (w.alloc (.cells #[s, .int .i64 0] 57))) := by rw [← hg]; exact (Below.refl _ _).alloc (Nat.le_refl _) _
  have HD0 := Lib.hid hd0
  obtain ⟨K, hK, hK2⟩ : ∃ K : Nat, (z : Int) % 3 = (K : Int) ∧ K ≤ 2 := ⟨z % 3, by omega, by omega⟩
  clear hd0 hw hs hbl
  cases bl with
  | false =>
    go_enter Tryd.func4, Tryd.ntmps4
    go_wp2_with fail
    refine HL.out.mono ?_
    rintro e w' ⟨rfl, rfl⟩
    go_wp2_with fail
    refine HAW.out.mono ?_
    rintro e w' ⟨rfl, hb⟩
    rw [hg] at hb
    have HB := Lib.hid hb
    clear hb
    go_wp2
    go_ret
    exact ⟨rfl, HB.out⟩
  | true =>
    go_enter Tryd.func4, Tryd.ntmps4
    go_wp2_with fail
    refine HL.out.mono ?_
    rintro e w' ⟨rfl, rfl⟩
    go_wp2_with fail
    refine HR.out.mono ?_
    rintro e w1 ⟨rfl, rfl⟩
    generalize w.alloc (.cells #[s, .int .i64 0] 57) = w1 at *
    go_wp2_with fail
    refine (next_any g s l 5 w1 HD0.out (by omega) (by omega)).mono ?_
    rintro e w2 ⟨r, r0, r1, rfl, hd2, hb2⟩
    obtain ⟨N, hN⟩ := Int.eq_ofNat_of_zero_le (show 0 ≤ 1 + r by omega)
    have hNN : 1 ≤ N ∧ N ≤ 5 := ⟨by omega, by omega⟩
    have hwr : IntKind.i64.wrap (1 + r) = (N : Int) := by rw [IntKind.wrap_i64]; omega
    obtain ⟨q, hq⟩ : ∃ q, w2.heap.size = q := ⟨_, rfl⟩
    have HR0 : Hid (RunW w w2 g q s l (.slice none 0 0) (.slice none 0 0) (plN 0) []) := by
      have kb := hb2.below (Nat.le_refl g) (Nat.le_of_lt HD0.out.size)
      exact ⟨gath_nil _ _, gath_nil _ _, fun k h => by simp [Value.ownBlock] at h, hd2, HB0.out.trans kb, HW0.out.below hta kb, by rw [← hq]; exact hd2.size, by omega, hta⟩
    clear hb2 hd2 HD0 HB0 HW0 HL HR HAW hN r0 r1
    go_wp2_with fail
    clear hwr hq
    go_loopw [6, 7, 9, 28] (fun vx vy _ i wr => ∃ (k : Nat) (zs : List Int), k ≤ N ∧ i = .int .i64 k ∧ zs.length = k ∧ Hid (Els 5 zs) ∧ Hid (RunW w wr g q s l vx vy (plN k) zs)) (fun _ _ _ i _ => N - (intOf i).toNat)
    case atStart => exact ⟨0, [], Nat.zero_le _, rfl, rfl, Lib.hid (fun x hx => (by cases hx)), HR0⟩
    case round =>
      obtain ⟨k, zs, hk, rfl, hzl, HE, HW⟩ := hrel
      have HZL := Lib.hid hzl
      clear hzl
      by_cases hlt : k < N
      · clear HR0
        go_wp2_with (at_builtin; refine append_runX _ rfl _ _ rfl w g q s l _ _ _ _ (k : Int) rfl (HW.out.alloc _) wr.heap.size rfl (cell_alloc_new _ _ _ _ rfl) (by rw [plN_len]; omega) ?_; intro v9 w9 ht9; have HT9 := Lib.hid ht9; clear ht9)
        clear HW
        refine (next_any g s l 5 w9 HT9.out.di (by omega) (by omega)).mono ?_
        rintro e w10 ⟨y, y0, y1, rfl, hd, hb⟩
        have HT10 := Lib.hid (HT9.out.but hb hd)
        have HY : Hid (El 5 y) := ⟨y0, y1⟩
        clear HT9 hd hb
        go_wp2_with (at_builtin; refine append_runY _ rfl _ _ rfl w g q s l _ _ _ _ y rfl (HT10.out.alloc _) w10.heap.size rfl (cell_alloc_new _ _ _ _ rfl) (by rw [HZL.out]; omega) ?_; intro v11 w11 ht11; have HT11 := Lib.hid ht11; clear ht11)
        go_roundw
        case rel =>
          refine ⟨k + 1, zs ++ [y], by omega, by go_num, by rw [List.length_append, HZL.out]; rfl, Lib.hid fun x hx => ?_, ?_⟩
          · rcases List.mem_append.1 hx with h | h
            · exact HE.out x h
            · simp at h; subst h; exact HY.out
          · have h := HT11.out
            rw [plN_succ] at h
            exact Lib.hid h
        case measure => simp [intOf]; omega
      · obtain rfl : k = N := by omega
        obtain ⟨ax, cx, rfl⟩ := (HW.out.gx.reads (by rw [plN_len]; omega)).shape
        obtain ⟨ay, cy, rfl⟩ := (HW.out.gy.reads (by rw [HZL.out]; omega)).shape
        have hix := HW.out.gx.reads (by rw [plN_len]; omega)
        have hiy := HW.out.gy.reads (by rw [HZL.out]; omega)
        rw [plN_len] at hix
        rw [HZL.out] at hiy
        rw [plN_len, HZL.out] at HW
        rw [plN_len, HZL.out]
        have HIX := Lib.hid hix
        have HIY := Lib.hid hiy
        clear hix hiy HR0
        go_wp2_with fail
        refine (one_any 5 2 (K : Int) _ _ (plN k) zs wr HW.out.wh (by decide) (by decide) (wf64 (by omega) (by omega)) HIX.out HIY.out).mono ?_
        rintro e w4 ⟨v4, f, c, rfl, hoa, hi4, hb4⟩
        have HOA := Lib.hid hoa
        have HI4 := Lib.hid hi4
        have HW4 := Lib.hid (HW.out.below hb4)
        have HX4 := Lib.hid (HIX.out.below (Nat.le_refl _) hb4)
        have HY4 := Lib.hid (HIY.out.below (Nat.le_refl _) hb4)
        clear hoa hi4 hb4 HIX HIY HW
        go_wp2_with fail
        obtain ⟨lo, hlo⟩ : ∃ lo, w4.heap.size = lo := ⟨_, rfl⟩
        have HLO := Lib.hid hlo
        have HF0 : Hid (FstL w4 lo (.slice none 0 0) (fnd zs k K 0)) := fstL_nil _ _
        have HBB : Hid (Below lo w4 w4) := Below.refl _ _
        have HAX : Hid (∀ W, Below lo w4 W → ∀ t, t < k → ∃ b off, ax = some ⟨b, off, none⟩ ∧ W.cell? ⟨b, off + t, none⟩ = some (.int .i64 (t : Int))) := fun W hb t ht => by
          have h := (HX4.out.below (Nat.le_of_eq HLO.out) hb).pos ht
          rw [plN_getD ht] at h
          exact h
        have HAY : Hid (∀ W, Below lo w4 W → ∀ t, t < k → ∃ b off, ay = some ⟨b, off, none⟩ ∧ W.cell? ⟨b, off + t, none⟩ = some (.int .i64 (zs.getD t 0))) := fun W hb t ht => (HY4.out.below (Nat.le_of_eq HLO.out) hb).pos ht
        clear HX4 HY4
        go_loopw [13, 14, 15, 16, 17, 51] (fun vf _ _ _ _ i wr => ∃ m : Nat, m ≤ 25 ∧ i = .int .i64 m ∧ Hid (FstL wr lo vf (fnd zs k K m)) ∧ Hid (Below lo w4 wr)) (fun _ _ _ _ _ i _ => 25 - (intOf i).toNat)
        case atStart => exact ⟨0, Nat.zero_le _, rfl, HF0, HBB⟩
        case round =>
          obtain ⟨m, hm, rfl, HF, HB⟩ := hrel
          clear HF0 HBB
          by_cases hlm : m < 25
          · obtain ⟨wo, hwo⟩ : ∃ wo, wo = wr := ⟨_, rfl⟩
            subst hwo
            obtain ⟨A, hA, hA2⟩ : ∃ A : Nat, (m : Int) / 5 = (A : Int) ∧ A ≤ 4 := ⟨m / 5, by omega, by omega⟩
            obtain ⟨M, hM, hM2⟩ : ∃ M : Nat, (m : Int) % 5 = (M : Int) ∧ M ≤ 4 := ⟨m % 5, by omega, by omega⟩
            have HAA := Lib.hid hA
            have HMM := Lib.hid hM
            go_wp2_with fail
            go_loopw [15, 16, 17, 56] (fun gv _ _ j wq => ∃ (t G : Nat), t ≤ k ∧ j = .int .i64 t ∧ gv = .int .i64 G ∧ G ≤ t ∧ Hid (gdc zs m t = G) ∧ wq = wo) (fun _ _ _ j _ => k - (intOf j).toNat)
            case atStart => exact ⟨0, 0, Nat.zero_le _, rfl, rfl, Nat.le_refl _, rfl, rfl⟩
            case round =>
              obtain ⟨t, G, ht, rfl, rfl, hGt, HG, rfl⟩ := hrel
              by_cases hlt2 : t < k
              · obtain ⟨bx, ox, rfl, cx0⟩ := HAX.out wr HB.out t hlt2
                obtain ⟨by', oy, rfl, cy0⟩ := HAY.out wr HB.out t hlt2
                obtain ⟨P, hP, hP2⟩ : ∃ P : Nat, (M : Int) * (t : Int) = (P : Int) ∧ P ≤ 16 := ⟨M * t, by push_cast; rfl, by have := Nat.mul_le_mul hM2 (show t ≤ 4 by omega); omega⟩
                have HSU := gdc_succ zs m t
                rw [HG.out] at HSU
                have HHT : Hid (hit zs m t = decide (((A : Int) + (P : Int)) % 5 = zs.getD t 0)) := by
                  show _ = _
                  unfold hit
                  rw [HAA.out, HMM.out, hP]
                obtain ⟨y, hy⟩ : ∃ y, zs.getD t 0 = y := ⟨_, rfl⟩
                rw [hy] at cy0 HHT
                have HSU' := Lib.hid HSU
                clear HSU hy
                by_cases hh : ((A : Int) + (P : Int)) % 5 = y
                · have HG1 : Hid (gdc zs m (t + 1) = G + 1) := by
                    have h := HSU'.out
                    rw [HHT.out, if_pos (by simp [hh])] at h
                    exact h
                  clear HSU' HHT
                  go_wp2_with fail
                  go_roundw
                  case rel => exact ⟨t + 1, G + 1, by omega, by go_num, by go_num, by omega, HG1, trivial⟩
                  case measure => simp [intOf]; omega
                · have HG1 : Hid (gdc zs m (t + 1) = G) := by
                    have h := HSU'.out
                    rw [HHT.out, if_neg (by simp [hh])] at h
                    exact h
                  clear HSU' HHT
                  go_wp2_with fail
                  go_roundw
                  case rel => exact ⟨t + 1, G, by omega, by go_num, rfl, by omega, HG1, trivial⟩
                  case measure => simp [intOf]; omega
              · obtain rfl : t = k := by omega
                have hal1 : ∀ (W : World) (o : Obj), Below W.heap.size W (W.alloc o) := fun W o => (Below.refl _ _).alloc (Nat.le_refl _) o
                have HLW : Hid (lo ≤ wr.heap.size) := by have := HB.out.size; have := HLO.out; show _ ≤ _; omega
                have hmm : (m : Int) / 5 = (A : Int) := HAA.out
                have hmm2 : (m : Int) % 5 = (M : Int) := HMM.out
                by_cases hge : t ≤ G + K
                · have hcmp : (t : Int) - (K : Int) ≤ (G : Int) := by omega
                  have HFN := Lib.hid (fnd_yes (ys := zs) (K := K) (m := m) (n := t) (by rw [HG.out]; exact hge))
                  have HIP : Hid (Ints (wr.alloc (.cells #[.int .i64 (A : Int), .int .i64 (M : Int)] 3)) (.slice (some ⟨wr.heap.size, 0, none⟩) 2 2) (pol m)) := by
                    have h := ints_two wr (A : Int) (M : Int) 3
                    rw [← HAA.out, ← HMM.out] at h ⊢
                    exact h
                  have HLN : Hid ((fnd zs t K m).length ≤ 1000000) := by have := fnd_len zs t K m; show _ ≤ _; omega
                  have HSZ : Hid (wr.heap.size < ((wr.alloc (.cells #[.int .i64 (A : Int), .int .i64 (M : Int)] 3)).alloc (.cells #[.slice (some ⟨wr.heap.size, 0, none⟩) 2 2] 22)).heap.size) := by show _ < _; simp; omega
                  go_wp2_with (at_builtin; refine append_fst _ rfl _ _ rfl lo _ _ m rfl ((HF.out.alloc _).alloc _) (wr.heap.size + 1) wr.heap.size rfl (cell_alloc_new _ _ _ _ (by simp)) (HIP.out.below (Nat.le_refl _) (hal1 _ _)) HSZ.out HF.out.block HLN.out (Nat.le_trans HLW.out (Nat.le_of_lt HSZ.out)) ?_; intro v9 w9 hf9 hb9)
                  have HF9 := Lib.hid hf9
                  have HB9 : Hid (Below lo w4 w9) := (((HB.out.trans ((hal1 wr _).mono HLW.out)).trans ((hal1 _ _).mono (by have := HLW.out; simp; omega))).trans hb9)
                  clear hf9 hb9
                  rw [← HFN.out] at HF9
                  go_wp2_with fail
                  go_roundw
                  case rel => exact ⟨m + 1, by omega, by go_num, HF9, HB9⟩
                  case measure => simp [intOf]; omega
                · have hcmp : ¬ (t : Int) - (K : Int) ≤ (G : Int) := by omega
                  have HFN := Lib.hid (fnd_no (ys := zs) (K := K) (m := m) (n := t) (by rw [HG.out]; exact hge))
                  rw [← HFN.out] at HF
                  go_wp2_with fail
                  go_roundw
                  case rel => exact ⟨m + 1, by omega, by go_num, HF, HB⟩
                  case measure => simp [intOf]; omega
          · obtain rfl : m = 25 := by omega
            have HWR := Lib.hid (HW4.out.below (by rw [HLO.out]; exact HB.out))
            have HI := Lib.hid (HI4.out.below (Nat.le_of_eq HLO.out) HB.out)
            have HAWK := Lib.hid (awake7_any wr HWR.out.wh)
            obtain ⟨af, cf, rfl⟩ := HF.out.shape
            obtain ⟨bv, cv, rfl⟩ := HI4.out.shape
            clear HAX HAY HB HI4 HW4
            by_cases hfew : k < 2 + 2 * K
            · obtain rfl := only_few HZL.out hNN.2 HE.out HOA.out hfew
              have hcmp : (k : Int) < 2 + 2 * (K : Int) := by omega
              go_wp2_with fail
              refine HAWK.out.mono ?_
              rintro e w9 ⟨rfl, hb⟩
              have HB9 := Lib.hid (HWR.out.be.trans (hb.mono (Nat.le_trans (Nat.le_of_lt HWR.out.lt) HWR.out.sz)))
              clear hb
              go_wp2_with fail
              go_ret
              exact ⟨rfl, HB9.out⟩
            · have hcmp : ¬ (k : Int) < 2 + 2 * (K : Int) := by omega
              by_cases hnone : fnd zs k K 25 = []
              · obtain ⟨rfl, rfl⟩ := only_none HZL.out hNN.2 HE.out HOA.out hfew hnone
                rw [hnone]
                go_wp2_with fail
                refine HAWK.out.mono ?_
                rintro e w9 ⟨rfl, hb⟩
                have HB9 := Lib.hid (HWR.out.be.trans (hb.mono (Nat.le_trans (Nat.le_of_lt HWR.out.lt) HWR.out.sz)))
                clear hb
                go_wp2_with fail
                go_ret
                exact ⟨rfl, HB9.out⟩
              · obtain ⟨c0, hc0, rfl, hF1, he0, he1, hl2, hels⟩ := only_one HZL.out hNN.2 HE.out HOA.out hfew hnone
                rw [hF1] at HF ⊢
                obtain ⟨gf, cap, gq, hv, d0, d1, d2⟩ := HF.out.first
                simp only [Value.slice.injEq] at hv
                obtain ⟨rfl, _, rfl⟩ := hv
                rw [show [c0].length = 1 from rfl]
                obtain ⟨A, hA, hA2⟩ : ∃ A : Nat, (c0 : Int) / 5 = (A : Int) ∧ A ≤ 4 := ⟨c0 / 5, by omega, by omega⟩
                obtain ⟨M, hM, hM2⟩ : ∃ M : Nat, (c0 : Int) % 5 = (M : Int) ∧ M ≤ 4 := ⟨c0 % 5, by omega, by omega⟩
                rw [hA] at d1 he0 he1
                rw [hM] at d2 he1
                have hdr : Below wr.heap.size wr wr.drew := (Below.refl _ _).drew
                have HID := Lib.hid (HI.out.below (Nat.le_refl _) hdr)
                have HEV0 := Lib.hid (ref_eval_any 5 0 _ f wr.drew (by omega) (by omega) ⟨by omega, by omega⟩ hels HID.out (by omega))
                have HEV1 := Lib.hid (ref_eval_any 5 1 _ f wr.drew (by omega) (by omega) ⟨by omega, by omega⟩ hels HID.out (by omega))
                rw [he0] at HEV0
                rw [he1] at HEV1
                have HWD := Lib.hid (HWR.out.below hdr)
                have HAWD := Lib.hid (awake7_any wr.drew HWD.out.wh)
                have HSK : wr.drew.cell? ⟨gf, 0, none⟩ = some (.slice (some ⟨gq, 0, none⟩) 2 2) ∧ wr.drew.cell? ⟨gq, 0, none⟩ = some (.int .i64 (A : Int)) ∧ wr.drew.cell? ⟨gq, 1, none⟩ = some (.int .i64 (M : Int)) := ⟨d0, d1, d2⟩
                have HCL := Lib.hid HSK
                have HFL : Hid (f.length ≤ 2) := hl2
                obtain ⟨n, hn⟩ : ∃ n, f.length = n := ⟨_, rfl⟩
                rw [hn] at HEV0 HEV1 HFL ⊢
                have hn2 : (n : Int) ≤ 2 := by have := HFL.out; omega
                have hwr : IntKind.i64.wrap ((A : Int) + (M : Int)) = (A : Int) + (M : Int) := by rw [IntKind.wrap_i64]; omega
                have htm : ((A : Int) + (M : Int)).tmod 5 = ((A : Int) + (M : Int)) % 5 := Int.tmod_eq_emod_of_nonneg (by omega)
                clear hn hels he0 he1 hl2 hF1 hnone hA hM hc0 HF HOA HI HAWK HWR HE hdr HID
                go_wp2_with fail
                go_region_held3 (fun W' => W'.cell? ⟨gf, 0, none⟩ = some (.slice (some ⟨gq, 0, none⟩) 2 2) ∧ W'.cell? ⟨gq, 0, none⟩ = some (.int .i64 (A : Int)) ∧ W'.cell? ⟨gq, 1, none⟩ = some (.int .i64 (M : Int))) (first | go_keep | exact HSK)
                  (first
                    | (go_at_call 20; (with_reducible refine HEV0.out.mono ?_); rintro e w5 ⟨rfl, rfl⟩; have HSK := HCL.out)
                    | (go_at_call 20; (with_reducible refine HEV1.out.mono ?_); rintro e w6 ⟨rfl, rfl⟩; have HSK := HCL.out)
                    | (go_at_call 8; (with_reducible refine HAWD.out.mono ?_); rintro e w9 ⟨rfl, hb⟩; have HB9 := Lib.hid (HWD.out.be.trans (hb.mono (Nat.le_trans (Nat.le_of_lt HWD.out.lt) HWD.out.sz))); have HSK := And.intro ((hb.cell (cell_lt HCL.out.1)).trans HCL.out.1) (And.intro ((hb.cell (cell_lt HCL.out.2.1)).trans HCL.out.2.1) ((hb.cell (cell_lt HCL.out.2.2)).trans HCL.out.2.2)); clear hb))
                go_wp2_with fail
                go_ret
                exact ⟨rfl, HB9.out⟩
end Go.Proofs.YtkcbbdkijlipfaaDoor
