
/- The walk through WordsTwice. -/
import Derived.Test.YtmegmgcfnihhiaaDoorOAwk
namespace Go.Proofs.YtmegmgcfnihhiaaDoor
open Go.RowKit Go.Shelf
set_option linter.unusedVariables false
set_option linter.unusedSimpArgs false

theorem fold_len (l : List UInt8) : (foldL l).length ≤ 2 * l.length + 1 := by
  have h1 := join_tot (wordsL l)
  have h2 := words_tot l
  unfold foldL
  omega
theorem app_data (a b : ByteArray) : (a ++ b).data.toList = a.data.toList ++ b.data.toList := by simp
theorem str_index (X : ByteArray) (F : List UInt8) (hX : X.data.toList = F) (i : Nat) (hi : i < F.length) (w : World) : (Instr.index 9 (.string X) (.int .i64 i)).run Tryd.prog w = .ok (.int .u8 (F[i]'hi).toNat) w := by
  subst hX
  have hx : i < X.size := by rw [Lib.size_eq]; exact hi
  simp [Instr.index, run_underlying Tryd.underlying9, asIntOf, part, go_sem, hx]
  rfl

set_option maxHeartbeats 4000000 in
theorem wordsTwice_walk (a b : ByteArray) (w : World) (T : Tbw w) (ha : a.size ≤ 140737488355328) (hb : b.size ≤ 140737488355328) :
    Calls Tryd.prog 3 #[.string a, .string b] w fun e w' => e = .returned (.bool true) ∧ Below w.heap.size w w' := by
  have HT := Lib.hid T
  have HAW := Lib.hid (fun W (k : Below w.heap.size w W) => awake11_any W (HT.out.below k))
  have HSA : Hid (a.data.toList.length = a.size ∧ b.data.toList.length = b.size) := ⟨(Lib.size_eq a).symm, (Lib.size_eq b).symm⟩
  clear T
  by_cases hbig : 400 < a.size + b.size
  · have hbI : (400 : Int) < (a.size : Int) + (b.size : Int) := by omega
    go_enter Tryd.func3, Tryd.ntmps3
    go_wp2_with fail
    refine (HAW.out w (Below.refl _ _)).mono ?_
    rintro e w1 ⟨rfl, hb1⟩
    have HB1 := Lib.hid hb1
    clear hb1
    go_wp2
    go_ret
    exact ⟨rfl, HB1.out⟩
  · have hbI : ¬ (400 : Int) < (a.size : Int) + (b.size : Int) := by omega
    obtain ⟨y, hy⟩ : ∃ y : ByteArray, b ++ a = y := ⟨_, rfl⟩
    have hyl : y.size ≤ 400 := by rw [← hy, ByteArray.size_append]; omega
    obtain ⟨F, hF⟩ : ∃ F, foldL y.data.toList = F := ⟨_, rfl⟩
    obtain ⟨X, hX⟩ : ∃ X : ByteArray, (⟨F.toArray⟩ : ByteArray) = X := ⟨_, rfl⟩
    have HX : Hid (X.data.toList = F) := by show _ = _; rw [← hX]
    have HF1 := Lib.hid (fun W (k : Below w.heap.size w W) => fold_any y W (HT.out.below k) (by omega))
    rw [hF, hX] at HF1
    go_enter Tryd.func3, Tryd.ntmps3
    have HFL : Hid (F.length ≤ 801 ∧ X.size = F.length) := by
      have h1 := fold_len y.data.toList
      rw [hF, ← Lib.size_eq] at h1
      exact ⟨by omega, by rw [Lib.size_eq, HX.out]⟩
    have HOK : Hid (∀ c ∈ F, plB c = true) := by rw [← hF]; exact fold_ok _
    have HSG : Hid (∀ i, F[i]? = some 32 → i ≠ 0 ∧ i + 1 < F.length ∧ ∀ j, i = j + 1 → F[j]? ≠ some 32) := by rw [← hF]; exact fold_single _
    have HFF : Hid (foldL F = F) := by show _ = _; rw [← hF]; exact fold_fold _
    have HXY : Hid (foldL X.data.toList = F) := by show _ = _; rw [HX.out]; exact HFF.out
    have HWY : Hid (Lib.join (wordsL y.data.toList) [32] = F) := hF
    have HXE : Hid ((⟨F.toArray⟩ : ByteArray) = X) := hX
    have HYL : Hid (y.size ≤ 400) := hyl
    clear hF hX
    go_wp2_with fail
    refine (HF1.out w (Below.refl _ _)).mono ?_
    rintro e w1 ⟨rfl, hb1⟩
    have HB1 := Lib.hid hb1
    have hxz := HFL.out.2
    obtain ⟨n, hn⟩ : ∃ n, F.length = n := ⟨_, rfl⟩
    rw [hn] at hxz HSG
    have HNN := Lib.hid hn
    have hn8 : n ≤ 801 := by rw [← hn]; exact HFL.out.1
    clear hb1 hn
    go_wp2_with fail
    have HW0 : Hid (w1 = w1) := rfl
    go_loop [6, 20] (fun _ i => ∃ k : Nat, k ≤ n ∧ i = .int .i64 k) (fun _ i => n - (intOf i).toNat)
    case atStart => exact ⟨0, Nat.zero_le _, rfl⟩
    case round =>
      obtain ⟨k, hk, rfl⟩ := hrel
      by_cases hlt : k < n
      · have hltI : (k : Int) < (n : Int) := by omega
        have hkF : k < F.length := by rw [HNN.out]; exact hlt
        have hix := fun w => str_index X F HX.out k hkF w
        have hc32 : F[k]? = some (F[k]'hkF) := List.getElem?_eq_getElem hkF
        have hokc := HOK.out _ (List.getElem_mem hkF)
        obtain ⟨c, hc⟩ : ∃ c, (F[k]'hkF) = c := ⟨_, rfl⟩
        rw [hc] at hix hc32 hokc
        by_cases h32 : c = 32
        · subst h32
          obtain ⟨s1, s2, s3⟩ := HSG.out k hc32
          obtain ⟨j, rfl⟩ : ∃ j, k = j + 1 := ⟨k - 1, by omega⟩
          obtain ⟨m, rfl⟩ : ∃ m, n = m + 1 := ⟨n - 1, by omega⟩
          have hjF : j < F.length := by omega
          have hiy := fun w => str_index X F HX.out j hjF w
          have hne := s3 j rfl
          rw [List.getElem?_eq_getElem hjF] at hne
          obtain ⟨d, hd⟩ : ∃ d, (F[j]'hjF) = d := ⟨_, rfl⟩
          rw [hd] at hiy hne
          have hd32 : ((d.toNat : Int) == 32) = false := by
            simp only [beq_eq_false_iff_ne]
            intro e
            exact hne (by rw [show d = 32 from UInt8.toNat_inj.1 (by show d.toNat = 32; omega)])
          push_cast at hix hltI
          have hx0 : (((j : Int) + 1) == 0) = false := by simp only [beq_eq_false_iff_ne]; omega
          have hx1 : (((j : Int) + 1) == (m : Int)) = false := by simp only [beq_eq_false_iff_ne]; omega
          clear hne hd hc s1 s2 s3 hc32
          go_wp2_with fail
          exact ⟨⟨j + 2, by omega, by congr 1⟩, by simp [intOf]; omega⟩
        · have hl : letR c.toNat = true := by
            unfold plB at hokc
            have e : (c == 32) = false := by simp [h32]
            rw [e, Bool.or_false] at hokc
            exact hokc
          have hLc := letter_any c.toNat w1 c.toNat_lt
          rw [hl] at hLc
          have HLC := Lib.hid hLc
          have hcn : c.toNat ≠ 32 := fun e => h32 (UInt8.toNat_inj.1 e)
          have hc1 : ((c.toNat : Int) == 32) = false := by simp only [beq_eq_false_iff_ne]; omega
          have hc2 : ((c.toNat : Int) != 32) = true := by simp only [bne_iff_ne, ne_eq]; omega
          clear hl hLc hokc hc hc32 h32
          go_wp2_with fail
          refine HLC.out.mono ?_
          rintro e w2 ⟨rfl, rfl⟩
          go_wp2_with fail
          exact ⟨⟨k + 1, by omega, by congr 1⟩, by simp [intOf]; omega⟩
      · obtain rfl : k = n := by omega
        have HF2 := Lib.hid (fold_any X w1 (HT.out.below HB1.out) (by rw [hxz]; omega))
        rw [HXY.out, HXE.out] at HF2
        have heq : (X.toList == X.toList) = true := by simp
        have HP2 := Lib.hid (fun W (q : Below w.heap.size w W) => plain_any X W (HT.out.below q) (by rw [hxz]; omega) (by rw [HX.out]; exact fun b hb => plB_lt (HOK.out b hb)))
        have hpt : decide (foldL X.data.toList = X.data.toList) = true := by rw [HXY.out, HX.out]; simp
        rw [hpt] at HP2
        have HS2 := Lib.hid (fun W (q : Below w.heap.size w W) => split_any y W (HT.out.below q) (by have := HYL.out; omega))
        obtain ⟨ws, hws⟩ : ∃ ws, wordsL y.data.toList = ws := ⟨_, rfl⟩
        rw [hws] at HS2
        have HJY : Hid (Lib.join ws [32] = F) := by show _ = _; rw [← hws]; exact HWY.out
        have HTL : Hid (totL ws ≤ 10000000) := by
          show _ ≤ _
          have h1 := words_tot y.data.toList
          rw [hws, ← Lib.size_eq] at h1
          have := HYL.out
          omega
        clear hws HFF HWY HF1 HSG HOK hpt
        go_wp2_with fail
        refine HF2.out.mono ?_
        rintro e w2 ⟨rfl, hb2⟩
        have HB2 := Lib.hid (HB1.out.trans (hb2.mono HB1.out.size))
        clear hb2 HF2
        go_wp2_with fail
        refine (HP2.out w2 HB2.out).mono ?_
        rintro e w3 ⟨rfl, hb3⟩
        have HB3 := Lib.hid (HB2.out.trans (hb3.mono HB2.out.size))
        clear hb3 HP2
        go_wp2_with fail
        refine (HS2.out w3 HB3.out).mono ?_
        rintro e w4 ⟨q, rfl, hw4, hb4⟩
        have HB4 := Lib.hid (HB3.out.trans (hb4.mono HB3.out.size))
        have hJ := join_any _ q ws w4 hw4 HTL.out
        rw [HJY.out, HXE.out] at hJ
        have HJ := Lib.hid hJ
        clear hb4 hw4 hJ HS2
        go_wp2_with fail
        refine HJ.out.mono ?_
        rintro e w5 ⟨rfl, hb5⟩
        have HB5 := Lib.hid (HB4.out.trans (hb5.mono HB4.out.size))
        clear hb5 HJ
        go_wp2_with fail
        refine (HAW.out w5 HB5.out).mono ?_
        rintro e w6 ⟨rfl, hb6⟩
        have HB6 := Lib.hid (HB5.out.trans (hb6.mono HB5.out.size))
        clear hb6
        go_wp2
        go_ret
        exact ⟨rfl, HB6.out⟩
end Go.Proofs.YtmegmgcfnihhiaaDoor
