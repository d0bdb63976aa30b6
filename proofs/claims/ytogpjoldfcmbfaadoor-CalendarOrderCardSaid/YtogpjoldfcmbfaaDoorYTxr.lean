
/- The document's digits and texts. -/
import Derived.Test.YtogpjoldfcmbfaaDoorYTxt
namespace Go.Proofs.YtogpjoldfcmbfaaDoor
open Go.RowKit Go.Sort Go.Shelf
open Cal
set_option linter.unusedVariables false
set_option linter.unusedSimpArgs false

theorem slice_str (s : ByteArray) (l h : Nat) (hl : l ≤ h) (hh : h ≤ s.size) (w : World) : (Instr.slice 9 (.string s) (some (.int .i64 l)) (some (.int .i64 h)) none).run Tryd.prog w = .ok (.string (s.extract l h)) w := by
  have e1 : (0 : Int) ≤ (l : Int) ∧ (l : Int) ≤ (h : Int) := by omega
  have e2 : (0 : Int) ≤ (h : Int) ∧ (h : Int) ≤ (s.size : Int) := by omega
  simp [Instr.slice, run_underlying Tryd.underlying9, Instr.sliceBounds, Instr.sliceBound, asIntOf, part, go_sem, hl, hh]
theorem slice_to (s : ByteArray) (h : Nat) (hh : h ≤ s.size) (w : World) : (Instr.slice 9 (.string s) none (some (.int .i64 h)) none).run Tryd.prog w = .ok (.string (s.extract 0 h)) w := by
  simp [Instr.slice, run_underlying Tryd.underlying9, Instr.sliceBounds, Instr.sliceBound, asIntOf, part, go_sem, hh]
theorem slice_from (s : ByteArray) (l : Nat) (hl : l ≤ s.size) (w : World) : (Instr.slice 9 (.string s) (some (.int .i64 l)) none none).run Tryd.prog w = .ok (.string (s.extract l s.size)) w := by
  simp [Instr.slice, run_underlying Tryd.underlying9, Instr.sliceBounds, Instr.sliceBound, asIntOf, part, go_sem, hl]
theorem digit_str (d : Nat) (hd : d < 10) : (⟨#[48, 49, 50, 51, 52, 53, 54, 55, 56, 57]⟩ : ByteArray).extract d (d + 1) = ⟨#[UInt8.ofNat (48 + d)]⟩ := by
  have : d = 0 ∨ d = 1 ∨ d = 2 ∨ d = 3 ∨ d = 4 ∨ d = 5 ∨ d = 6 ∨ d = 7 ∨ d = 8 ∨ d = 9 := by omega
  rcases this with rfl | rfl | rfl | rfl | rfl | rfl | rfl | rfl | rfl | rfl <;> decide

set_option maxHeartbeats 1000000 in
theorem rdigits_any (n K : Nat) (w : World) (hn : n ≤ 1000000) (hK : K ≤ 10) :
    Calls Tryd.prog 32 #[.int .i64 n, .int .i64 K] w fun e w' => e = .returned (.string ⟨(digL K n).toArray⟩) ∧ w = w' := by
  go_enter Tryd.func32, Tryd.ntmps32
  go_wp2
  go_loop [0, 5, 7] (fun a s i => ∃ (j q : Nat) (S : ByteArray), j ≤ K ∧ q ≤ 1000000 ∧ S.size = j ∧ Hid (q = n / 10 ^ j) ∧ Hid (S = ⟨(digL j n).toArray⟩) ∧ a = .int .i64 q ∧ s = .string S ∧ i = .int .i64 j) (fun _ _ i => K - (intOf i).toNat)
  case atStart => exact ⟨0, n, ⟨#[]⟩, by omega, hn, rfl, by show n = n / 10 ^ 0; simp, rfl, rfl, rfl, rfl⟩
  case round =>
    obtain ⟨j, q, S, hj, hq, hS, Hq, HS, rfl, rfl, rfl⟩ := hrel
    by_cases hlt : j < K
    · obtain ⟨d, hd, hd10, hde⟩ : ∃ d : Nat, (q : Int).tmod 10 = (d : Int) ∧ d < 10 ∧ d = q % 10 := ⟨q % 10, by rw [Int.tmod_eq_emod_of_nonneg (by omega)]; omega, by omega, rfl⟩
      obtain ⟨r, hr, hre⟩ : ∃ r : Nat, (q : Int).tdiv 10 = (r : Int) ∧ r = q / 10 := ⟨q / 10, by rw [Int.tdiv_eq_ediv_of_nonneg (by omega)]; omega, rfl⟩
      have hr2 : r ≤ 1000000 := by omega
      have Hr : Hid (r = n / 10 ^ (j + 1)) := by show _ = _; rw [hre, Hq.out, Nat.div_div_eq_div_mul, Nat.pow_succ]
      have HS2 : Hid ((⟨#[UInt8.ofNat (48 + d)]⟩ : ByteArray) ++ S = ⟨(digL (j + 1) n).toArray⟩) := by
        show _ = _
        rw [HS.out, dig_front, ← Hq.out, ← hde]
        exact str_add [UInt8.ofNat (48 + d)] (digL j n)
      have hsl : ∀ W, (Instr.slice 9 (.string ⟨#[48, 49, 50, 51, 52, 53, 54, 55, 56, 57]⟩) (some (.int .i64 (d : Int))) (some (.int .i64 ((d : Int) + 1))) none).run Tryd.prog W = .ok (.string ⟨#[UInt8.ofNat (48 + d)]⟩) W := fun W => by
        have := slice_str ⟨#[48, 49, 50, 51, 52, 53, 54, 55, 56, 57]⟩ d (d + 1) (by omega) (by show d + 1 ≤ 10; omega) W
        rwa [digit_str d hd10] at this
      have hz : (⟨#[UInt8.ofNat (48 + d)]⟩ : ByteArray).size = 1 := rfl
      generalize (⟨#[UInt8.ofNat (48 + d)]⟩ : ByteArray) = C at *
      clear hde hre
      go_wp2
      go_round
      case rel => exact ⟨j + 1, r, C ++ S, by omega, hr2, by rw [ByteArray.size_append]; omega, Hr, HS2, rfl, rfl, by go_num⟩
      case measure => simp [intOf]; omega
    · obtain rfl : j = K := by omega
      go_wp2
      go_ret
      exact ⟨ret_str HS.out, rfl⟩

theorem ret_spair {a b : ByteArray} {v u : Value} (h : a = b) (g : v = u) : Ending.returned (.tuple #[.string a, v]) = .returned (.tuple #[.string b, u]) := by rw [h, g]

set_option maxHeartbeats 1000000 in
theorem text_any (n : Int) (w : World) (hw : Txs w) :
    Calls Tryd.prog 17 #[.int .i64 n] w fun e w' => e = .returned (.tuple #[.string ⟨(textL n).toArray⟩, .int .i64 (dE 2 n)]) ∧ Below w.heap.size w w' := by
  have HDT := Lib.hid (date_any n w hw.1)
  by_cases h : dayB n = true
  · have hd := isDate_d h
    have e4 : dE 2 n = 0 := by unfold dE; rw [if_pos h]
    rw [e4] at HDT ⊢
    have hl := len_range (dY n) (dM n)
    have h1 := hd.y1; have h2 := hd.y2; have h3 := hd.m1; have h4 := hd.m2; have h5 := hd.d1; have h6 := hd.d2
    obtain ⟨y, hy, hy2⟩ : ∃ y : Nat, dY n = y ∧ y ≤ 9999 := ⟨(dY n).toNat, by omega, by omega⟩
    obtain ⟨m, hm, hm2⟩ : ∃ y : Nat, dM n = y ∧ y ≤ 12 := ⟨(dM n).toNat, by omega, by omega⟩
    obtain ⟨d, hdd, hd2⟩ : ∃ y : Nat, dD n = y ∧ y ≤ 31 := ⟨(dD n).toNat, by omega, by omega⟩
    have HT : Hid (textL n = dateL y m d) := by show _ = _; unfold textL; rw [if_pos h, hy, hm, hdd]; simp
    rw [hy, hm, hdd] at HDT
    have D4 : Hid (∀ w, Txs w → Calls Tryd.prog 31 #[.int .i64 (y : Int), .int .i64 4] w fun e w' => e = .returned (.string ⟨(digL 4 y).toArray⟩) ∧ Below w.heap.size w w') := fun w hw => digits_any y 3 w hw (by omega) (by omega)
    have D2 : Hid (∀ w, Txs w → Calls Tryd.prog 31 #[.int .i64 (m : Int), .int .i64 2] w fun e w' => e = .returned (.string ⟨(digL 2 m).toArray⟩) ∧ Below w.heap.size w w') := fun w hw => digits_any m 1 w hw (by omega) (by omega)
    have D1 : Hid (∀ w, Txs w → Calls Tryd.prog 31 #[.int .i64 (d : Int), .int .i64 2] w fun e w' => e = .returned (.string ⟨(digL 2 d).toArray⟩) ∧ Below w.heap.size w w') := fun w hw => digits_any d 1 w hw (by omega) (by omega)
    have HW := Lib.hid hw
    have z4 : (⟨(digL 4 y).toArray⟩ : ByteArray).size = 4 := by rw [str_size, dig_len]
    have z2 : (⟨(digL 2 m).toArray⟩ : ByteArray).size = 2 := by rw [str_size, dig_len]
    have z1 : (⟨(digL 2 d).toArray⟩ : ByteArray).size = 2 := by rw [str_size, dig_len]
    have HE : Hid ((⟨(digL 4 y).toArray⟩ : ByteArray) ++ ⟨#[45]⟩ ++ ⟨(digL 2 m).toArray⟩ ++ ⟨#[45]⟩ ++ ⟨(digL 2 d).toArray⟩ = ⟨(textL n).toArray⟩) := by
      show _ = _
      rw [HT.out, show (⟨#[45]⟩ : ByteArray) = ⟨([45] : List UInt8).toArray⟩ from rfl, str_add, str_add, str_add, str_add]; rfl
    generalize (⟨(digL 4 y).toArray⟩ : ByteArray) = S4 at *
    generalize (⟨(digL 2 m).toArray⟩ : ByteArray) = S2 at *
    generalize (⟨(digL 2 d).toArray⟩ : ByteArray) = S1 at *
    have zd : (⟨#[45]⟩ : ByteArray).size = 1 := rfl
    have za : (S4 ++ ⟨#[45]⟩).size = 5 := by rw [ByteArray.size_append]; omega
    have zb : (S4 ++ ⟨#[45]⟩ ++ S2).size = 7 := by rw [ByteArray.size_append]; omega
    have zc : (S4 ++ ⟨#[45]⟩ ++ S2 ++ ⟨#[45]⟩).size = 8 := by rw [ByteArray.size_append]; omega
    generalize (⟨(textL n).toArray⟩ : ByteArray) = T at *
    clear h hd e4 hl h1 h2 h3 h4 h5 h6 hy hm hdd HT
    go_enter Tryd.func17, Tryd.ntmps17
    go_wp2_with fail
    refine HDT.out.mono ?_
    rintro e w1 ⟨rfl, hb⟩
    have HB1 := Lib.hid hb
    have HW1 := Lib.hid (HW.out.below hb)
    clear hb HDT
    go_wp2_with fail
    refine (D4.out w1 HW1.out).mono ?_
    rintro e w2 ⟨rfl, hb⟩
    have HB2 := Lib.hid (HB1.out.trans (hb.mono HB1.out.size))
    have HW2 := Lib.hid (HW1.out.below hb)
    clear hb D4 HB1 HW1
    go_wp2_with fail
    refine (D2.out w2 HW2.out).mono ?_
    rintro e w3 ⟨rfl, hb⟩
    have HB3 := Lib.hid (HB2.out.trans (hb.mono HB2.out.size))
    have HW3 := Lib.hid (HW2.out.below hb)
    clear hb D2 HB2 HW2
    go_wp2_with fail
    refine (D1.out w3 HW3.out).mono ?_
    rintro e w4 ⟨rfl, hb⟩
    have HB4 := Lib.hid (HB3.out.trans (hb.mono HB3.out.size))
    clear hb D1 HB3 HW3
    go_wp2
    go_ret2
    exact ⟨ret_spair HE.out rfl, HB4.out⟩
  · obtain ⟨e1, e2, e3, e4⟩ := date_bad (er := 2) h
    have e5 : textL n = [] := by unfold textL; rw [if_neg h]
    rw [e1, e2, e3, e4] at HDT
    rw [e4, e5]
    clear h e1 e2 e3 e4 e5
    go_enter Tryd.func17, Tryd.ntmps17
    go_wp2_with fail
    refine HDT.out.mono ?_
    rintro e w1 ⟨rfl, hb⟩
    have HB1 := Lib.hid hb
    clear hb
    go_wp2
    go_ret2
    exact ⟨rfl, HB1.out⟩

set_option maxHeartbeats 1000000 in
theorem rtext_any (n : Int) (w : World) :
    Calls Tryd.prog 18 #[.int .i64 n] w fun e w' => e = .returned (.tuple #[.string ⟨(textL n).toArray⟩, .int .i64 (dE 2 n)]) ∧ w = w' := by
  have HDT := Lib.hid (rdate_any n w)
  by_cases h : dayB n = true
  · have hd := isDate_d h
    have e4 : dE 2 n = 0 := by unfold dE; rw [if_pos h]
    rw [e4] at HDT ⊢
    have hl := len_range (dY n) (dM n)
    have h1 := hd.y1; have h2 := hd.y2; have h3 := hd.m1; have h4 := hd.m2; have h5 := hd.d1; have h6 := hd.d2
    obtain ⟨y, hy, hy2⟩ : ∃ y : Nat, dY n = y ∧ y ≤ 9999 := ⟨(dY n).toNat, by omega, by omega⟩
    obtain ⟨m, hm, hm2⟩ : ∃ y : Nat, dM n = y ∧ y ≤ 12 := ⟨(dM n).toNat, by omega, by omega⟩
    obtain ⟨d, hdd, hd2⟩ : ∃ y : Nat, dD n = y ∧ y ≤ 31 := ⟨(dD n).toNat, by omega, by omega⟩
    have HT : Hid (textL n = dateL y m d) := by show _ = _; unfold textL; rw [if_pos h, hy, hm, hdd]; simp
    rw [hy, hm, hdd] at HDT
    have D4 : Hid (∀ w, Calls Tryd.prog 32 #[.int .i64 (y : Int), .int .i64 4] w fun e w' => e = .returned (.string ⟨(digL 4 y).toArray⟩) ∧ w = w') := fun w => rdigits_any y 4 w (by omega) (by omega)
    have D2 : Hid (∀ w, Calls Tryd.prog 32 #[.int .i64 (m : Int), .int .i64 2] w fun e w' => e = .returned (.string ⟨(digL 2 m).toArray⟩) ∧ w = w') := fun w => rdigits_any m 2 w (by omega) (by omega)
    have D1 : Hid (∀ w, Calls Tryd.prog 32 #[.int .i64 (d : Int), .int .i64 2] w fun e w' => e = .returned (.string ⟨(digL 2 d).toArray⟩) ∧ w = w') := fun w => rdigits_any d 2 w (by omega) (by omega)
    have z4 : (⟨(digL 4 y).toArray⟩ : ByteArray).size = 4 := by rw [str_size, dig_len]
    have z2 : (⟨(digL 2 m).toArray⟩ : ByteArray).size = 2 := by rw [str_size, dig_len]
    have z1 : (⟨(digL 2 d).toArray⟩ : ByteArray).size = 2 := by rw [str_size, dig_len]
    have HE : Hid ((⟨(digL 4 y).toArray⟩ : ByteArray) ++ ⟨#[45]⟩ ++ ⟨(digL 2 m).toArray⟩ ++ ⟨#[45]⟩ ++ ⟨(digL 2 d).toArray⟩ = ⟨(textL n).toArray⟩) := by
      show _ = _
      rw [HT.out, show (⟨#[45]⟩ : ByteArray) = ⟨([45] : List UInt8).toArray⟩ from rfl, str_add, str_add, str_add, str_add]; rfl
    generalize (⟨(digL 4 y).toArray⟩ : ByteArray) = S4 at *
    generalize (⟨(digL 2 m).toArray⟩ : ByteArray) = S2 at *
    generalize (⟨(digL 2 d).toArray⟩ : ByteArray) = S1 at *
    have zd : (⟨#[45]⟩ : ByteArray).size = 1 := rfl
    have za : (S4 ++ ⟨#[45]⟩).size = 5 := by rw [ByteArray.size_append]; omega
    have zb : (S4 ++ ⟨#[45]⟩ ++ S2).size = 7 := by rw [ByteArray.size_append]; omega
    have zc : (S4 ++ ⟨#[45]⟩ ++ S2 ++ ⟨#[45]⟩).size = 8 := by rw [ByteArray.size_append]; omega
    generalize (⟨(textL n).toArray⟩ : ByteArray) = T at *
    clear h hd e4 hl h1 h2 h3 h4 h5 h6 hy hm hdd HT
    go_enter Tryd.func18, Tryd.ntmps18
    go_wp2_with fail
    refine HDT.out.mono ?_
    rintro e w' ⟨rfl, rfl⟩
    go_wp2_with fail
    refine (D4.out w).mono ?_
    rintro e w' ⟨rfl, rfl⟩
    go_wp2_with fail
    refine (D2.out w).mono ?_
    rintro e w' ⟨rfl, rfl⟩
    go_wp2_with fail
    refine (D1.out w).mono ?_
    rintro e w' ⟨rfl, rfl⟩
    go_wp2
    go_ret2
    exact ⟨ret_spair HE.out rfl, rfl⟩
  · obtain ⟨e1, e2, e3, e4⟩ := date_bad (er := 2) h
    have e5 : textL n = [] := by unfold textL; rw [if_neg h]
    rw [e1, e2, e3, e4] at HDT
    rw [e4, e5]
    clear h e1 e2 e3 e4 e5
    go_enter Tryd.func18, Tryd.ntmps18
    go_wp2_with fail
    refine HDT.out.mono ?_
    rintro e w' ⟨rfl, rfl⟩
    go_wp2
    go_ret2
    exact ⟨rfl, rfl⟩
end Go.Proofs.YtogpjoldfcmbfaaDoor
