
/- The year of a day (a search in the library's sort.Search), the date of a day: the program's. -/
import Derived.Test.YtogpjoldfcmbfaaDoorYPr2
import Derived.Test.YtogpjoldfcmbfaaDoorSrch
import Derived.Deep.RegionHeld3
namespace Go.Proofs.YtogpjoldfcmbfaaDoor
open Go.RowKit Go.Sort Go.Shelf
open Cal
set_option linter.unusedVariables false

theorem results_tmp4 {fn : Func} {t u v x : Tmp} (h : fn.results = #[.tmp t, .tmp u, .tmp v, .tmp x]) (tmps : Array Value) (P : Program) (w : World) :
    (results fn tmps).run P w = .ok (.tuple #[tmps.getD t undef, tmps.getD u undef, tmps.getD v undef, tmps.getD x undef]) w := by
  simp [results, h]

set_option maxHeartbeats 1000000 in
theorem closure_any (b : Nat) (n : Int) (i : Nat) (W : World) (hi : i < 9999) (hn : W.cell? ⟨b, 0, none⟩ = some (.int .i64 n)) :
    Calls Tryd.prog 36 (#[.int .i64 i] ++ #[.pointer (some ⟨b, 0, none⟩)]) W fun e w' => e = .returned (.bool (decide (n < firstD ((i : Int) + 1)))) ∧ ∃ q, w' = W.drewN q := by
  have HF : Hid (∀ w, Calls Tryd.prog 27 #[.int .i64 ((i : Int) + 1)] w fun e w' => e = .returned (.int .i64 (firstD ((i : Int) + 1))) ∧ w = w') := fun w => firstDay_any _ w (by omega) (by omega)
  generalize firstD ((i : Int) + 1) = F at *
  have hw : IntKind.i64.wrap ((i : Int) + 1) = (i : Int) + 1 := by rw [IntKind.wrap_i64]; omega
  go_enter Tryd.func36, Tryd.ntmps36
  go_wp2
  go_quiet ((first | (go_at_call 27; exact quiet_left (HF.out _))))
  all_goals go_wp2
  all_goals go_ret
  all_goals exact ⟨by first | rfl | simp, _, rfl⟩

theorem ones_year (n : Int) (h : dayB n = true) (K : Nat) (hK : K = 9999) : (List.range K).countP (fun i : Nat => !decide (n < firstD ((i : Int) + 1))) = (dY n).toNat := by
  have hd := isDate_d h
  have hy := hd.year_lt
  have h1 := hd.y1
  have h2 := hd.y2
  have hr : ∀ t, t < K → (List.range K)[t]! = t := fun t ht => by rw [getElem!_pos _ t (by simpa using ht)]; simp
  refine Lib.countP_boundary _ (List.range K) (dY n).toNat (by rw [List.length_range]; omega) (fun t ht => ?_) (fun t h3 h4 => ?_)
  · rw [hr t (by omega)]
    have := first_mono (show (t : Int) + 1 ≤ dY n by omega)
    simp only [Bool.not_eq_true', decide_eq_false_iff_not]
    omega
  · rw [hr t (by simpa using h4)]
    have := first_mono (show dY n + 1 ≤ (t : Int) + 1 by omega)
    simp only [Bool.not_eq_false', decide_eq_true_eq]
    omega

set_option maxHeartbeats 1000000 in
theorem yearOf_any (n : Int) (w : World) (h : dayB n = true) :
    Calls Tryd.prog 30 #[.int .i64 n] w fun e w' => e = .returned (.int .i64 (dY n)) ∧ Below w.heap.size w w' := by
  obtain ⟨W0, hW0⟩ : ∃ W0, W0 = w.alloc (.cells #[.int .i64 n] 3) := ⟨_, rfl⟩
  have hsize : W0.heap.size = w.heap.size + 1 := by rw [hW0]; simp
  have cx : W0.cell? ⟨w.heap.size, 0, none⟩ = some (.int .i64 n) := by rw [hW0]; exact cell_new_sl w _ _
  have eg : ∀ args w, (callFunc 36 args).run Tryd.prog w = .ok (.enter 36 args) w := enters_of Tryd.func36 (by kernel_rfl) rfl
  have hS := Any.sort_Search Tryd.search 36 #[.pointer (some ⟨w.heap.size, 0, none⟩)] 9999 (fun i : Nat => decide (n < firstD ((i : Int) + 1))) W0 eg (by omega)
    (fun m os i hi => (closure_any w.heap.size n i _ hi (cell_grown (by rw [hsize]; simp) cx m os)).mono
      fun _ _ ⟨he, q, hq⟩ => ⟨he, q, #[], by rw [hq, grow_empty]⟩) (fun a b hab hb h => by have := first_mono (show (a : Int) + 1 ≤ (b : Int) + 1 by omega); simp at h ⊢; omega)
  rw [ones_year n h 9999 rfl, show (((dY n).toNat : Nat) : Int) = dY n by have := (isDate_d h).y1; omega] at hS
  change Calls Tryd.prog 35 _ _ _ at hS
  have HS := Lib.hid hS
  clear cx hS h
  generalize dY n = Y at *
  go_enter Tryd.func30, Tryd.ntmps30
  go_wp2_with (go_at_call 35; rw [← hW0]; refine HS.out.mono ?_; rintro e w' ⟨rfl, q, os, rfl⟩)
  go_ret
  refine ⟨rfl, ?_⟩
  have hB0 : Below w.heap.size w W0 := by rw [hW0]; exact (Below.refl _ w).alloc (Nat.le_refl _) _
  rw [← hW0]
  exact hB0.trans (below_grown_sl w.heap.size W0 q os (by omega))

/-- The answer of Date. -/
def dateV (er n : Int) : Value := .tuple #[.int .i64 (dY n), .int .i64 (dM n), .int .i64 (dD n), .int .i64 (dE er n)]
theorem date_bad {n er : Int} (h : ¬ dayB n = true) : dY n = 0 ∧ dM n = 0 ∧ dD n = 0 ∧ dE er n = er := by
  unfold dY dM dD dE
  rw [if_neg h, if_neg h, if_neg h, if_neg h]; exact ⟨rfl, rfl, rfl, rfl⟩
theorem ret_date {a b c a' b' c' : Int} {v : Value} (h : a = a') (g : b = b') (k : c = c') : Ending.returned (.tuple #[.int .i64 a, .int .i64 b, .int .i64 c, v]) = .returned (.tuple #[.int .i64 a', .int .i64 b', .int .i64 c', v]) := by rw [h, g, k]

set_option maxHeartbeats 2000000 in
theorem date_any (n : Int) (w : World) (hw : Lens w) :
    Calls Tryd.prog 14 #[.int .i64 n] w fun e w' => e = .returned (.tuple #[.int .i64 (dY n), .int .i64 (dM n), .int .i64 (dD n), .int .i64 (dE 2 n)]) ∧ Below w.heap.size w w' := by
  have HI := Lib.hid (isDay_any n w)
  by_cases h : dayB n = true
  · have HY := Lib.hid (yearOf_any n w h)
    have hd := isDate_d h
    have HD := Lib.hid hd
    obtain ⟨z1, z2⟩ := (dayB_iff n).1 h
    rw [h] at HI
    have e4 : dE 2 n = 0 := by unfold dE; rw [if_pos h]
    rw [e4]
    have h1 := hd.y1
    have h2 := hd.y2
    obtain ⟨f1, f2⟩ := hd.year_lt
    have hfs := first_succ _ h1 h2
    obtain ⟨r1, r2⟩ := first_range (dY n) (by omega) (by omega)
    have HF : Hid (∀ w, Calls Tryd.prog 27 #[.int .i64 (dY n)] w fun e w' => e = .returned (.int .i64 (firstD (dY n))) ∧ w = w') := fun w => firstDay_any _ w h1 (by omega)
    have HL : Hid (∀ (j : Nat) (w : World), j < 12 → Lens w → Calls Tryd.prog 26 #[.int .i64 (dY n), .int .i64 ((j : Int) + 1)] w fun e w' => e = .returned (.int .i64 (lenD (dY n) ((j : Int) + 1))) ∧ w = w') := fun j w hj hw => length_any (dY n) j w hw hj
    have HU : Hid (∀ (j : Nat) (r : Int), j < 12 → n = firstD (dY n) + cum (dY n) j + r → 0 ≤ r → r < lenD (dY n) ((j : Int) + 1) → ((j : Int) + 1) = dM n ∧ r + 1 = dD n) := fun j r hj he h0 hr => by
      have hg : IsDate n (dY n) ((j : Int) + 1) (r + 1) := ⟨h1, h2, by omega, by omega, by omega, by omega, by rw [show ((j : Int) + 1 - 1).toNat = j by omega]; omega⟩
      have := hg.unique hd
      exact ⟨this.2.1, this.2.2⟩
    have HC : Hid (∀ j : Nat, j ≤ 12 → 0 ≤ cum (dY n) j ∧ cum (dY n) j ≤ 400) := fun j hj => cum_range _ j hj
    have HCS : Hid (∀ j : Nat, cum (dY n) (j + 1) = cum (dY n) j + lenD (dY n) ((j : Int) + 1)) := fun j => rfl
    have HLR : Hid (∀ j : Int, 28 ≤ lenD (dY n) j ∧ lenD (dY n) j ≤ 31) := fun j => len_range _ j
    have HEND : Hid (n - firstD (dY n) < cum (dY n) 12) := by show _ < _; omega
    generalize dY n = Y at *
    generalize dM n = MM at *
    generalize dD n = DD at *
    obtain ⟨F, hF⟩ : ∃ F, firstD Y = F := ⟨_, rfl⟩
    rw [hF] at HF HU HEND f1 r1 r2
    clear hd h hfs f2 hF e4
    have HLN := Lib.hid hw
    clear hw
    go_enter Tryd.func14, Tryd.ntmps14
    go_wp2_with fail
    refine HI.out.mono ?_
    rintro e w' ⟨rfl, rfl⟩
    go_wp2_with fail
    refine HY.out.mono ?_
    rintro e w1 ⟨rfl, hb⟩
    have HL1 := Lib.hid (HLN.out.below hb)
    have HB := Lib.hid hb
    clear hb HY HI
    go_wp2_with fail
    refine (HF.out w1).mono ?_
    rintro e w' ⟨rfl, rfl⟩
    go_wp2
    go_loop [7, 8] (fun a b => ∃ (j : Nat) (c : Int), j < 12 ∧ 0 ≤ c ∧ c ≤ n - F ∧ Hid (c = cum Y j) ∧ a = .int .i64 (n - F - c) ∧ b = .int .i64 ((j : Int) + 1)) (fun _ b => 12 - (intOf b).toNat)
    case atStart => exact ⟨0, 0, by omega, by omega, by omega, rfl, by simp, rfl⟩
    case round =>
      obtain ⟨j, c, hj, hc1, hc2, hcj, rfl, rfl⟩ := hrel
      have HQ := Lib.hid (HL.out j w1 hj HL1.out)
      obtain ⟨q1, q2⟩ := HLR.out ((j : Int) + 1)
      have HS := Lib.hid (HCS.out j)
      have HUj := Lib.hid (HU.out j (n - F - c) hj (by rw [← hcj.out]; omega))
      obtain ⟨T, hT⟩ : ∃ T, lenD Y ((j : Int) + 1) = T := ⟨_, rfl⟩
      rw [hT] at HQ q1 q2 HS HUj
      have HS2 : Hid (c + T = cum Y (j + 1)) := by show _ = _; rw [HS.out, ← hcj.out]
      by_cases hlt : T ≤ n - F - c
      · have hj2 : j + 1 < 12 := by
          by_cases hx : j + 1 < 12
          · exact hx
          · obtain rfl : j = 11 := by omega
            have := HEND.out
            have := HS2.out
            rw [show (11 + 1 : Nat) = 12 by rfl] at this
            omega
        clear hT HS HF HUj HEND
        go_wp2_with (go_at_call 26; refine HQ.out.mono ?_; rintro e w' ⟨rfl, rfl⟩)
        go_round
        case rel => exact ⟨j + 1, c + T, by omega, by omega, by omega, HS2, by rw [show n - F - (c + T) = n - F - c - T by omega], by go_num⟩
        case measure => simp [intOf]; omega
      · obtain ⟨u1, u2⟩ := HUj.out (by omega) (by omega)
        have U1 := Lib.hid u1
        have U2 := Lib.hid u2
        clear hT HS HF HUj HEND u1 u2 HU
        go_wp2_with (go_at_call 26; refine HQ.out.mono ?_; rintro e w' ⟨rfl, rfl⟩)
        refine bodyPost_ret (results_tmp4 rfl _ _ _) rfl ?_
        exact ⟨ret_date rfl U1.out U2.out, HB.out⟩
  · obtain ⟨e1, e2, e3, e4⟩ := date_bad (er := 2) h
    rw [e1, e2, e3, e4]
    rw [show dayB n = false by simpa using h] at HI
    clear h e1 e2 e3 e4 hw
    go_enter Tryd.func14, Tryd.ntmps14
    go_wp2_with (go_at_call 29; refine HI.out.mono ?_; rintro e w' ⟨rfl, rfl⟩)
    (try simp only [Exit.inBlock, Exit.then])
    refine bodyPost_ret (results_tmp4 rfl _ _ _) rfl ?_
    exact ⟨rfl, Below.refl _ _⟩
end Go.Proofs.YtogpjoldfcmbfaaDoor
