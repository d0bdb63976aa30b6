
/- The document's Sum. -/
import Derived.Test.YtgdclefnfjbbdaaDoorJRa
import Derived.Test.YtgdclefnfjbbdaaDoorJSum
namespace Go.Proofs.YtgdclefnfjbbdaaDoor
open Go.RowKit Go.Sort
open Num
set_option linter.unusedVariables false

set_option maxRecDepth 100000 in
set_option maxHeartbeats 16000000 in
theorem ref8_sum (p k n : Int) (v : Value) (LL : List (List Shr)) (w : World) (hw : Wheel w) (hsm : (LL.getD 0 []).length < 1000) (hpl : planB p k n = true) (hp : (Lit.int .i64 p).wf = true) (hs : ListsS w v LL) :
    Calls Tryd.prog 26 #[planV p k n, v] w fun e w' => ∃ v', e = .returned (.tuple #[v', .int .i64 (sumR p k n LL).1]) ∧ SharesN w' w.heap.size v' (sumR p k n LL).2 ∧ Below w.heap.size w w' := by
  obtain ⟨a, c, rfl, hl, hc1, hc2, hx⟩ := id hs
  obtain ⟨g, hg⟩ : ∃ g, w.heap.size = g := ⟨_, rfl⟩
  obtain ⟨w1, hw1⟩ : ∃ w1, w.alloc (.cells #[.int .i64 p, .int .i64 k, .int .i64 n] 30) = w1 := ⟨_, rfl⟩
  have hb1 : Below g w w1 := by rw [← hw1, ← hg]; exact (Below.refl _ _).alloc (Nat.le_refl _) _
  have hP1 : PlanAt w1 g p k n := by rw [← hw1, ← hg]; exact planAt_new w p k n _
  have HS1 : Hid (SuW w w1 g p k n (.slice a LL.length c) LL) := ⟨hP1, hs.below (Nat.le_of_eq hg) hb1, hb1, hw.below (by rw [← hg]; exact hw.size) hb1, by rw [← hg]; exact hw.size⟩
  have HPW := Lib.hid hp
  have c0 := hP1.c0
  have c1 := hP1.c1
  have c2 := hP1.c2
  unfold planV
  rw [hg]
  clear hs hb1 hP1 hp hw
  cases hLL : LL with
  | nil =>
    subst hLL
    have e0 : ([] : List (List Shr)).length = 0 := rfl
    clear hx c0 c1 c2
    go_enter Tryd.func26, Tryd.ntmps26
    go_wp2
    go_ret2
    exact ⟨.slice none 0 0, rfl, sharesN_nil _ _, HS1.out.be⟩
  | cons L0 r =>
  rw [← hLL]
  obtain ⟨m, hm⟩ : ∃ m, r.length = m := ⟨_, rfl⟩
  have hn : LL.length = m + 1 := by rw [hLL, List.length_cons, hm]
  rw [hn] at HS1 hl hc1 ⊢
  obtain ⟨b, off, v0, rfl, l0, hs0⟩ := HS1.out.ls.at (i := 0) (by omega)
  have hg0 : LL.getD 0 [] = L0 := by rw [hLL]; rfl
  rw [hg0] at hs0
  rw [Nat.add_zero] at l0
  obtain ⟨s0a, s0c, rfl, hs0l, _⟩ := id hs0
  have HG := Lib.hid (fun W (hb : Below w1.heap.size w1 W) => ref6_good p k n _ L0 W HPW.out (hs0.below (Nat.le_refl _) hb))
  have HV0 := Lib.hid (ref6_valid p k n w1.drew HPW.out)
  have HSR : Hid (sumR p k n LL = if planB p k n = true ∧ goodB p n L0 = true then sumGo p k n L0 r else (1, [])) := by show _ = _; rw [hLL]; rfl
  have HDR : Hid (∀ j, j < m → r.drop j = LL.getD (j + 1) [] :: r.drop (j + 1)) := fun j hj => by
    rw [drop_getD (by rw [hm]; exact hj), hLL]; rfl
  have HM := Lib.hid hm
  have n1 : ((m : Int) + 1 == 0) = false := by simp; omega
  have hl0 := cell_lt l0
  have HL0 : Hid (∀ W, Below w1.heap.size w1 W → W.cell? ⟨b, off, none⟩ = some (.slice s0a L0.length s0c)) := fun W hb => by rw [hb.cell (p := ⟨b, off, none⟩) hl0]; exact l0
  unfold planV at HG HV0
  obtain ⟨n0, hn0⟩ : ∃ n0, L0.length = n0 := ⟨_, rfl⟩
  rw [hn0] at hs0 l0 HL0 HG
  have hce : ((m + 1 : Nat) : Int) = (m : Int) + 1 := by push_cast; rfl
  rw [hpl] at HV0
  cases hgb : goodB p n L0 with
  | false =>
    rw [hgb] at HG
    have HF : Hid (sumR p k n LL = (1, [])) := by
      show _ = _
      rw [HSR.out, if_neg (fun h => by rw [h.2] at hgb; cases hgb)]
    clear hpl hgb hs0 hx
    go_enter Tryd.func26, Tryd.ntmps26
    go_wp2_with fail
    go_region_held3 (fun W' => W'.cell? ⟨g, 0, none⟩ = some (.int .i64 p) ∧ W'.cell? ⟨g, 1, none⟩ = some (.int .i64 k) ∧ W'.cell? ⟨g, 2, none⟩ = some (.int .i64 n) ∧ W'.cell? ⟨b, off, none⟩ = some (.slice s0a n0 s0c)) (first | go_keep | exact HSK)
      (first
        | (go_at_call 35; refine HV0.out.mono ?_; rintro e w2 ⟨rfl, hb⟩; have HS2 := Lib.hid (HS1.out.below (((Below.refl _ _).drew).trans hb)); have HSK := And.intro HS2.out.pl.c0 (And.intro HS2.out.pl.c1 (And.intro HS2.out.pl.c2 (HL0.out w2 (((Below.refl _ _).drew).trans hb)))); have HB2 := Lib.hid (((Below.refl w1.heap.size w1).drew).trans hb); clear hb)
        | (go_at_call 46; refine (HG.out w2 HB2.out).mono ?_; rintro e w3 ⟨rfl, hb⟩; have HS3 := Lib.hid (HS2.out.below hb); have HB3 := Lib.hid (HB2.out.trans (hb.mono HB2.out.size)); have HSK := And.intro HS3.out.pl.c0 (And.intro HS3.out.pl.c1 (And.intro HS3.out.pl.c2 (HL0.out w3 HB3.out))); clear hb))
    all_goals
      clear c0 c1 c2 HSK
      go_wp2
      go_ret2
      exact ⟨.slice none 0 0, by rw [HF.out]; rfl, by rw [HF.out]; exact sharesN_nil _ _, HS3.out.be⟩
  | true =>
    rw [hgb] at HG
    have hgg : planB p k n = true ∧ goodB p n L0 = true := ⟨hpl, hgb⟩
    have HSG : Hid (sumR p k n LL = sumGo p k n L0 (r.drop 0)) := by
      show _ = _
      rw [HSR.out, if_pos hgg, List.drop_zero]
    have HCP := Lib.hid (fun W (hb : Below w1.heap.size w1 W) => copyS_any (.slice s0a n0 s0c) L0 W (hs0.below (Nat.le_refl _) hb) (fun x hx => by
      obtain ⟨i, hi, rfl⟩ := List.mem_iff_getElem.1 hx
      have := (goodB_parts hgg.2 i hi).2.2.1
      rw [getS_at hi] at this
      omega) (by rw [← hg0]; exact hsm))
    have HL1 : Hid (L0.length ≤ 1000) := by show _ ≤ _; rw [← hg0]; omega
    clear hgb hgg hs0 hx HSR hpl
    go_enter Tryd.func26, Tryd.ntmps26
    go_wp2_with fail
    go_region_held3 (fun W' => W'.cell? ⟨g, 0, none⟩ = some (.int .i64 p) ∧ W'.cell? ⟨g, 1, none⟩ = some (.int .i64 k) ∧ W'.cell? ⟨g, 2, none⟩ = some (.int .i64 n) ∧ W'.cell? ⟨b, off, none⟩ = some (.slice s0a n0 s0c)) (first | go_keep | exact HSK)
      (first
        | (go_at_call 35; refine HV0.out.mono ?_; rintro e w2 ⟨rfl, hb⟩; have HS2 := Lib.hid (HS1.out.below (((Below.refl _ _).drew).trans hb)); have HSK := And.intro HS2.out.pl.c0 (And.intro HS2.out.pl.c1 (And.intro HS2.out.pl.c2 (HL0.out w2 (((Below.refl _ _).drew).trans hb)))); have HB2 := Lib.hid (((Below.refl w1.heap.size w1).drew).trans hb); clear hb)
        | (go_at_call 46; refine (HG.out w2 HB2.out).mono ?_; rintro e w3 ⟨rfl, hb⟩; have HS3 := Lib.hid (HS2.out.below hb); have HB3 := Lib.hid (HB2.out.trans (hb.mono HB2.out.size)); have HSK := And.intro HS3.out.pl.c0 (And.intro HS3.out.pl.c1 (And.intro HS3.out.pl.c2 (HL0.out w3 HB3.out))); clear hb))
    all_goals
      have l2 := HSK.2.2.2
      have HC2 := Lib.hid (HCP.out w3 HB3.out)
      clear c0 c1 c2 HSK
      go_wp2_with fail
      refine HC2.out.mono ?_
      rintro e w4 ⟨v3, rfl, hn3, hb3⟩
      have HS4 := Lib.hid (HS3.out.below hb3)
      have HN3 := Lib.hid ((hn3.sharesN HL1.out).mono (Nat.le_of_lt HS3.out.pl.lt))
      clear hb3 hn3 l2 l0 HC2 HCP HV0 HG HL0 HS1 HS2 HS3 HB2 HB3 hw1
      obtain ⟨a3, d3, rfl, hd3, hd3b⟩ := HN3.out.shape
      rw [hn0] at HN3 hd3 ⊢
      by_cases hc9 : c = 1
      · subst hc9
        obtain rfl : m = 0 := by omega
        have HF : Hid (sumR p k n LL = (0, L0)) := by
          show _ = _
          rw [HSG.out, List.drop_zero, List.length_eq_zero_iff.1 HM.out]
          rfl
        clear hce n1
        go_wp2_with fail
        go_loopw [6, 8, 9, 10, 32] (fun v _ _ _ i wr => i = .int .i64 0 ∧ v = .slice a3 n0 d3 ∧ wr = w4) (fun _ _ _ _ _ _ => 0)
        case atStart => exact ⟨rfl, rfl, rfl⟩
        case round =>
          obtain ⟨rfl, rfl, rfl⟩ := hrel
          go_wp2
          go_ret2
          exact ⟨_, by rw [HF.out]; rfl, by rw [HF.out]; exact HN3.out, HS4.out.be⟩
      · go_wp2_with fail
        go_loopw [6, 8, 9, 10, 32] (fun v _ _ _ i wr => ∃ (j : Nat) (M : List Shr), j ≤ m ∧ i = .int .i64 j ∧ Hid (SharesN wr g v M) ∧ Hid (sumR p k n LL = sumGo p k n M (r.drop j)) ∧ Hid (SuW w wr g p k n (.slice (some ⟨b, off, none⟩) (m + 1) c) LL)) (fun _ _ _ _ i _ => m - (intOf i).toNat)
        case atStart => exact ⟨0, L0, Nat.zero_le _, rfl, HN3, HSG, HS4⟩
        case round =>
          obtain ⟨j, M, hj, rfl, HN, HR, HS⟩ := hrel
          clear HN3 HSG HS4
          obtain ⟨aM, dM, rfl, hdM, hdMb⟩ := HN.out.shape
          by_cases hlt : j < m
          · obtain ⟨b', off', vz, hbo, lz, hsz⟩ := HS.out.ls.at (i := j + 1) (by omega)
            injection hbo with hbo
            injection hbo with hb1 hb2
            subst hb1 hb2
            rw [show off + (j + 1) = off + 1 + j by omega] at lz
            obtain ⟨Z, hZ⟩ : ∃ Z, LL.getD (j + 1) [] = Z := ⟨_, rfl⟩
            have hdr := HDR.out j hlt
            rw [hZ] at hsz hdr
            obtain ⟨az, cz, rfl, hz1, _⟩ := id hsz
            have HRZ : Hid (sumR p k n LL = sumGo p k n M (Z :: r.drop (j + 1))) := by show _ = _; rw [← hdr]; exact HR.out
            have hA := ref8_apply p k n _ _ M Z wr HPW.out HN.out.shares hsz
            have HST := Lib.hid (fun (h : apE p k n M Z = 0) => sumGo_step (r := r.drop (j + 1)) h)
            have HSP := Lib.hid (fun (h : apE p k n M Z ≠ 0) => sumGo_stop (r := r.drop (j + 1)) h)
            obtain ⟨E, hE⟩ : ∃ E, apE p k n M Z = E := ⟨_, rfl⟩
            rw [hE] at hA HST HSP
            unfold planV at hA
            have HA := Lib.hid hA
            have c0 := HS.out.pl.c0
            have c1 := HS.out.pl.c1
            have c2 := HS.out.pl.c2
            generalize M.length = nM at *
            generalize Z.length = nZ at *
            clear hsz hdr hA hE hZ HR
            go_wp2_with fail
            refine HA.out.mono ?_
            rintro e w5 ⟨v4, rfl, hn4, hb4⟩
            have HS5 := Lib.hid (HS.out.below hb4)
            have HN4 := Lib.hid (hn4.mono (Nat.le_of_lt HS.out.pl.lt))
            obtain ⟨a4, d4, rfl, _⟩ := hn4.shape
            clear hn4 hb4 HA c0 c1 c2 lz
            by_cases he : E = 0
            · subst he
              have HR4 := Lib.hid (HRZ.out.trans (HST.out rfl))
              generalize (apR p k n M Z) = M4 at *
              generalize M4.length = n4 at *
              go_wp2_with fail
              go_roundw
              case rel => exact ⟨j + 1, M4, by omega, by go_num, HN4, HR4, HS5⟩
              case measure => simp [intOf]; omega
            · have HR4 := Lib.hid (HRZ.out.trans (HSP.out he))
              have hne : (E != 0) = true := by simpa using he
              generalize (apR p k n M Z) = M4 at *
              generalize M4.length = n4 at *
              go_wp2_with fail
              go_ret2
              exact ⟨.slice none 0 0, by rw [HR4.out]; rfl, by rw [HR4.out]; exact sharesN_nil _ _, HS5.out.be⟩
          · obtain rfl : j = m := by omega
            have HF : Hid (sumR p k n LL = (0, M)) := by
              show _ = _
              rw [HR.out, List.drop_eq_nil_of_le (by rw [HM.out]; omega)]
              rfl
            generalize M.length = nM at *
            go_wp2_with fail
            go_ret2
            exact ⟨_, by rw [HF.out]; rfl, by rw [HF.out]; exact HN.out, HS.out.be⟩
end Go.Proofs.YtgdclefnfjbbdaaDoor
