
/- The program's package refresh: Sum. -/
import Derived.Test.YtgdclefnfjbbdaaDoorJPr4
namespace Go.Proofs.YtgdclefnfjbbdaaDoor
open Go.RowKit Go.Sort
open Num
set_option linter.unusedVariables false

/-- A list of lists of shares that a slice reads as. -/
def ListsS (w : World) (s : Value) (LL : List (List Shr)) : Prop := ∃ a c, s = .slice a LL.length c ∧ LL.length ≤ 1000 ∧ LL.length ≤ c ∧ c ≤ 9223372036854775807 ∧ (LL ≠ [] → ∃ b off, a = some ⟨b, off, none⟩ ∧
  ∀ i, i < LL.length → ∃ v, w.cell? ⟨b, off + i, none⟩ = some v ∧ Shares w v (LL.getD i []))
theorem ListsS.below {w w' : World} {s : Value} {LL : List (List Shr)} (h : ListsS w s LL) {B : Nat} (hB : w.heap.size ≤ B) (b : Below B w w') : ListsS w' s LL := by
  obtain ⟨a, c, rfl, h1, h2, h3, h4⟩ := h
  refine ⟨a, c, rfl, h1, h2, h3, fun hl => ?_⟩
  obtain ⟨b', off, rfl, hc⟩ := h4 hl
  refine ⟨b', off, rfl, fun i hi => ?_⟩
  obtain ⟨v, c1, c2⟩ := hc i hi
  have hlt := cell_lt c1
  exact ⟨v, by rw [b.cell (p := ⟨b', off + i, none⟩) (by show b' < B; exact Nat.lt_of_lt_of_le hlt hB)]; exact c1, c2.below hB b⟩
theorem ListsS.at {w : World} {a : Option Addr} {n c : Nat} {LL : List (List Shr)} (h : ListsS w (.slice a n c) LL) {i : Nat} (hi : i < n) : ∃ b off v, a = some ⟨b, off, none⟩ ∧ w.cell? ⟨b, off + i, none⟩ = some v ∧ Shares w v (LL.getD i []) := by
  obtain ⟨a', c', hv, _, _, _, hx⟩ := h
  simp only [Value.slice.injEq] at hv
  obtain ⟨rfl, rfl, rfl⟩ := hv
  obtain ⟨b, off, rfl, hc⟩ := hx (fun e => by subst e; simp at hi)
  obtain ⟨v, h1, h2⟩ := hc i hi
  exact ⟨b, off, v, rfl, h1, h2⟩
theorem sumGo_step {p k n : Int} {M Z : List Shr} {r : List (List Shr)} (h : apE p k n M Z = 0) : sumGo p k n M (Z :: r) = sumGo p k n (apR p k n M Z) r := by
  unfold apR
  rw [if_pos h]
  show (if apE p k n M Z = 0 then _ else _) = _
  rw [if_pos h]
theorem sumGo_stop {p k n : Int} {M Z : List Shr} {r : List (List Shr)} (h : apE p k n M Z ≠ 0) : sumGo p k n M (Z :: r) = (apE p k n M Z, []) := by
  show (if apE p k n M Z = 0 then _ else _) = _
  rw [if_neg h]
theorem drop_getD {LL : List (List Shr)} {j : Nat} (h : j < LL.length) : LL.drop j = LL.getD j [] :: LL.drop (j + 1) := by
  rw [List.drop_eq_getElem_cons h]
  simp [List.getD, h]
/-- What Sum keeps in memory. -/
structure SuW (w0 W : World) (g : Nat) (p k n : Int) (v : Value) (LL : List (List Shr)) : Prop where
  pl : PlanAt W g p k n
  ls : ListsS W v LL
  be : Below g w0 W
  wh : Wheel W
  ta : 0 < g
theorem SuW.below {w0 W W' : World} {g : Nat} {p k n : Int} {v : Value} {LL : List (List Shr)} (h : SuW w0 W g p k n v LL) (b : Below W.heap.size W W') : SuW w0 W' g p k n v LL := by
  have h1 := h.pl.lt
  have h3 := h.ta
  exact ⟨h.pl.below h1 b, h.ls.below (Nat.le_refl _) b, h.be.trans (b.mono (by omega)), h.wh.below (by omega) b, h.ta⟩
set_option maxRecDepth 100000 in
set_option maxHeartbeats 16000000 in
theorem refresh_sum (p k n : Int) (v : Value) (LL : List (List Shr)) (w : World) (hw : Wheel w) (hp : (Lit.int .i64 p).wf = true) (hs : ListsS w v LL) :
    Calls Tryd.prog 25 #[planV p k n, v] w fun e w' => ∃ v', e = .returned (.tuple #[v', .int .i64 (sumR p k n LL).1]) ∧ SharesN w' w.heap.size v' (sumR p k n LL).2 ∧ Below w.heap.size w w' := by
  obtain ⟨a, c, rfl, hl, hc1, hc2, hx⟩ := id hs
  obtain ⟨g, hg⟩ : ∃ g, w.heap.size = g := ⟨_, rfl⟩
  obtain ⟨w1, hw1⟩ : ∃ w1, w.alloc (.cells #[.int .i64 p, .int .i64 k, .int .i64 n] 30) = w1 := ⟨_, rfl⟩
  have hb1 : Below g w w1 := by rw [← hw1, ← hg]; exact (Below.refl _ _).alloc (Nat.le_refl _) _
  have hP1 : PlanAt w1 g p k n := by rw [← hw1, ← hg]; exact planAt_new w p k n _
  have HS1 : Hid (SuW w w1 g p k n (.slice a LL.length c) LL) := ⟨hP1, hs.below (Nat.le_of_eq hg) hb1, hb1, hw.below (by rw [← hg]; exact hw.size) hb1, by rw [← hg]; exact hw.size⟩
  have HPW := Lib.hid hp
  have c0 := hP1.c0
  have c1 := hP1.c1
  have c2 := hP1.c2
  unfold planV
  rw [hg]
  clear hs hb1 hP1 hp hw
  cases hLL : LL with
  | nil =>
    subst hLL
    have e0 : ([] : List (List Shr)).length = 0 := rfl
    clear hx c0 c1 c2
    go_enter Tryd.func25, Tryd.ntmps25
    go_wp2
    go_ret2
    exact ⟨.slice none 0 0, rfl, sharesN_nil _ _, HS1.out.be⟩
  | cons L0 r =>
  rw [← hLL]
  obtain ⟨m, hm⟩ : ∃ m, r.length = m := ⟨_, rfl⟩
  have hn : LL.length = m + 1 := by rw [hLL, List.length_cons, hm]
  rw [hn] at HS1 hl hc1 ⊢
  obtain ⟨b, off, v0, rfl, l0, hs0⟩ := HS1.out.ls.at (i := 0) (by omega)
  have hg0 : LL.getD 0 [] = L0 := by rw [hLL]; rfl
  rw [hg0] at hs0
  rw [Nat.add_zero] at l0
  obtain ⟨s0a, s0c, rfl, hs0l, _⟩ := id hs0
  have HG := Lib.hid (fun W (hb : Below w1.heap.size w1 W) => refresh_good p k n _ L0 W (HS1.out.below hb).wh HPW.out (hs0.below (Nat.le_refl _) hb))
  have HG0 := Lib.hid (HG.out w1.drew ((Below.refl _ _).drew))
  have hgd : gdB p k n L0 = true ↔ planB p k n = true ∧ goodB p n L0 = true := gdB_and
  have HSR : Hid (sumR p k n LL = if planB p k n = true ∧ goodB p n L0 = true then sumGo p k n L0 r else (1, [])) := by show _ = _; rw [hLL]; rfl
  have HDR : Hid (∀ j, j < m → r.drop j = LL.getD (j + 1) [] :: r.drop (j + 1)) := fun j hj => by
    rw [drop_getD (by rw [hm]; exact hj), hLL]; rfl
  have HM := Lib.hid hm
  have n1 : ((m : Int) + 1 == 0) = false := by simp; omega
  have hl0 := cell_lt l0
  have HL0 : Hid (∀ W, Below w1.heap.size w1 W → W.cell? ⟨b, off, none⟩ = some (.slice s0a L0.length s0c)) := fun W hb => by rw [hb.cell (p := ⟨b, off, none⟩) hl0]; exact l0
  unfold planV at HG HG0
  obtain ⟨n0, hn0⟩ : ∃ n0, L0.length = n0 := ⟨_, rfl⟩
  rw [hn0] at hs0 l0 HL0 HG HG0
  have hce : ((m + 1 : Nat) : Int) = (m : Int) + 1 := by push_cast; rfl
  cases hgb : gdB p k n L0 with
  | false =>
    rw [hgb] at HG0
    have HF : Hid (sumR p k n LL = (1, [])) := by
      show _ = _
      rw [HSR.out, if_neg (fun h => by rw [hgd.2 h] at hgb; cases hgb)]
    clear hgb hgd hs0 hx HG
    go_enter Tryd.func25, Tryd.ntmps25
    go_wp2_with fail
    go_region_held3 (fun W' => W'.cell? ⟨g, 0, none⟩ = some (.int .i64 p) ∧ W'.cell? ⟨g, 1, none⟩ = some (.int .i64 k) ∧ W'.cell? ⟨g, 2, none⟩ = some (.int .i64 n) ∧ W'.cell? ⟨b, off, none⟩ = some (.slice s0a n0 s0c)) (first | go_keep | exact HSK)
      (first | (go_at_call 39; refine HG0.out.mono ?_; rintro e w2 ⟨rfl, hb⟩; have HS2 := Lib.hid (HS1.out.below (((Below.refl _ _).drew).trans hb)); have HSK := And.intro HS2.out.pl.c0 (And.intro HS2.out.pl.c1 (And.intro HS2.out.pl.c2 (HL0.out w2 (((Below.refl _ _).drew).trans hb)))); have HB2 := Lib.hid (((Below.refl w1.heap.size w1).drew).trans hb); clear hb))
    all_goals
      clear c0 c1 c2 HSK
      go_wp2
      go_ret2
      exact ⟨.slice none 0 0, by rw [HF.out]; rfl, by rw [HF.out]; exact sharesN_nil _ _, HS2.out.be⟩
  | true =>
    rw [hgb] at HG0
    have hgg := gdB_and.1 hgb
    have HSG : Hid (sumR p k n LL = sumGo p k n L0 (r.drop 0)) := by
      show _ = _
      rw [HSR.out, if_pos hgg, List.drop_zero]
    have HCP := Lib.hid (fun W (hb : Below w1.heap.size w1 W) => refresh_copies (.slice s0a n0 s0c) L0 W (hs0.below (Nat.le_refl _) hb) (fun x hx => by
      obtain ⟨i, hi, rfl⟩ := List.mem_iff_getElem.1 hx
      have := (goodB_parts hgg.2 i hi).2.2.1
      rw [getS_at hi] at this
      omega))
    clear hgb hgg hgd hs0 hx HG HSR
    go_enter Tryd.func25, Tryd.ntmps25
    go_wp2_with fail
    go_region_held3 (fun W' => W'.cell? ⟨g, 0, none⟩ = some (.int .i64 p) ∧ W'.cell? ⟨g, 1, none⟩ = some (.int .i64 k) ∧ W'.cell? ⟨g, 2, none⟩ = some (.int .i64 n) ∧ W'.cell? ⟨b, off, none⟩ = some (.slice s0a n0 s0c)) (first | go_keep | exact HSK)
      (first | (go_at_call 39; refine HG0.out.mono ?_; rintro e w2 ⟨rfl, hb⟩; have HS2 := Lib.hid (HS1.out.below (((Below.refl _ _).drew).trans hb)); have HSK := And.intro HS2.out.pl.c0 (And.intro HS2.out.pl.c1 (And.intro HS2.out.pl.c2 (HL0.out w2 (((Below.refl _ _).drew).trans hb)))); have HB2 := Lib.hid (((Below.refl w1.heap.size w1).drew).trans hb); clear hb))
    all_goals
      have l2 := HSK.2.2.2
      have HC2 := Lib.hid (HCP.out w2 HB2.out)
      clear c0 c1 c2 HSK
      go_wp2_with fail
      refine HC2.out.mono ?_
      rintro e w3 ⟨v3, rfl, hn3, hb3⟩
      have HS3 := Lib.hid (HS2.out.below hb3)
      have HN3 := Lib.hid (hn3.mono (Nat.le_of_lt HS2.out.pl.lt))
      clear hb3 hn3 l2 l0 HC2 HCP HG0 HL0 HS1 HS2 HB2 hw1
      obtain ⟨a3, d3, rfl, hd3, hd3b⟩ := HN3.out.shape
      rw [hn0] at HN3 hd3 ⊢
      by_cases hc9 : c = 1
      · subst hc9
        obtain rfl : m = 0 := by omega
        have HF : Hid (sumR p k n LL = (0, L0)) := by
          show _ = _
          rw [HSG.out, List.drop_zero, List.length_eq_zero_iff.1 HM.out]
          rfl
        clear hce n1
        go_wp2_with fail
        go_loopw [6, 8, 9, 10, 27] (fun v _ _ _ i wr => i = .int .i64 0 ∧ v = .slice a3 n0 d3 ∧ wr = w3) (fun _ _ _ _ _ _ => 0)
        case atStart => exact ⟨rfl, rfl, rfl⟩
        case round =>
          obtain ⟨rfl, rfl, rfl⟩ := hrel
          go_wp2
          go_ret2
          exact ⟨_, by rw [HF.out]; rfl, by rw [HF.out]; exact HN3.out, HS3.out.be⟩
      · go_wp2_with fail
        go_loopw [6, 8, 9, 10, 27] (fun v _ _ _ i wr => ∃ (j : Nat) (M : List Shr), j ≤ m ∧ i = .int .i64 j ∧ Hid (SharesN wr g v M) ∧ Hid (sumR p k n LL = sumGo p k n M (r.drop j)) ∧ Hid (SuW w wr g p k n (.slice (some ⟨b, off, none⟩) (m + 1) c) LL)) (fun _ _ _ _ i _ => m - (intOf i).toNat)
        case atStart => exact ⟨0, L0, Nat.zero_le _, rfl, HN3, HSG, HS3⟩
        case round =>
          obtain ⟨j, M, hj, rfl, HN, HR, HS⟩ := hrel
          clear HN3 HSG HS3
          obtain ⟨aM, dM, rfl, hdM, hdMb⟩ := HN.out.shape
          by_cases hlt : j < m
          · obtain ⟨b', off', vz, hbo, lz, hsz⟩ := HS.out.ls.at (i := j + 1) (by omega)
            injection hbo with hbo
            injection hbo with hb1 hb2
            subst hb1 hb2
            rw [show off + (j + 1) = off + 1 + j by omega] at lz
            obtain ⟨Z, hZ⟩ : ∃ Z, LL.getD (j + 1) [] = Z := ⟨_, rfl⟩
            have hdr := HDR.out j hlt
            rw [hZ] at hsz hdr
            obtain ⟨az, cz, rfl, hz1, _⟩ := id hsz
            have HRZ : Hid (sumR p k n LL = sumGo p k n M (Z :: r.drop (j + 1))) := by show _ = _; rw [← hdr]; exact HR.out
            have hA := refresh_apply p k n _ _ M Z wr HS.out.wh HPW.out HN.out.shares hsz
            have HST := Lib.hid (fun (h : apE p k n M Z = 0) => sumGo_step (r := r.drop (j + 1)) h)
            have HSP := Lib.hid (fun (h : apE p k n M Z ≠ 0) => sumGo_stop (r := r.drop (j + 1)) h)
            obtain ⟨E, hE⟩ : ∃ E, apE p k n M Z = E := ⟨_, rfl⟩
            rw [hE] at hA HST HSP
            unfold planV at hA
            have HA := Lib.hid hA
            have c0 := HS.out.pl.c0
            have c1 := HS.out.pl.c1
            have c2 := HS.out.pl.c2
            generalize M.length = nM at *
            generalize Z.length = nZ at *
            clear hsz hdr hA hE hZ HR
            go_wp2_with fail
            refine HA.out.mono ?_
            rintro e w4 ⟨v4, rfl, hn4, hb4⟩
            have HS4 := Lib.hid (HS.out.below hb4)
            have HN4 := Lib.hid (hn4.mono (Nat.le_of_lt HS.out.pl.lt))
            obtain ⟨a4, d4, rfl, _⟩ := hn4.shape
            clear hn4 hb4 HA c0 c1 c2 lz
            by_cases he : E = 0
            · subst he
              have HR4 := Lib.hid (HRZ.out.trans (HST.out rfl))
              generalize (apR p k n M Z) = M4 at *
              generalize M4.length = n4 at *
              go_wp2_with fail
              go_roundw
              case rel => exact ⟨j + 1, M4, by omega, by go_num, HN4, HR4, HS4⟩
              case measure => simp [intOf]; omega
            · have HR4 := Lib.hid (HRZ.out.trans (HSP.out he))
              have hne : (E != 0) = true := by simpa using he
              generalize (apR p k n M Z) = M4 at *
              generalize M4.length = n4 at *
              go_wp2_with fail
              go_ret2
              exact ⟨.slice none 0 0, by rw [HR4.out]; rfl, by rw [HR4.out]; exact sharesN_nil _ _, HS4.out.be⟩
          · obtain rfl : j = m := by omega
            have HF : Hid (sumR p k n LL = (0, M)) := by
              show _ = _
              rw [HR.out, List.drop_eq_nil_of_le (by rw [HM.out]; omega)]
              rfl
            generalize M.length = nM at *
            go_wp2_with fail
            go_ret2
            exact ⟨_, by rw [HF.out]; rfl, by rw [HF.out]; exact HN.out, HS.out.be⟩
end Go.Proofs.YtgdclefnfjbbdaaDoor
