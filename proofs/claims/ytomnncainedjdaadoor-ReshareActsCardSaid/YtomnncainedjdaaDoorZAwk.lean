
/- The layer's word that a call is not asleep. -/
import Derived.Test.YtomnncainedjdaaDoorZGi
import Derived.Test.YtomnncainedjdaaDoorJAwk
import Derived.Test.YtomnncainedjdaaDoorZPr4
namespace Go.Proofs.YtomnncainedjdaaDoor
open Go.RowKit Go.Sort
open Num
set_option linter.unusedVariables false
set_option linter.unusedSimpArgs false

/-- A region whose orders all end alike, but for one value and two places. -/
theorem region_oneZ3 {P : Program} {id : Nat} {ops : Array Oper} {d : Bool} {Q : Exit → Act → World → Prop} {a : Act} {w : World} (R : Value → World → Prop) (A : Value → Nat → Nat → Act) (hr : (Code.region id ops d).wp P (fun e a' W => e = .normal ∧ ∃ v n m, a' = A v n m ∧ R v W) a w)
    (h : ∀ v n m W, R v W → Q .normal (A v n m) W) : (Code.region id ops d).wp P Q a w :=
  Code.wp_mono (fun _ _ _ ⟨h1, v, n, m, h2, h3⟩ => by subst h1; subst h2; exact h v n m _ h3) hr
/-- All shares but the first one. -/
theorem Shares.tail1 {w : World} {b off n c : Nat} {L : List Shr} (h : Shares w (.slice (some ⟨b, off, none⟩) n c) L) (hn : 1 ≤ n) (c' : Nat) (hc : n - 1 ≤ c') (hc2 : c' ≤ 9223372036854775807) : Shares w (.slice (some ⟨b, off + 2, none⟩) (n - 1) c') (L.drop 1) := by
  obtain ⟨a', d', h1, h2, _, _, _⟩ := id h
  simp only [Value.slice.injEq] at h1
  have hl : (L.drop 1).length = n - 1 := by rw [List.length_drop]; omega
  refine ⟨_, c', by rw [hl], by omega, by omega, hc2, fun _ => ⟨b, off + 2, rfl, fun i hi => ?_⟩⟩
  obtain ⟨b2, o2, v, he, c0, c1, hI⟩ := h.at (i := i + 1) (by omega)
  simp only [Option.some.injEq, Addr.mk.injEq, and_true] at he
  obtain ⟨rfl, rfl⟩ := he
  have e : (L.drop 1).getD i (0, []) = L.getD (i + 1) (0, []) := by simp [List.getD, Nat.add_comm]
  rw [e, show off + 2 + i * 2 = off + (i + 1) * 2 by omega]
  exact ⟨v, c0, c1, hI⟩
theorem slc_lit2 (w : World) (x y : Int) : Slc (w.alloc (.cells #[.int .i64 x, .int .i64 y] 3)) (.slice (some ⟨w.heap.size, 0, none⟩) 2 2) [x, y] := ⟨_, 2, rfl, by simp, by omega, ints_two w x y _⟩
theorem lists_lit2 {W : World} {v1 v2 : Value} {r1 r2 : List Int} {t : TypeId} (h1 : Slc W v1 r1) (h2 : Slc W v2 r2) : ListsI (W.alloc (.cells #[v1, v2] t)) (.slice (some ⟨W.heap.size, 0, none⟩) 2 2) [r1, r2] := by
  have hal : Below W.heap.size W (W.alloc (.cells #[v1, v2] t)) := (Below.refl _ _).alloc (Nat.le_refl _) _
  refine ⟨_, 2, rfl, by simp, by simp, by omega, fun _ => ⟨W.heap.size, 0, rfl, fun i hi => ?_⟩⟩
  match i, hi with
  | 0, _ => exact ⟨v1, by rw [cell_new]; rfl, h1.below (Nat.le_refl _) hal⟩
  | 1, _ => exact ⟨v2, by rw [cell_new]; rfl, h2.below (Nat.le_refl _) hal⟩
set_option maxRecDepth 100000 in
set_option maxHeartbeats 8000000 in
theorem awake9_any (w : World) (hw : Wheel w) : Calls Tryd.prog 10 #[] w fun e w' => e = .returned (.bool true) ∧ Below w.heap.size w w' := by
  obtain ⟨g, hg⟩ : ∃ g, w.heap.size = g := ⟨_, rfl⟩
  have hal : ∀ (W : World) (o : Obj), Below W.heap.size W (W.alloc o) := fun W o => (Below.refl _ _).alloc (Nat.le_refl _) o
  have hpa : planB 11 2 3 = true := planB_of prm_11 (by omega) (by omega) (by omega) (by omega) (by omega)
  have hpb : planB 11 3 5 = true := planB_of prm_11 (by omega) (by omega) (by omega) (by omega) (by omega)
  have hsv : SecV 11 2 [7] (polyL 1 [7] [4]) (dealV 11 1 [7] [4]) := secV_deal (K := 1) (by omega) (els_lit1 (by omega) (by omega))
  obtain ⟨L, hL⟩ : ∃ L, dealF 11 1 3 [7] [4] = L := ⟨_, rfl⟩
  have hLr : rowL 3 (dealV 11 1 [7] [4]) = L := by rw [← hL]; rfl
  have hLl : L.length = 3 := by rw [← hL, dealF_len]
  have hperm : (L.drop 1 ++ L.take 1).Perm L := by
    have := List.perm_append_comm (l₁ := L.drop 1) (l₂ := L.take 1)
    rwa [List.take_append_drop] at this
  have htk : (L.drop 1 ++ L.take 1).take 2 = L.drop 1 := by
    rw [List.take_append_of_le_length (by rw [List.length_drop]; omega), List.take_of_length_le (by rw [List.length_drop]; omega)]
  obtain ⟨ff, U, hU, hm1, hm2⟩ := SecV.moved (K := 1) (N := 3) (K2 := 2) (N2 := 5) (m := 2) (L2 := L.drop 1 ++ L.take 1) (RR := [[1, 2], [3, 4]]) hpa hpb hsv (by simp) (by rw [hLr]; exact hperm) (by omega) (by omega) (by simp) (fun r hr => by
    simp at hr
    rcases hr with rfl | rfl
    · exact ⟨fun x hx => by simp at hx; rcases hx with rfl | rfl <;> exact ⟨by omega, by omega⟩, rfl⟩
    · exact ⟨fun x hx => by simp at hx; rcases hx with rfl | rfl <;> exact ⟨by omega, by omega⟩, rfl⟩)
  rw [htk] at hm1 hm2
  have hcm := hU.comb (k := 3) (n := 5) (N := 5) hpb rfl rfl (by simp)
  have HM := Lib.hid (And.intro hm1 hm2)
  have HCM := Lib.hid hcm
  have HLL := Lib.hid hLl
  have HLD := Lib.hid hL
  have HWF : Hid ((Lit.int .i64 11).wf = true) := by show _ = _; decide
  have HPA := Lib.hid hpa
  have HPB := Lib.hid hpb
  have HAL := Lib.hid hal
  have HWH := Lib.hid hw
  rw [hg]
  clear hpa hpb hal hw hsv hLr hLl hperm htk hU hm1 hm2 hcm hL
  go_enter Tryd.func10, Tryd.ntmps10
  go_upto_region 2 with (fail)
  obtain ⟨w1, hw1⟩ : ∃ w1, (w.alloc (Obj.cells #[Value.int IntKind.i64 11, Value.int IntKind.i64 2, Value.int IntKind.i64 3] 30)).alloc (Obj.cells #[Value.int IntKind.i64 11, Value.int IntKind.i64 3, Value.int IntKind.i64 5] 30) = w1 := ⟨_, rfl⟩
  have HA1 : Hid (Pl2 w w1 g 11 2 3 11 3 5) := by rw [← hw1, ← hg]; exact pl2_new w HWH.out _ _ _ _ _ _ _ _
  rw [hw1]
  clear hw1 hg
  obtain ⟨p0, p1, p2', q0, q1, q2⟩ := HA1.out.cells
  have HD : Hid (Calls Tryd.prog 32 #[.agg #[.int .i64 11, .int .i64 2, .int .i64 3], .slice (some ⟨w1.heap.size, 0, none⟩) 1 1, .slice (some ⟨w1.heap.size + 1, 0, none⟩) 1 1] ((w1.alloc (.cells #[.int .i64 7] 3)).alloc (.cells #[.int .i64 4] 3)) fun e w' => ∃ v, e = .returned (.tuple #[v, .int .i64 0]) ∧ SharesN w' w1.heap.size v L ∧ Below w1.heap.size w1 w') := by
    have hs1 : (w1.alloc (.cells #[.int .i64 7] 3)).heap.size = w1.heap.size + 1 := by simp
    have hl := slc_lit (w1.alloc (.cells #[.int .i64 7] 3)) 4
    rw [hs1] at hl
    have h := ref6_deal_ok 11 2 1 3 (some ⟨w1.heap.size, 0, none⟩) 1 1 [7] [4] (.slice (some ⟨w1.heap.size + 1, 0, none⟩) 1 1) ((w1.alloc (.cells #[.int .i64 7] 3)).alloc (.cells #[.int .i64 4] 3)) HWF.out rfl HPA.out ((slc_lit w1 7).ints.below (Nat.le_refl _) (HAL.out _ _)) rfl hl (by omega) (elB_of prm_11 (by omega) (els_lit1 (by omega) (by omega))) (elB_of prm_11 (by omega) (els_lit1 (by omega) (by omega))) rfl
    rw [HLD.out] at h
    exact h.mono fun e w' ⟨v, h1, h2, h3⟩ => ⟨v, h1, (h2.sharesN (by have := HLL.out; omega)).mono (by simp; omega), ((HAL.out w1 _).trans ((HAL.out _ _).mono (by simp))).trans (h3.mono (by simp; omega))⟩
  go_wp2_with fail
  refine HD.out.mono ?_
  rintro e w3 ⟨v3, rfl, hn3, hb3⟩
  obtain ⟨a3, d3, rfl, hl1, hl2, _⟩ := id hn3
  have hs3 := hn3.shares
  rw [HLL.out] at hs3 hl1 hl2 ⊢
  obtain ⟨b3, o3, _, rfl, _, _, _⟩ := hs3.at (i := 0) (by omega)
  have HS3 := Lib.hid (hs3.tail1 (by omega) (d3 - 1) (by omega) (by omega))
  have HA3 := Lib.hid (HA1.out.below hb3)
  clear p0 p1 p2' q0 q1 q2 hn3 hb3 hs3 HD
  obtain ⟨p0, p1, p2', q0, q1, q2⟩ := HA3.out.cells
  have HMOV : Hid (∀ W v1 v2, Below w3.heap.size w3 W → Slc W v1 [1, 2] → Slc W v2 [3, 4] → Calls Tryd.prog 25 #[.agg #[.int .i64 11, .int .i64 2, .int .i64 3], .agg #[.int .i64 11, .int .i64 3, .int .i64 5], .slice (some ⟨b3, o3 + 2, none⟩) 2 (d3 - 1), .slice (some ⟨W.heap.size, 0, none⟩) 2 2] (W.alloc (.cells #[v1, v2] 22)).drew fun e w' => ∃ v', e = .returned (.tuple #[v', .int .i64 0]) ∧ SharesN w' w3.heap.size v' (rowL 5 U) ∧ Below w3.heap.size w3 w') := fun W v1 v2 hb h1 h2 => by
    have hal := HAL.out W (.cells #[v1, v2] 22)
    have hb2 : Below w3.heap.size w3 (W.alloc (.cells #[v1, v2] 22)).drew := (hb.trans (hal.mono hb.size)).drew
    have h := reshare_move 11 2 3 11 3 5 (.slice (some ⟨b3, o3 + 2, none⟩) 2 (d3 - 1)) (.slice (some ⟨W.heap.size, 0, none⟩) 2 2) (L.drop 1) [[1, 2], [3, 4]] (W.alloc (.cells #[v1, v2] 22)).drew (HA3.out.below hb2).wh HWF.out HWF.out (HS3.out.below (Nat.le_refl _) hb2) ((lists_lit2 h1 h2).below (Nat.le_refl _) ((Below.refl _ _).drew)) (fun r hr => by simp at hr; rcases hr with rfl | rfl <;> simp)
    have e1 : moveE 11 2 3 11 3 5 (L.drop 1) [[1, 2], [3, 4]] = 0 := HM.out.1
    have e2 : moveR 11 2 3 11 3 5 (L.drop 1) [[1, 2], [3, 4]] = rowL 5 U := HM.out.2
    rw [e1, e2] at h
    exact h.mono fun e w' ⟨v, k1, k2, k3⟩ => ⟨v, k1, k2.mono hb2.size, hb2.trans (k3.mono hb2.size)⟩
  have d1 : 1 < d3 := by omega
  have d2 : 3 ≤ d3 := by omega
  have HKP : Hid (∀ W, Below w3.heap.size w3 W → W.cell? ⟨g, 0, none⟩ = some (.int .i64 11) ∧ W.cell? ⟨g, 1, none⟩ = some (.int .i64 2) ∧ W.cell? ⟨g, 2, none⟩ = some (.int .i64 3) ∧ W.cell? ⟨g + 1, 0, none⟩ = some (.int .i64 11) ∧ W.cell? ⟨g + 1, 1, none⟩ = some (.int .i64 3) ∧ W.cell? ⟨g + 1, 2, none⟩ = some (.int .i64 5)) := fun W hb => (HA3.out.below hb).cells
  have HBD : Hid (Below w3.heap.size w3 w3.drew) := (Below.refl _ _).drew
  obtain ⟨q3, hq3⟩ : ∃ q, w3.heap.size = q := ⟨_, rfl⟩
  have HQ3 := Lib.hid hq3
  obtain ⟨q4, hq4⟩ : ∃ q, q3 + 1 = q := ⟨_, rfl⟩
  obtain ⟨q5, hq5⟩ : ∃ q, q4 + 1 = q := ⟨_, rfl⟩
  have d4 : ¬ d3 = 1 := by omega
  have HBA : Hid (Below w3.heap.size w3 (w3.alloc (.cells #[.int .i64 1, .int .i64 2] 3))) := (Below.refl _ _).alloc (Nat.le_refl _) _
  have HBB : Hid (Below w3.heap.size w3 (w3.alloc (.cells #[.int .i64 3, .int .i64 4] 3))) := (Below.refl _ _).alloc (Nat.le_refl _) _
  have HBAB : Hid (Below w3.heap.size w3 ((w3.alloc (.cells #[.int .i64 1, .int .i64 2] 3)).alloc (.cells #[.int .i64 3, .int .i64 4] 3))) := HBA.out.alloc HBA.out.size _
  have HBBA : Hid (Below w3.heap.size w3 ((w3.alloc (.cells #[.int .i64 3, .int .i64 4] 3)).alloc (.cells #[.int .i64 1, .int .i64 2] 3))) := HBB.out.alloc HBB.out.size _
  have HSK := HKP.out _ HBD.out
  have HSKA := HKP.out _ HBA.out.drew
  have HSKB := HKP.out _ HBB.out.drew
  have HSKAB := HKP.out _ HBAB.out.drew
  have HSKBA := HKP.out _ HBBA.out.drew
  have eA : (w3.alloc (.cells #[.int .i64 1, .int .i64 2] 3)).heap.size = w3.heap.size + 1 := by simp
  have eB : (w3.alloc (.cells #[.int .i64 3, .int .i64 4] 3)).heap.size = w3.heap.size + 1 := by simp
  have eAB : ((w3.alloc (.cells #[.int .i64 1, .int .i64 2] 3)).alloc (.cells #[.int .i64 3, .int .i64 4] 3)).heap.size = w3.heap.size + 1 + 1 := by simp
  have eBA : ((w3.alloc (.cells #[.int .i64 3, .int .i64 4] 3)).alloc (.cells #[.int .i64 1, .int .i64 2] 3)).heap.size = w3.heap.size + 1 + 1 := by simp
  have hAB1 := (slc_lit2 w3 1 2).below (Nat.le_refl _) (HAL.out _ (.cells #[.int .i64 3, .int .i64 4] 3))
  have hAB2 := slc_lit2 (w3.alloc (.cells #[.int .i64 1, .int .i64 2] 3)) 3 4
  have hBA1 := (slc_lit2 w3 3 4).below (Nat.le_refl _) (HAL.out _ (.cells #[.int .i64 1, .int .i64 2] 3))
  have hBA2 := slc_lit2 (w3.alloc (.cells #[.int .i64 3, .int .i64 4] 3)) 1 2
  rw [eA] at hAB2
  rw [eB] at hBA2
  have hm1 := HMOV.out _ _ _ HBAB.out hAB1 hAB2
  have hm2 := HMOV.out _ _ _ HBBA.out hBA2 hBA1
  rw [eAB, hq3, hq4, hq5] at hm1
  rw [eBA, hq3, hq4, hq5] at hm2
  have HSKC := HKP.out _ (HBAB.out.alloc HBAB.out.size (.cells #[.slice (some ⟨w3.heap.size, 0, none⟩) 2 2, .slice (some ⟨w3.heap.size + 1, 0, none⟩) 2 2] 22)).drew
  have HSKD := HKP.out _ (HBBA.out.alloc HBBA.out.size (.cells #[.slice (some ⟨w3.heap.size + 1, 0, none⟩) 2 2, .slice (some ⟨w3.heap.size, 0, none⟩) 2 2] 22)).drew
  rw [hq3, hq4] at HSKC HSKD
  have HM1 := Lib.hid hm1
  have HM2 := Lib.hid hm2
  clear hm1 hm2 eA eB eAB eBA hAB1 hAB2 hBA1 hBA2
  clear p0 p1 p2' q0 q1 q2
  go_upto_region 3 with (fail)
  refine region_oneZ3 (fun v W => Hid (SharesN W q3 v (rowL 5 U)) ∧ Hid (Below q3 w3 W)) (fun v n m => { tmps := #[Value.bool false, Value.pointer (some { block := g, off := 0 }), Value.pointer (some { block := g + 1, off := 0 }), Value.slice (some { block := b3, off := o3 }) 3 d3, Value.int IntKind.i64 0, v, Value.int IntKind.i64 0, undef, undef, Value.agg #[Value.int IntKind.i64 11, Value.int IntKind.i64 2, Value.int IntKind.i64 3], Value.agg #[Value.int IntKind.i64 11, Value.int IntKind.i64 3, Value.int IntKind.i64 5], Value.tuple #[Value.slice (some { block := b3, off := o3 }) 3 d3, Value.int IntKind.i64 0], Value.agg #[Value.int IntKind.i64 11, Value.int IntKind.i64 2, Value.int IntKind.i64 3], Value.slice (some { block := w1.heap.size, off := 0 }) 1 1, Value.slice (some { block := w1.heap.size + 1, off := 0 }) 1 1, Value.tuple #[Value.slice (some { block := b3, off := o3 }) 3 d3, Value.int IntKind.i64 0], Value.slice (some { block := b3, off := o3 }) 3 d3, Value.int IntKind.i64 0, Value.tuple #[v, Value.int IntKind.i64 0], Value.agg #[Value.int IntKind.i64 11, Value.int IntKind.i64 2, Value.int IntKind.i64 3], Value.agg #[Value.int IntKind.i64 11, Value.int IntKind.i64 3, Value.int IntKind.i64 5], Value.slice (some { block := b3, off := o3 }) 3 d3, Value.slice (some { block := b3, off := o3 + 2 }) 2 (d3 - 1), Value.slice (some { block := n, off := 0 }) 2 2, Value.slice (some { block := m, off := 0 }) 2 2, Value.slice (some { block := q5, off := 0 }) 2 2, Value.tuple #[v, Value.int IntKind.i64 0], v, Value.int IntKind.i64 0, undef, undef, undef, undef, undef, undef, undef, undef, undef, undef, undef, undef, undef, undef, undef, undef, undef, undef, undef, undef, undef, undef, undef, undef], defers := [] }) ?hr ?hk
  case hr =>
    refine wp_region_noPanic ?_
    go_region_held3 (fun W' => W'.cell? ⟨g, 0, none⟩ = some (.int .i64 11) ∧ W'.cell? ⟨g, 1, none⟩ = some (.int .i64 2) ∧ W'.cell? ⟨g, 2, none⟩ = some (.int .i64 3) ∧ W'.cell? ⟨g + 1, 0, none⟩ = some (.int .i64 11) ∧ W'.cell? ⟨g + 1, 1, none⟩ = some (.int .i64 3) ∧ W'.cell? ⟨g + 1, 2, none⟩ = some (.int .i64 5)) (first | go_keep | exact HSK | exact HSKA | exact HSKB | exact HSKAB | exact HSKBA | exact HSKC | exact HSKD | exact HSKE)
      (first
        | (go_at_call 25; (with_reducible refine HM1.out.mono ?_); rintro e w4 ⟨v4, rfl, hn, hb⟩; have HN4 := Lib.hid hn; have HB4 := Lib.hid hb; have HSKE := HKP.out w4 (by rw [hq3]; exact hb); clear hn hb)
        | (go_at_call 25; (with_reducible refine HM2.out.mono ?_); rintro e w4 ⟨v4, rfl, hn, hb⟩; have HN4 := Lib.hid hn; have HB4 := Lib.hid hb; have HSKE := HKP.out w4 (by rw [hq3]; exact hb); clear hn hb))
    · exact NoPanic.normal ⟨rfl, v4, q3, q4, rfl, HN4, HB4⟩
    · exact NoPanic.normal ⟨rfl, v4, q4, q3, rfl, HN4, HB4⟩
  rintro v4 n1 n2 w4 ⟨HN4, HB4⟩
  have HA4 := Lib.hid (HA3.out.below (W' := w4) (by rw [hq3]; exact HB4.out))
  obtain ⟨a4, d4', rfl, _⟩ := id HN4.out
  rw [rowL_len]
  have hN4 := HN4.out
  rw [rowL_len] at hN4
  have HC := Lib.hid (ref6_combine_any 11 3 5 (.slice a4 5 d4') (rowL 5 U) w4 HWF.out hN4.shares)
  rw [HCM.out.1, HCM.out.2] at HC
  unfold planV at HC
  obtain ⟨p0, p1, p2', q0, q1, q2⟩ := HA4.out.cells
  clear HSK HSKA HSKB HSKAB HSKBA HSKC HSKD hN4 HM1 HM2 HMOV
  go_wp2_with fail
  refine HC.out.mono ?_
  rintro e w5 ⟨v5, rfl, hg5, hb5⟩
  have hi5 := hg5.reads (by simp)
  obtain ⟨a5, d5, rfl⟩ := hi5.shape
  obtain ⟨x5, o5, rfl, y5⟩ := hi5.pos (k := 0) (by simp)
  have y5' : w5.cell? ⟨x5, o5, none⟩ = some (.int .i64 7) := y5
  have HA5 := Lib.hid (HA4.out.below hb5)
  clear hg5 hi5 hb5 y5 HC
  go_wp2
  go_ret
  exact ⟨rfl, HA5.out.be⟩
end Go.Proofs.YtomnncainedjdaaDoor
