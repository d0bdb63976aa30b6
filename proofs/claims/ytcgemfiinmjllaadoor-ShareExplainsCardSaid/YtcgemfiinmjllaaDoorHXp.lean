
/- Shares that explain: the program's Explain. -/
import Derived.Test.YtcgemfiinmjllaaDoorHXe
namespace Go.Proofs.YtcgemfiinmjllaaDoor
open Go.RowKit Go.Sort
open Num
set_option linter.unusedVariables false

noncomputable def expR (p k n : Int) (L : List Shr) (S : List Int) : List Shr := if expE p k n L S = 0 then expL p k.toNat n.toNat S.length L S else []
theorem expE_in {p k n : Int} {L : List Shr} {S : List Int} (h : expE p k n L S = 0) : ∃ K N : Nat, k = (K : Int) ∧ n = (N : Int) ∧ planB p k n = true ∧ S.length ≤ 2048 ∧ 1 ≤ K ∧ p ≤ 1073741824 ∧ ExpIn p N K S.length L S := by
  unfold expE at h
  by_cases h1 : planB p k n = true ∧ goodB p n L = true ∧ (0 < L.length → (L.getD 0 (0, [])).2.length = S.length)
  · rw [if_pos h1] at h
    by_cases h2 : elB p S = true
    · rw [if_pos h2] at h
      by_cases h3 : k ≤ (L.length : Int) ∨ 2048 < S.length
      · rw [if_pos h3] at h; cases h
      · obtain ⟨q1, q2, q3, q4, q5, q6⟩ := planB_parts h1.1
        obtain ⟨K, rfl⟩ := Int.eq_ofNat_of_zero_le (show 0 ≤ k by omega)
        obtain ⟨N, rfl⟩ := Int.eq_ofNat_of_zero_le (show 0 ≤ n by omega)
        refine ⟨K, N, rfl, rfl, h1.1, by omega, by omega, q2, q1, ?_, rfl, els_of_elB h2, by omega, by omega, by omega, q6⟩
        by_cases h0 : 0 < L.length
        · exact goodB_gd rfl h1.2.1 (h1.2.2 h0)
        · obtain rfl : L = [] := List.eq_nil_of_length_eq_zero (by omega)
          exact ⟨fun s hs => (by cases hs), fun s hs => (by cases hs), fun s hs => (by cases hs), List.nodup_nil⟩
    · rw [if_neg h2] at h; cases h
  · rw [if_neg h1] at h; cases h
/-- The shares as they are made: their row, and the values of the first k. -/
structure ExpW (w : World) (g q N k : Nat) (f : Nat → List Int) : Prop where
  row : ∃ Z : Nat → Value, RowS w q N (fun j => if j < k then (((j + 1 : Nat) : Int), Z j) else (0, .slice none 0 0)) ∧ ∀ j, j < k → Ints w (Z j) (f j) ∧ ∀ b, (Z j).ownBlock = some b → q < b
  qlo : g ≤ q
  lt : q < w.heap.size
theorem expW_start (w : World) (g N : Nat) (f : Nat → List Int) (t : TypeId) (hg : g ≤ w.heap.size) : ExpW (w.alloc (.cells (madeCells #[.int .i64 0, .slice none 0 0] (N * 2)) t)) g w.heap.size N 0 f := by
  have h := made_start w g N 0 (fun _ => 0) (fun _ _ => 0) t hg
  exact ⟨⟨fun _ => .slice none 0 0, rowS_congr h.row fun i hi => by simp, fun j hj => by omega⟩, h.qlo, h.lt⟩
theorem ExpW.grow {w w' : World} {g q N k : Nat} {f : Nat → List Int} (h : ExpW w g q N k f) (b : Below w.heap.size w w') : ExpW w' g q N k f := by
  obtain ⟨Z, h1, h2⟩ := h.row
  exact ⟨⟨Z, h1.of_block (b.block q h.lt), fun j hj => ⟨(h2 j hj).1.below (Nat.le_refl _) b, (h2 j hj).2⟩⟩, h.qlo, Nat.lt_of_lt_of_le h.lt b.size⟩
theorem Ints.setRow2 {w : World} {v : Value} {l : List Int} (h : Ints w v l) {q : Nat} (hq : ∀ b, v.ownBlock = some b → q < b) (o : Nat) (x y : Value) : Ints (w.setCells q o [x, y]) v l :=
  h.but ((But.set w ⟨q, o, none⟩ x).trans (But.set _ ⟨q, o + 1, none⟩ y)) (fun g hg => by have := hq g hg; show g ≠ q; omega)
theorem ExpW.push {w : World} {g q N k : Nat} {f : Nat → List Int} (h : ExpW w g q N k f) (hk : k < N) {v : Value} (hv : Ints w v (f k)) (hb : ∀ b, v.ownBlock = some b → q < b) : ExpW (w.setCells q (k * 2) [.int .i64 ((k + 1 : Nat) : Int), v]) g q N (k + 1) f := by
  obtain ⟨Z, h1, h2⟩ := h.row
  refine ⟨⟨fun j => if j = k then v else Z j, ?_, fun j hj => ?_⟩, h.qlo, by rw [setCells2_size]; exact h.lt⟩
  · refine rowS_congr (h1.store hk (((k + 1 : Nat) : Int), v)) fun i hi => ?_
    by_cases e : i = k
    · subst e; simp
    · by_cases e2 : i < k
      · simp [e, e2, show i < k + 1 by omega]
      · simp [e, e2, show ¬ i < k + 1 by omega]
  · by_cases e : j = k
    · subst e
      simp only [if_true]
      exact ⟨hv.setRow2 hb _ _ _, hb⟩
    · simp only [if_neg e]
      have h3 := h2 j (by omega)
      exact ⟨h3.1.setRow2 h3.2 _ _ _, h3.2⟩
theorem ExpW.shares {w : World} {g q N : Nat} {f : Nat → List Int} (h : ExpW w g q N N f) {L : List Shr} (hl : L.length = N) (hN : N ≤ 1000) (he : ∀ j, j < N → L.getD j (0, []) = (((j + 1 : Nat) : Int), f j)) : SharesN w g (.slice (some ⟨q, 0, none⟩) N N) L := by
  subst hl
  obtain ⟨Z, h1, h2⟩ := h.row
  refine ⟨_, _, rfl, hN, Nat.le_refl _, by omega, fun _ => ⟨q, 0, rfl, h.qlo, fun i hi => ?_⟩⟩
  obtain ⟨c0, c1, _, _⟩ := h1 i hi
  simp only [if_pos hi] at c0 c1
  rw [he i hi, Nat.zero_add]
  obtain ⟨q1, q2⟩ := h2 i hi
  exact ⟨_, c0, c1, q1, fun b hb => by have := q2 b hb; have := h.qlo; omega⟩

set_option maxRecDepth 100000 in
set_option maxHeartbeats 8000000 in
theorem share_explain_ok (p : Int) (K N : Nat) (vk vs : Value) (L : List Shr) (S : List Int) (w : World) (hw : Wheel w) (hp : (Lit.int .i64 p).wf = true) (hE : expE p (K : Int) (N : Int) L S = 0) (hin : ExpIn p N K S.length L S) (hp2 : p ≤ 1073741824) (hS : S.length ≤ 2048) (hk : Shares w vk L) (hs : Ints w vs S) :
    Calls Tryd.prog 14 #[planV p (K : Int) (N : Int), vk, vs] w fun e w' => ∃ v, e = .returned (.tuple #[v, .int .i64 0]) ∧ SharesN w' w.heap.size v (expL p K N S.length L S) ∧ Below w.heap.size w w' := by
  unfold planV
  have hN16 := hin.nb
  have hK16 : K ≤ 16 := by have := hin.kn; omega
  obtain ⟨g, hg⟩ : ∃ g, w.heap.size = g := ⟨_, rfl⟩
  obtain ⟨w1, hw1⟩ : ∃ w1, w.alloc (Obj.cells #[Value.int IntKind.i64 p, Value.int IntKind.i64 (K : Int), Value.int IntKind.i64 (N : Int)] 30) = w1 := ⟨_, rfl⟩
  have hb1 : Below g w w1 := by rw [← hw1, ← hg]; exact (Below.refl _ _).alloc (Nat.le_refl _) _
  have hp1 : PlanAt w1 g p (K : Int) (N : Int) := by rw [← hw1, ← hg]; exact planAt_new _ _ _ _ _
  have hs1 : w1.heap.size = g + 1 := by rw [← hw1, ← hg]; simp
  have HCE := Lib.hid (checkExplain_any p (K : Int) (N : Int) vk vs L S w1 (hw.below (by rw [← hg]; exact hw.size) hb1) hp (hk.below (Nat.le_of_eq hg) hb1) (hs.below (Nat.le_of_eq hg) hb1))
  rw [hE] at HCE
  have HEX := Lib.hid (fun W (hb : Below g w W) => explaining_any p (N : Int) K vk vs L S W (hk.below (Nat.le_of_eq hg) hb) (hs.below (Nat.le_of_eq hg) hb) (fun s hs => by have := hin.gd.hold s hs; exact ⟨this.1, by omega⟩) hin.lk hK16)
  unfold planV at HCE HEX
  have HVA := Lib.hid (fun (v : Value) (h : Nat) (hh : h ≤ N) W (hW : Shares W v (expP K L S)) => valuesAt_any p (h : Int) v (expP K L S) S.length W hin.prm hp2 ⟨by omega, by have := hin.np; omega⟩ hW (by rw [hin.len]; have := hin.lk; omega) hin.els hin.nodup hin.vals (by rw [expP_zero]) hin.lens (by omega))
  obtain ⟨a1, d1, rfl, _⟩ := id hk
  obtain ⟨sa, sc, rfl⟩ := hs.shape
  generalize S.length = SL at *
  generalize L.length = NL at *
  have HSLB := Lib.hid hS
  have HB1 := Lib.hid hb1
  have HP1 := Lib.hid hp1
  have HZ1 := Lib.hid hs1
  have d0' := hp1.c0
  have d1' := hp1.c1
  have d2' := hp1.c2
  have hmkS := run_make_share N (by omega)
  rw [hg]
  clear hw hp hE hin hk hs hb1 hp1 hs1 hp2 hS
  go_enter Tryd.func14, Tryd.ntmps14
  go_wp2_with fail
  refine HCE.out.mono ?_
  rintro e w2 ⟨rfl, hb2⟩
  have HB2 : Hid (Below g w w2) := HB1.out.trans (hb2.mono (by have := HZ1.out; omega))
  have HP2 := Lib.hid (HP1.out.below HP1.out.lt hb2)
  have c0 := HP2.out.c0
  have c1 := HP2.out.c1
  have c2 := HP2.out.c2
  clear HCE hb2 d0' d1' d2' hw1
  go_wp2_with fail
  refine (HEX.out w2 HB2.out).mono ?_
  rintro e w3 ⟨v3, rfl, hsh3, hb3⟩
  have HB3 : Hid (Below g w w3) := HB2.out.trans (hb3.mono (Nat.le_of_lt HP2.out.lt))
  have HP3 := Lib.hid (HP2.out.below HP2.out.lt hb3)
  have HSH3 := Lib.hid hsh3
  clear c0 c1 c2
  have c2 := HP3.out.c2
  obtain ⟨q, hq⟩ : ∃ q, w3.heap.size = q := ⟨_, rfl⟩
  obtain ⟨av, cv, rfl, _⟩ := id hsh3
  have HMS : Hid (ExpW (w3.alloc (.cells (madeCells #[.int .i64 0, .slice none 0 0] (N * 2)) 38)) g q N 0 (fun j => vatV p (expP K L S) SL ((j + 1 : Nat) : Int))) := by
    have h := expW_start w3 g N (fun j => vatV p (expP K L S) SL ((j + 1 : Nat) : Int)) 38 (Nat.le_of_lt HP3.out.lt)
    rw [hq] at h
    exact h
  have HBS : Hid (Below q w3 (w3.alloc (.cells (madeCells #[.int .i64 0, .slice none 0 0] (N * 2)) 38))) := by rw [← hq]; exact (Below.refl _ _).alloc (Nat.le_refl _) _
  have HGQ : Hid (g < q) := by rw [← hq]; exact HP3.out.lt
  have HQQ := Lib.hid hq
  generalize (expP K L S).length = PL at *
  clear hb3 hsh3 HEX
  go_wp2_with fail
  clear hmkS hq c2
  generalize w3.alloc (.cells (madeCells #[.int .i64 0, .slice none 0 0] (N * 2)) 38) = w4 at *
  go_loopw [11, 28] (fun _ i wr => ∃ k : Nat, k ≤ N ∧ i = .int .i64 k ∧ Hid (ExpW wr g q N k (fun j => vatV p (expP K L S) SL ((j + 1 : Nat) : Int))) ∧ Hid (Below q w3 wr)) (fun _ i _ => N - (intOf i).toNat)
  case atStart => exact ⟨0, Nat.zero_le _, rfl, HMS, HBS⟩
  case round =>
    obtain ⟨k, hkN, rfl, HM, HB⟩ := hrel
    by_cases hlt : k < N
    · obtain ⟨J, hJ⟩ : ∃ J, k + 1 = J := ⟨_, rfl⟩
      have hw1 : IntKind.i64.wrap ((k : Int) + 1) = (J : Int) := by rw [IntKind.wrap_i64]; omega
      have hpo := HP3.out.below HGQ.out HB.out
      have c0 := hpo.c0
      have HPO := Lib.hid hpo
      have HVC := Lib.hid (HVA.out _ J (by omega) wr (HSH3.out.below (Nat.le_of_eq HQQ.out) HB.out))
      obtain ⟨V, hV⟩ : ∃ V, vatV p (expP K L S) SL (J : Int) = V := ⟨_, rfl⟩
      rw [hV] at HVC
      have HVV : Hid (vatV p (expP K L S) SL ((k + 1 : Nat) : Int) = V) := by show _ = _; rw [hJ]; exact hV
      have HJJ := Lib.hid hJ
      have HVL : Hid (V.length ≤ 140737488355328) := by show _ ≤ _; rw [← hV, vatV_len]; have := HSLB.out; omega
      clear hpo hJ hV
      go_wp2_with fail
      refine HVC.out.mono ?_
      rintro e w5 ⟨v5, rfl, hgv, hb5⟩
      have hm5 := HM.out.grow hb5
      have hI5 := hgv.reads HVL.out
      have hbk : ∀ b, v5.ownBlock = some b → q < b := fun b hb => by have := (World.ownsRow.lt hgv b hb).1; have := HM.out.lt; omega
      obtain ⟨a5, c5, rfl⟩ := hgv.shape
      have hmn := hm5.push hlt (v := .slice a5 V.length c5) (by rw [HVV.out]; exact hI5) hbk
      rw [HJJ.out] at hmn
      obtain ⟨Z, hz1, _⟩ := hm5.row
      obtain ⟨k0, k1, f0, f1⟩ := hz1 k hlt
      simp only [Nat.lt_irrefl, if_false] at k0 k1
      have e1 : (w5.setCell ⟨q, k * 2, none⟩ (.int .i64 (J : Int))).cell? ⟨q, k * 2 + 1, none⟩ = some (.slice none 0 0) := by
        rw [World.cell?_setCell_other _ _ _ _ (by simp)]; exact k1
      have HMN := Lib.hid hmn
      have HBN : Hid (Below q w3 ((w5.setCell ⟨q, k * 2, none⟩ (.int .i64 (J : Int))).setCell ⟨q, k * 2 + 1, none⟩ (.slice a5 V.length c5))) := ((HB.out.trans (hb5.mono (Nat.le_of_lt HM.out.lt))).trans (set1_below _ _ _ (Nat.le_refl _))).trans (set1_below _ _ _ (Nat.le_refl _))
      clear hgv hb5 hm5 hI5 hbk hmn hz1 c0 HVC HPO
      go_wp2_with fail
      exact ⟨⟨J, by have := HJJ.out; omega, rfl, HMN, HBN⟩, by simp [intOf]; have := HJJ.out; omega⟩
    · obtain rfl : k = N := by omega
      have HFN : Hid (SharesN wr g (.slice (some ⟨q, 0, none⟩) k k) (expL p K k SL L S)) := HM.out.shares (expL_len _ _ _ _ _ _) (by omega) (fun j hj => expL_get hj)
      have HBF : Hid (Below g w wr) := HB3.out.trans (HB.out.mono (Nat.le_of_lt HGQ.out))
      go_wp2
      go_ret2
      exact ⟨_, rfl, HFN.out, HBF.out⟩

set_option maxRecDepth 100000 in
set_option maxHeartbeats 4000000 in
theorem share_explain (p k n : Int) (vk vs : Value) (L : List Shr) (S : List Int) (w : World) (hw : Wheel w) (hp : (Lit.int .i64 p).wf = true) (hk : Shares w vk L) (hs : Ints w vs S) :
    Calls Tryd.prog 14 #[planV p k n, vk, vs] w fun e w' => ∃ v, e = .returned (.tuple #[v, .int .i64 (expE p k n L S)]) ∧ SharesN w' w.heap.size v (expR p k n L S) ∧ Below w.heap.size w w' := by
  by_cases hE : expE p k n L S = 0
  · obtain ⟨K, N, rfl, rfl, _, hS, _, hp2, hin⟩ := expE_in hE
    have hR : expR p (K : Int) (N : Int) L S = expL p K N S.length L S := by unfold expR; rw [if_pos hE, Int.toNat_natCast, Int.toNat_natCast]
    rw [hE, hR]
    exact share_explain_ok p K N vk vs L S w hw hp hE hin hp2 hS hk hs
  · have hR : expR p k n L S = [] := by unfold expR; rw [if_neg hE]
    rw [hR]
    unfold planV
    obtain ⟨g, hg⟩ : ∃ g, w.heap.size = g := ⟨_, rfl⟩
    obtain ⟨w1, hw1⟩ : ∃ w1, w.alloc (Obj.cells #[Value.int IntKind.i64 p, Value.int IntKind.i64 k, Value.int IntKind.i64 n] 30) = w1 := ⟨_, rfl⟩
    have hb1 : Below g w w1 := by rw [← hw1, ← hg]; exact (Below.refl _ _).alloc (Nat.le_refl _) _
    have hp1 : PlanAt w1 g p k n := by rw [← hw1, ← hg]; exact planAt_new _ _ _ _ _
    have hs1 : w1.heap.size = g + 1 := by rw [← hw1, ← hg]; simp
    have HCD := Lib.hid (checkExplain_any p k n vk vs L S w1 (hw.below (by rw [← hg]; exact hw.size) hb1) hp (hk.below (Nat.le_of_eq hg) hb1) (hs.below (Nat.le_of_eq hg) hb1))
    unfold planV at HCD
    obtain ⟨E, hEE⟩ : ∃ E, expE p k n L S = E := ⟨_, rfl⟩
    rw [hEE] at HCD hE ⊢
    have n1 : (E != 0) = true := by simp only [bne_iff_ne]; exact hE
    have HB1 := Lib.hid hb1
    have HZ1 := Lib.hid hs1
    have d0 := hp1.c0
    have d1 := hp1.c1
    have d2 := hp1.c2
    obtain ⟨sa, sc, rfl⟩ := hs.shape
    obtain ⟨ra, rc, rfl, _⟩ := hk
    generalize S.length = SL at *
    generalize L.length = NL at *
    rw [hg]
    clear hw hp hb1 hp1 hs1 hE hEE hR hs
    go_enter Tryd.func14, Tryd.ntmps14
    go_wp2_with fail
    refine HCD.out.mono ?_
    rintro e w2 ⟨rfl, hb2⟩
    have HB2 : Hid (Below g w w2) := HB1.out.trans (hb2.mono (by have := HZ1.out; omega))
    clear hb2 HCD
    go_wp2
    go_ret2
    exact ⟨_, rfl, sharesN_nil _ _, HB2.out⟩
end Go.Proofs.YtcgemfiinmjllaaDoor
