
/- The program's package refresh: Apply. -/
import Derived.Test.YtgdclefnfjbbdaaDoorJPr2
import Derived.Laws.EntriesVeiled
namespace Go.Proofs.YtgdclefnfjbbdaaDoor
open Go.RowKit Go.Sort
open Num
set_option linter.unusedVariables false

/-- What Apply keeps in memory. -/
structure ApW (w0 W : World) (g ga : Nat) (p k n : Int) (zv : Value) : Prop where
  pl : PlanAt W g p k n
  zc : W.cell? ⟨g + 1, 0, none⟩ = some zv
  ac : W.cell? ⟨ga, 0, none⟩ = some (.func (.func 40) #[] #[.pointer (some ⟨g + 1, 0, none⟩)])
  be : Below g w0 W
  wh : Wheel W
  lt : g + 1 < ga
  sz : ga < W.heap.size
  ta : 0 < g
theorem ApW.below {w0 W W' : World} {g ga : Nat} {p k n : Int} {zv : Value} (h : ApW w0 W g ga p k n zv) (b : Below W.heap.size W W') : ApW w0 W' g ga p k n zv := by
  have h1 := h.lt
  have h2 := h.sz
  have h3 := h.ta
  exact ⟨h.pl.below (by omega) b, by rw [b.cell (p := ⟨g + 1, 0, none⟩) (by show g + 1 < W.heap.size; omega)]; exact h.zc, by rw [b.cell (p := ⟨ga, 0, none⟩) (by show ga < W.heap.size; omega)]; exact h.ac, h.be.trans (b.mono (by omega)), h.wh.below (by omega) b, h.lt, Nat.lt_of_lt_of_le h2 b.size, h.ta⟩
theorem ApW.keep {w0 W : World} {g ga q : Nat} {p k n : Int} {zv : Value} (h : ApW w0 W g ga p k n zv) (hq : ga < q) {i1 i2 : Nat} {x y : Value} : ApW w0 ((W.setCell ⟨q, i1, none⟩ x).setCell ⟨q, i2, none⟩ y) g ga p k n zv := by
  have h1 := h.lt
  have h2 := h.sz
  have h3 := h.ta
  have b : Below q W ((W.setCell ⟨q, i1, none⟩ x).setCell ⟨q, i2, none⟩ y) := (set1_below _ _ _ (Nat.le_refl _)).trans (set1_below _ _ _ (Nat.le_refl _))
  exact ⟨h.pl.below (by omega) b, by rw [b.cell (p := ⟨g + 1, 0, none⟩) (by show g + 1 < q; omega)]; exact h.zc, by rw [b.cell (p := ⟨ga, 0, none⟩) (by show ga < q; omega)]; exact h.ac, h.be.trans (b.mono (by omega)), h.wh.below (by omega) b, h.lt, Nat.lt_of_lt_of_le h2 b.size, h.ta⟩
theorem cell_pair {w : World} {x : Value} {t : TypeId} {k : Nat} (hk : w.heap.size = k) (o : Obj) : ((w.alloc o).alloc (.cells #[x] t)).cell? ⟨k + 1, 0, none⟩ = some x := cell_alloc_new _ x t _ (by simp [hk])
/-- The share of a holder has one place. -/
theorem idx_only {p n : Int} {Z : List Shr} {h : Int} (hg : goodB p n Z = true) (hh : hasB Z h = true) : ∃ i : Nat, i < Z.length ∧ (Z.getD i (0, [])).1 = h ∧ (Z.getD i (0, [])).2 = pick Z h ∧ ∀ r, IdxR Z h r → r = (i : Int) := by
  obtain ⟨z, hz, he⟩ := List.any_eq_true.1 hh
  have he : z.1 = h := by simpa using he
  obtain ⟨i, hi, rfl⟩ := List.mem_iff_getElem.1 hz
  have hd := goodB_parts hg
  have hone : (Z.map (·.1)).Nodup := by
    rw [List.nodup_iff_pairwise_ne, List.pairwise_iff_getElem]
    intro a b ha hb hab e
    rw [List.length_map] at ha hb
    rw [List.getElem_map, List.getElem_map] at e
    have := (hd b hb).2.2.2 a hab
    rw [getS_at ha, getS_at hb] at this
    exact this e
  refine ⟨i, hi, by rw [getS_at hi]; exact he, by rw [getS_at hi, ← he]; exact (pick_at hone hz).symm, fun r hr => ?_⟩
  rcases hr with ⟨j, hj, rfl, e⟩ | ⟨_, e⟩
  · rw [getS_at hj] at e
    rw [List.nodup_iff_pairwise_ne, List.pairwise_iff_getElem] at hone
    rcases Nat.lt_trichotomy i j with h1 | h1 | h1
    · exact absurd (by rw [List.getElem_map, List.getElem_map]; exact he.trans e.symm) (hone i j (by simpa using hi) (by simpa using hj) h1)
    · rw [h1]
    · exact absurd (by rw [List.getElem_map, List.getElem_map]; exact e.trans he.symm) (hone j i (by simpa using hj) (by simpa using hi) h1)
  · rw [hh] at e; cases e
theorem apL_get (p : Int) {L Z : List Shr} {j : Nat} (hj : j < L.length) : (apL p L Z).getD j (0, []) = ((L.getD j (0, [])).1, linF p (L.getD j (0, [])).2 (pick Z (L.getD j (0, [])).1) 1) := by
  rw [getS_at (by rw [apL_len]; exact hj), getS_at hj]
  simp [apL]
/-- A region whose orders all end alike, but for one value and a place. -/
theorem region_oneVN {P : Program} {id : Nat} {ops : Array Oper} {d : Bool} {Q : Exit → Act → World → Prop} {a : Act} {w : World} (R : Value → Nat → World → Prop) (A : Value → Nat → Act) (hr : (Code.region id ops d).wp P (fun e a' W => e = .normal ∧ ∃ v n, a' = A v n ∧ R v n W) a w)
    (h : ∀ v n W, R v n W → Q .normal (A v n) W) : (Code.region id ops d).wp P Q a w :=
  Code.wp_mono (fun _ _ _ ⟨h1, v, n, h2, h3⟩ => by subst h1; subst h2; exact h v n _ h3) hr
set_option maxRecDepth 100000 in
set_option maxHeartbeats 16000000 in
theorem refresh_apply_put (p k n : Int) (v z : Value) (L Z : List Shr) (w : World) (hw : Wheel w) (hp : (Lit.int .i64 p).wf = true) (hl : Shares w v L) (hz : Shares w z Z) :
    Calls Tryd.prog 23 #[planV p k n, v, z] w fun e w' => ∃ v', e = .returned (.tuple #[v', .int .i64 (apE p k n L Z)]) ∧ SharesN w' w.heap.size v' (apR p k n L Z) ∧ Below w.heap.size w w' ∧ (apE p k n L Z = 0 → ∃ q X, v' = .slice (some ⟨q, 0, none⟩) L.length L.length ∧ w.heap.size ≤ q ∧ PutS w' w.heap.size q L.length X (fun i => (apL p L Z).getD i (0, []))) := by
  obtain ⟨al, cl, rfl, hL1, _⟩ := id hl
  obtain ⟨az, cz, rfl, hZ1, _⟩ := id hz
  obtain ⟨N, hN⟩ : ∃ N, L.length = N := ⟨_, rfl⟩
  obtain ⟨M, hM⟩ : ∃ M, Z.length = M := ⟨_, rfl⟩
  rw [hN] at hl hL1 ⊢
  rw [hM] at hz hZ1 ⊢
  obtain ⟨g, hg⟩ : ∃ g, w.heap.size = g := ⟨_, rfl⟩
  obtain ⟨w1, hw1⟩ : ∃ w1, (w.alloc (.cells #[.int .i64 p, .int .i64 k, .int .i64 n] 30)).alloc (.cells #[.slice az M cz] 23) = w1 := ⟨_, rfl⟩
  have hb0 : Below g w (w.alloc (.cells #[.int .i64 p, .int .i64 k, .int .i64 n] 30)) := by rw [← hg]; exact (Below.refl _ _).alloc (Nat.le_refl _) _
  have hb1 : Below g w w1 := by rw [← hw1]; exact hb0.alloc (by simp; omega) _
  have hs1 : w1.heap.size = g + 1 + 1 := by rw [← hw1, ← hg]; simp
  have hpl1 : PlanAt w1 g p k n := by
    have h := planAt_new w p k n 30
    rw [hg] at h
    rw [← hw1]
    exact h.below (B := (w.alloc (.cells #[.int .i64 p, .int .i64 k, .int .i64 n] 30)).heap.size) (by simp; omega) ((Below.refl _ _).alloc (Nat.le_refl _) _)
  have hzc1 : w1.cell? ⟨g + 1, 0, none⟩ = some (.slice az M cz) := by rw [← hw1]; exact cell_pair hg _
  have HTA : Hid (0 < g) := by show _ < _; rw [← hg]; exact hw.size
  have HWH1 : Hid (Wheel w1) := hw.below (by rw [← hg]; exact hw.size) hb1
  have HGL := Lib.hid (refresh_good p k n (.slice al N cl) L w1 HWH1.out hp (hl.below (Nat.le_of_eq hg) hb1))
  have HLW : Hid (∀ W, Below g w W → Shares W (.slice al N cl) L) := fun W b => hl.below (Nat.le_of_eq hg) b
  have HZW : Hid (∀ W, Below g w W → Shares W (.slice az M cz) Z) := fun W b => hz.below (Nat.le_of_eq hg) b
  unfold planV at HGL ⊢
  have HN := Lib.hid hN
  have HM := Lib.hid hM
  have HB1 := Lib.hid hb1
  have HS1 := Lib.hid hs1
  have HP1 := Lib.hid hpl1
  have HZ1 := Lib.hid hzc1
  have HPW := Lib.hid hp
  have HGG := Lib.hid hg
  have c0 := hpl1.c0
  have c1 := hpl1.c1
  have c2 := hpl1.c2
  rw [hg]
  clear hl hz hN hM hb0 hb1 hs1 hpl1 hp hw
  have HNO1 : Hid (¬ (planB p k n = true ∧ goodB p n L = true ∧ goodB p n Z = true) → apE p k n L Z = 1 ∧ apR p k n L Z = []) := fun h => apE_no1 h
  cases hbl : gdB p k n L with
  | false =>
    rw [hbl] at HGL
    have HE := Lib.hid (HNO1.out fun h => by rw [gdB_and.2 ⟨h.1, h.2.1⟩] at hbl; cases hbl)
    clear hbl
    go_enter Tryd.func23, Tryd.ntmps23
    go_wp2_with fail
    refine HGL.out.mono ?_
    rintro e w2 ⟨rfl, hb⟩
    have HB2 := Lib.hid (HB1.out.trans (hb.mono (by rw [HS1.out]; omega)))
    clear hb HGL c0 c1 c2 hzc1
    go_wp2
    go_ret2
    exact ⟨.slice none 0 0, by rw [HE.out.1]; rfl, by rw [HE.out.2]; exact sharesN_nil _ _, HB2.out, fun h => by rw [HE.out.1] at h; omega⟩
  | true =>
  rw [hbl] at HGL
  have HGZ := Lib.hid (fun W (b : Below w1.heap.size w1 W) => refresh_good p k n (.slice az M cz) Z W (HWH1.out.below (by have := HTA.out; have := HS1.out; omega) b) HPW.out (HZW.out W (HB1.out.trans (b.mono (by rw [HS1.out]; omega)))))
  unfold planV at HGZ
  cases hbz : gdB p k n Z with
  | false =>
    rw [hbz] at HGZ
    have HE := Lib.hid (HNO1.out fun h => by rw [gdB_and.2 ⟨h.1, h.2.2⟩] at hbz; cases hbz)
    clear hbl hbz
    go_enter Tryd.func23, Tryd.ntmps23
    go_wp2_with fail
    refine HGL.out.mono ?_
    rintro e w2 ⟨rfl, hb⟩
    have HB2 := Lib.hid hb
    have hp2 := HP1.out.below (by have := HS1.out; omega) hb
    have d0 := hp2.c0
    have d1 := hp2.c1
    have d2 := hp2.c2
    have d3 : w2.cell? ⟨g + 1, 0, none⟩ = some (.slice az M cz) := by rw [hb.cell (p := ⟨g + 1, 0, none⟩) (by show g + 1 < w1.heap.size; have := HS1.out; omega)]; exact HZ1.out
    have HQ := Lib.hid (HGZ.out w2 hb)
    clear hb HGL c0 c1 c2 hzc1 hp2 HGZ
    go_wp2_with fail
    refine HQ.out.mono ?_
    rintro e w3 ⟨rfl, hb⟩
    have HB3 := Lib.hid ((HB1.out.trans (HB2.out.mono (by rw [HS1.out]; omega))).trans (hb.mono (by have := HB2.out.size; have := HS1.out; omega)))
    clear hb HQ d0 d1 d2 d3
    go_wp2
    go_ret2
    exact ⟨.slice none 0 0, by rw [HE.out.1]; rfl, by rw [HE.out.2]; exact sharesN_nil _ _, HB3.out, fun h => by rw [HE.out.1] at h; omega⟩
  | true =>
  rw [hbz] at HGZ
  obtain ⟨hpB, hgL⟩ := gdB_and.1 hbl
  obtain ⟨_, hgZ⟩ := gdB_and.1 hbz
  have HPB := Lib.hid hpB
  have HGDL := Lib.hid hgL
  have HGDZ := Lib.hid hgZ
  have HALL : Hid (planB p k n = true ∧ goodB p n L = true ∧ goodB p n Z = true) := ⟨hpB, hgL, hgZ⟩
  clear hbl hbz hpB hgL hgZ HNO1
  go_enter Tryd.func23, Tryd.ntmps23
  go_wp2_with fail
  refine HGL.out.mono ?_
  rintro e w2 ⟨rfl, hb⟩
  have HB2 := Lib.hid hb
  have hp2 := HP1.out.below (by have := HS1.out; omega) hb
  have d0 := hp2.c0
  have d1 := hp2.c1
  have d2 := hp2.c2
  have d3 : w2.cell? ⟨g + 1, 0, none⟩ = some (.slice az M cz) := by rw [hb.cell (p := ⟨g + 1, 0, none⟩) (by show g + 1 < w1.heap.size; have := HS1.out; omega)]; exact HZ1.out
  have HQ := Lib.hid (HGZ.out w2 hb)
  have HP2 := Lib.hid hp2
  have HZ2 := Lib.hid d3
  clear hb HGL c0 c1 c2 hzc1 hp2 HGZ
  go_wp2_with fail
  refine HQ.out.mono ?_
  rintro e w3 ⟨rfl, hb⟩
  obtain ⟨ga, hga⟩ : ∃ ga, w3.heap.size = ga := ⟨_, rfl⟩
  have hz2 : g + 1 < w2.heap.size := by have := HB2.out.size; have := HS1.out; omega
  have hag : g + 1 < ga := by have := hb.size; omega
  have HB3 := Lib.hid ((HB1.out.trans (HB2.out.mono (by rw [HS1.out]; omega))).trans (hb.mono (show g ≤ w2.heap.size by omega)))
  have hWH3 : Wheel w3 := (HWH1.out.below (by have := HTA.out; have := HS1.out; omega) HB2.out).below (by have := HTA.out; omega) hb
  have HA4 : Hid (ApW w (w3.alloc (.cells #[.func (.func 40) #[] #[.pointer (some ⟨g + 1, 0, none⟩)]] 65)) g ga p k n (.slice az M cz)) := by
    have hal : Below w3.heap.size w3 (w3.alloc (.cells #[.func (.func 40) #[] #[.pointer (some ⟨g + 1, 0, none⟩)]] 65)) := (Below.refl _ _).alloc (Nat.le_refl _) _
    exact ⟨(HP2.out.below (by omega) hb).below (by omega) hal, by rw [hal.cell (p := ⟨g + 1, 0, none⟩) (by show g + 1 < w3.heap.size; omega), hb.cell (p := ⟨g + 1, 0, none⟩) hz2]; exact HZ2.out, cell_alloc_new _ _ _ _ hga, HB3.out.trans (hal.mono (by omega)), hWH3.below (by have := HTA.out; omega) hal, hag, by simp; omega, HTA.out⟩
  have HCN := Lib.hid (contains_lacks al N cl L az M cz Z (g + 1) ga _ (HLW.out _ HA4.out.be) HN.out hL1 (HZW.out _ HA4.out.be) HM.out hZ1 HA4.out.zc HA4.out.ac)
  have HGA := Lib.hid hga
  clear hb HQ d0 d1 d2 d3 HB2 HP2 HZ2 HB3 hWH3 hz2 hag hga
  go_wp2_with fail
  rw [HGA.out]
  clear HGA
  generalize w3.alloc (.cells #[.func (.func 40) #[] #[.pointer (some ⟨g + 1, 0, none⟩)]] 65) = w4 at *
  cases hbc : L.any (fun s => !hasB Z s.1) with
  | true =>
    rw [hbc] at HCN
    have HE := Lib.hid (apE_no5 HALL.out fun h => by
      obtain ⟨s, hs, he⟩ := List.any_eq_true.1 hbc
      rw [h s hs] at he; cases he)
    clear hbc
    refine HCN.out.mono ?_
    rintro e w5 ⟨rfl, hb⟩
    have HB5 := Lib.hid (HA4.out.below hb)
    clear hb
    go_wp2
    go_ret2
    exact ⟨.slice none 0 0, by rw [HE.out.1]; rfl, by rw [HE.out.2]; exact sharesN_nil _ _, HB5.out.be, fun h => by rw [HE.out.1] at h; omega⟩
  | false =>
  rw [hbc] at HCN
  have HHAS : Hid (∀ s ∈ L, hasB Z s.1 = true) := fun s hs => by
    have := List.any_eq_false.1 hbc s hs
    simpa using this
  clear hbc
  refine HCN.out.mono ?_
  rintro e w5 ⟨rfl, hb⟩
  have HA5 := Lib.hid (HA4.out.below hb)
  have hmkS := run_make_share N hL1 w5
  obtain ⟨q, hq⟩ : ∃ q, w5.heap.size = q := ⟨_, rfl⟩
  have hgq : g ≤ q := by have := HA5.out.lt; have := HA5.out.sz; omega
  have hal : Below w5.heap.size w5 (w5.alloc (.cells (madeCells #[.int .i64 0, .slice none 0 0] (N * 2)) 36)) := (Below.refl _ _).alloc (Nat.le_refl _) _
  have HA6 := Lib.hid (HA5.out.below hal)
  have HP6 : Hid (∃ X, PutS (w5.alloc (.cells (madeCells #[.int .i64 0, .slice none 0 0] (N * 2)) 36)) g q N X (toL (apL p L Z) 0)) := by
    have h := putS_start w5 g N 36 (by omega)
    rw [hq] at h
    exact ⟨_, h.congr fun i _ => toL_zero _ i⟩
  have HAQ : Hid (ga < q) := by have := HA5.out.sz; show _ < _; omega
  rw [hq] at hmkS
  clear hb hal hgq HA5 HA4 HCN hq
  go_wp2_with fail
  clear hmkS
  generalize w5.alloc (.cells (madeCells #[.int .i64 0, .slice none 0 0] (N * 2)) 36) = w6 at *
  go_loopw [10, 11, 12, 13, 33] (fun _ _ _ _ i wr => ∃ j : Nat, j ≤ N ∧ i = .int .i64 j ∧ Hid (∀ t, t < j → (L.getD t (0, [])).2.length = (pick Z (L.getD t (0, [])).1).length) ∧ Hid (∃ X, PutS wr g q N X (toL (apL p L Z) j)) ∧ Hid (ApW w wr g ga p k n (.slice az M cz))) (fun _ _ _ _ i _ => N - (intOf i).toNat)
  case atStart => exact ⟨0, Nat.zero_le _, rfl, fun t ht => by omega, HP6, HA6⟩
  case round =>
    obtain ⟨j, hj, rfl, HE, HP, HA⟩ := hrel
    clear HP6 HA6
    by_cases hlt : j < N
    · obtain ⟨b1, o1, v1, rfl, s0, s1, hi1⟩ := (HLW.out wr HA.out.be).at hlt
      have hgj := goodB_parts HGDL.out j (by rw [HN.out]; exact hlt)
      have hin : L.getD j (0, []) ∈ L := by rw [getS_at (by rw [HN.out]; exact hlt)]; exact List.getElem_mem _
      have hhb := HHAS.out _ hin
      have HAG := Lib.hid (apL_get p (L := L) (Z := Z) (show j < L.length by rw [HN.out]; exact hlt))
      have HEJ : Hid ((L.getD j (0, [])).2.length = (pick Z (L.getD j (0, [])).1).length → ∀ t, t < j + 1 → (L.getD t (0, [])).2.length = (pick Z (L.getD t (0, [])).1).length) := fun e t ht => by
        by_cases e2 : t = j
        · subst e2; exact e
        · exact HE.out t (by omega)
      have HNE : Hid ((L.getD j (0, [])).2.length ≠ (pick Z (L.getD j (0, [])).1).length → apE p k n L Z = 2 ∧ apR p k n L Z = []) := fun e => apE_no2 HALL.out HHAS.out fun h => e (h _ hin)
      unfold GoodAt at hgj
      obtain ⟨⟨h, l⟩, hsh⟩ : ∃ x, L.getD j (0, []) = x := ⟨_, rfl⟩
      rw [hsh] at s0 hi1 hgj hhb HAG HEJ HNE
      simp only at s0 hi1 hgj hhb
      obtain ⟨hst, _, hll, _⟩ := hgj
      obtain ⟨i, hiM, hz1, hz2, hone⟩ := idx_only HGDZ.out hhb
      have hgz := goodB_parts HGDZ.out i hiM
      unfold GoodAt at hgz
      rw [HM.out] at hiM
      obtain ⟨m, hm⟩ : ∃ m, pick Z h = m := ⟨_, rfl⟩
      rw [hm] at hz2
      have hzi : Z.getD i (0, []) = (h, m) := Prod.ext hz1 hz2
      rw [hzi] at hgz
      obtain ⟨b2, o2, v2, rfl, t0, t1, hi2⟩ := (HZW.out wr HA.out.be).at hiM
      rw [hzi] at t0 hi2
      simp only at t0 hi2
      have hml : m.length ≤ 2048 := hgz.2.2.1
      have hstm : stB p n (h, m) = true := hgz.1
      obtain ⟨a1, d1, rfl⟩ := hi1.shape
      obtain ⟨a2, d2, rfl⟩ := hi2.shape
      obtain ⟨E, hE⟩ : ∃ E, addE p k n (h, l) (h, m) = E := ⟨_, rfl⟩
      obtain ⟨⟨h', l'⟩, hR⟩ : ∃ R, addR p k n (h, l) (h, m) = R := ⟨_, rfl⟩
      have HOK : Hid (l.length = m.length → E = 0 ∧ h' = h ∧ l' = linF p l m 1) := fun e => by
        obtain ⟨e1, e2⟩ := addE_ok (p := p) (k := k) (n := n) (a := (h, l)) (b := (h, m)) ⟨HPB.out, hst, hstm, rfl, e⟩
        rw [hE] at e1
        rw [hR] at e2
        injection e2 with e2 e3
        exact ⟨e1, e2, e3⟩
      have HNO : Hid (l.length ≠ m.length → E = 1) := fun e => by
        rw [← hE]
        exact (addE_no fun x => e x.2.2.2.2).1
      have HLL' : Hid (l'.length ≤ 100000) := by
        show _ ≤ _
        by_cases e : l.length = m.length
        · rw [(HOK.out e).2.2, linF_len']; omega
        · have := (addE_no (p := p) (k := k) (n := n) (a := (h, l)) (b := (h, m)) fun x => e x.2.2.2.2).2
          rw [hR] at this
          injection this with _ e3
          rw [e3]; simp
      obtain ⟨nl, hnl⟩ : ∃ nl, l.length = nl := ⟨_, rfl⟩
      obtain ⟨nm, hnm⟩ : ∃ nm, m.length = nm := ⟨_, rfl⟩
      rw [hm] at HAG HEJ HNE
      rw [hnl] at s1 hi1 hll HOK HNO HEJ HNE
      rw [hnm] at t1 hi2 hml HOK HNO HEJ HNE
      obtain ⟨gs, hgs⟩ : ∃ gs, wr.heap.size = gs := ⟨_, rfl⟩
      have hal : Below wr.heap.size wr (wr.alloc (.cells #[.int .i64 h, .slice a1 nl d1] 36)) := (Below.refl _ _).alloc (Nat.le_refl _) _
      have hsa := shAt_new wr h (.slice a1 nl d1) 36
      rw [hgs] at hsa
      have HSA := Lib.hid hsa
      have HAA := Lib.hid (HA.out.below hal)
      have HPA : Hid (∃ X, PutS (wr.alloc (.cells #[.int .i64 h, .slice a1 nl d1] 36)) g q N X (toL (apL p L Z) j)) := by
        obtain ⟨X, hX⟩ := HP.out
        exact ⟨X, hX.below hal⟩
      have HI1 := Lib.hid (hi1.below (Nat.le_refl _) hal)
      have HI2 := Lib.hid (hi2.below (Nat.le_refl _) hal)
      have ht0 : (wr.alloc (.cells #[.int .i64 h, .slice a1 nl d1] 36)).cell? ⟨b2, o2 + i * 2, none⟩ = some (.int .i64 h) := cell_alloc_old _ _ _ _ t0
      have ht1 : (wr.alloc (.cells #[.int .i64 h, .slice a1 nl d1] 36)).cell? ⟨b2, o2 + i * 2 + 1, none⟩ = some (.slice a2 nm d2) := cell_alloc_old _ _ _ _ t1
      have HT0 := Lib.hid ht0
      have HT1 := Lib.hid ht1
      have HONE := Lib.hid hone
      have HLL := Lib.hid hll
      have HML := Lib.hid hml
      have HNL := Lib.hid hnl
      have HNM := Lib.hid hnm
      have HEE := Lib.hid hE
      have HRR := Lib.hid hR
      have HGS := Lib.hid hgs
      clear hal hsa hi1 hi2 ht0 ht1 hone hgz hst hstm hsh hin hhb hz1 hz2 hzi hm hnl hnm hE hR HA HP HE t0 t1 hll hml hgs
      go_wp2_with fail
      rw [HGS.out]
      clear s0 s1
      generalize wr.alloc (.cells #[.int .i64 h, .slice a1 nl d1] 36) = w7 at *
      obtain ⟨B0, hB0⟩ : ∃ B0, w7.heap.size = B0 := ⟨_, rfl⟩
      have HKP : Hid (∀ W, Below B0 w7 W → (W.cell? ⟨g, 0, none⟩ = some (.int .i64 p) ∧ W.cell? ⟨g, 1, none⟩ = some (.int .i64 k) ∧ W.cell? ⟨g, 2, none⟩ = some (.int .i64 n) ∧ W.cell? ⟨gs, 0, none⟩ = some (.int .i64 h) ∧ W.cell? ⟨gs, 1, none⟩ = some (.slice a1 nl d1) ∧ W.cell? ⟨g + 1, 0, none⟩ = some (.slice (some ⟨b2, o2, none⟩) M cz) ∧ W.cell? ⟨ga, 0, none⟩ = some (.func (.func 40) #[] #[.pointer (some ⟨g + 1, 0, none⟩)]) ∧ W.cell? ⟨b2, o2 + i * 2, none⟩ = some (.int .i64 h) ∧ W.cell? ⟨b2, o2 + i * 2 + 1, none⟩ = some (.slice a2 nm d2))) := fun W hb => by
        have hb' : Below w7.heap.size w7 W := by rw [hB0]; exact hb
        have h1 := HAA.out.below hb'
        have h2 := HSA.out.below hb' HSA.out.lt
        exact ⟨h1.pl.c0, h1.pl.c1, h1.pl.c2, h2.c0, h2.c1, h1.zc, h1.ac, by rw [hb'.cell (p := ⟨b2, o2 + i * 2, none⟩) (cell_lt HT0.out)]; exact HT0.out, by rw [hb'.cell (p := ⟨b2, o2 + i * 2 + 1, none⟩) (cell_lt HT1.out)]; exact HT1.out⟩
      have HBG : Hid (∀ W, Below B0 w7 W → Below g w W) := fun W hb => (HAA.out.below (by rw [hB0]; exact hb)).be
      have HPL : Hid (∀ W, Below B0 w7 W → Calls Tryd.prog 40 #[.agg #[.int .i64 h, .slice a1 nl d1], .pointer (some ⟨g + 1, 0, none⟩)] W fun e w' => e = .returned (.int .i64 (i : Int)) ∧ Below W.heap.size W w') := fun W hb => by
        refine (place_any (some ⟨b2, o2, none⟩) M cz Z h a1 nl d1 (g + 1) W (HZW.out W (HBG.out W hb)) HM.out hZ1 (HKP.out W hb).2.2.2.2.2.1).mono ?_
        rintro e w' ⟨r, rfl, hr, hb2⟩
        exact ⟨by rw [HONE.out r hr], hb2⟩
      have HAD : Hid (∀ W, Below B0 w7 W → Calls Tryd.prog 45 #[.agg #[.int .i64 p, .int .i64 k, .int .i64 n], .agg #[.int .i64 h, .slice a1 nl d1], .agg #[.int .i64 h, .slice a2 nm d2]] W fun e w' => ∃ v, e = .returned (.tuple #[.agg #[.int .i64 h', v], .int .i64 E]) ∧ Gath w' W.heap.size v l' ∧ Below W.heap.size W w') := fun W hb => by
        have hb' : Below w7.heap.size w7 W := by rw [hB0]; exact hb
        have hx := share_add p k n h h (.slice a1 nl d1) (.slice a2 nm d2) l m W (HAA.out.below hb').wh HPW.out (HI1.out.below (Nat.le_refl _) hb') (HI2.out.below (Nat.le_refl _) hb') (by rw [HNL.out]; have := HLL.out; omega) (by rw [HNM.out]; have := HML.out; omega)
        rw [HRR.out, HEE.out] at hx
        exact hx
      have HBZ := Lib.hid hB0
      have HBD : Hid (Below B0 w7 w7.drew) := (Below.refl _ _).drew
      have HBA : Hid (Below B0 w7 (w7.alloc (.cells #[.int .i64 0, .slice none 0 0] 36)).drew) := ((Below.refl _ _).alloc (Nat.le_of_eq hB0.symm) _).drew
      have HSZ : Hid (∀ W, Below B0 w7 W → B0 ≤ W.heap.size) := fun W hb => by have h1 := hb.size; omega
      have HAL2 : Hid (∀ (W : World) o, Below B0 w7 W → Below B0 w7 (W.alloc o)) := fun W o hb => hb.trans ((Below.refl B0 W).alloc (HSZ.out W hb) o)
      have HNW : Hid (∀ (W : World) (h : Int) (v : Value), ShAt (W.alloc (.cells #[.int .i64 h, v] 36)) W.heap.size h v) := fun W h v => shAt_new W h v _
      have HN0 : Hid (∀ W : World, ShAt (W.alloc (.cells #[.int .i64 0, .slice none 0 0] 36)) W.heap.size 0 (.slice none 0 0)) := fun W => shAt_new W 0 _ _
      have HZT : Hid (ShAt (w7.alloc (.cells #[.int .i64 0, .slice none 0 0] 36)).drew w7.heap.size 0 (.slice none 0 0)) := shAt_new w7 0 _ _
      have HFN : Hid (∀ (W : World) (c : Nat) (v : Value) (B1 : Nat), ShAt W c 0 (.slice none 0 0) → Gath W B1 v l' → c < B1 → B0 ≤ c → Below B0 w7 W → (ShAt ((W.setCell ⟨c, 0, none⟩ (.int .i64 h')).setCell ⟨c, 1, none⟩ v) c h' v ∧ Gath ((W.setCell ⟨c, 0, none⟩ (.int .i64 h')).setCell ⟨c, 1, none⟩ v) B0 v l' ∧ Below B0 w7 ((W.setCell ⟨c, 0, none⟩ (.int .i64 h')).setCell ⟨c, 1, none⟩ v))) := fun W c v B1 h1 h2 h3 h4 h5 =>
        ⟨(h1.set0 h').set v, (gath_set_other (gath_set_other h2 h3 _ _) h3 _ _).mono (by omega), h5.trans ((set1_below _ 0 _ h4).trans (set1_below _ 1 _ h4))⟩
      have HFN2 : Hid (∀ (W : World) (c : Nat) (x y : Value), B0 ≤ c → Below B0 w7 W → (((W.setCell ⟨c, 0, none⟩ x).setCell ⟨c, 1, none⟩ y).cell? ⟨g, 0, none⟩ = some (.int .i64 p) ∧ ((W.setCell ⟨c, 0, none⟩ x).setCell ⟨c, 1, none⟩ y).cell? ⟨g, 1, none⟩ = some (.int .i64 k) ∧ ((W.setCell ⟨c, 0, none⟩ x).setCell ⟨c, 1, none⟩ y).cell? ⟨g, 2, none⟩ = some (.int .i64 n) ∧ ((W.setCell ⟨c, 0, none⟩ x).setCell ⟨c, 1, none⟩ y).cell? ⟨gs, 0, none⟩ = some (.int .i64 h) ∧ ((W.setCell ⟨c, 0, none⟩ x).setCell ⟨c, 1, none⟩ y).cell? ⟨gs, 1, none⟩ = some (.slice a1 nl d1) ∧ ((W.setCell ⟨c, 0, none⟩ x).setCell ⟨c, 1, none⟩ y).cell? ⟨g + 1, 0, none⟩ = some (.slice (some ⟨b2, o2, none⟩) M cz) ∧ ((W.setCell ⟨c, 0, none⟩ x).setCell ⟨c, 1, none⟩ y).cell? ⟨ga, 0, none⟩ = some (.func (.func 40) #[] #[.pointer (some ⟨g + 1, 0, none⟩)]) ∧ ((W.setCell ⟨c, 0, none⟩ x).setCell ⟨c, 1, none⟩ y).cell? ⟨b2, o2 + i * 2, none⟩ = some (.int .i64 h) ∧ ((W.setCell ⟨c, 0, none⟩ x).setCell ⟨c, 1, none⟩ y).cell? ⟨b2, o2 + i * 2 + 1, none⟩ = some (.slice a2 nm d2))) := fun W c x y h4 h5 => HKP.out _ (h5.trans ((set1_below _ 0 _ h4).trans (set1_below _ 1 _ h4)))
      clear hB0
      have HSK := HKP.out w7 (Below.refl _ _)
      obtain ⟨c0, c1, c2, s0, s1, z0, z1, t0, t1⟩ := id HSK
      apply region_oneVN (fun v c W => Hid (ShAt W c h' v) ∧ Hid (Gath W B0 v l') ∧ Hid (Below B0 w7 W))
      case hr =>
        refine wp_region_noPanic ?_
        go_region_held3 (fun W' => W'.cell? ⟨g, 0, none⟩ = some (.int .i64 p) ∧ W'.cell? ⟨g, 1, none⟩ = some (.int .i64 k) ∧ W'.cell? ⟨g, 2, none⟩ = some (.int .i64 n) ∧ W'.cell? ⟨gs, 0, none⟩ = some (.int .i64 h) ∧ W'.cell? ⟨gs, 1, none⟩ = some (.slice a1 nl d1) ∧ W'.cell? ⟨g + 1, 0, none⟩ = some (.slice (some ⟨b2, o2, none⟩) M cz) ∧ W'.cell? ⟨ga, 0, none⟩ = some (.func (.func 40) #[] #[.pointer (some ⟨g + 1, 0, none⟩)]) ∧ W'.cell? ⟨b2, o2 + i * 2, none⟩ = some (.int .i64 h) ∧ W'.cell? ⟨b2, o2 + i * 2 + 1, none⟩ = some (.slice a2 nm d2)) (first | go_keep | exact HSK | exact HSK1 | exact HSK2)
          (first
            | (go_at_call 40; with_reducible refine (HPL.out w7.drew HBD.out).mono ?_; rintro e w14 ⟨rfl, hb⟩; have HB14 := Lib.hid (HBD.out.trans (hb.mono (HSZ.out _ HBD.out))); have HSK := HKP.out w14 HB14.out; clear hb)
            | (go_at_call 40; with_reducible refine (HPL.out (w7.alloc (.cells #[.int .i64 0, .slice none 0 0] 36)).drew HBA.out).mono ?_; rintro e w14 ⟨rfl, hb⟩; have HB14 := Lib.hid (HBA.out.trans (hb.mono (HSZ.out _ HBA.out))); have HSK := HKP.out w14 HB14.out; have HZ14 := Lib.hid (HZT.out.below hb HZT.out.lt); clear hb)
            | (go_at_call 45; with_reducible refine (HAD.out w14 HB14.out).mono ?_; rintro e w15 ⟨vs, rfl, hgs, hb⟩; have HB15 := Lib.hid (HB14.out.trans (hb.mono (HSZ.out _ HB14.out))); have HSK1 := HKP.out w15 HB15.out; have HG15 := Lib.hid hgs; have HZ15 := Lib.hid (HZ14.out.below hb HZ14.out.lt); obtain ⟨aw, cw, rfl⟩ := hgs.shape; have HSK2 := HFN2.out w15 w7.heap.size (.int .i64 h') (.slice aw l'.length cw) (Nat.le_of_eq HBZ.out.symm) HB15.out; have HQX := Lib.hid (HFN.out w15 _ _ _ HZ15.out hgs HZ14.out.lt (Nat.le_of_eq HBZ.out.symm) HB15.out); have r0 := HZ15.out.c0; have r1 := HZ15.out.c1; have f0 := HZ15.out.fr 0; have f1 := HZ15.out.fr 1; clear hgs hb)
            | (go_at_call 45; with_reducible refine (HAD.out w14 HB14.out).mono ?_; rintro e w15 ⟨vs, rfl, hgs, hb⟩; have HB15 := Lib.hid (HB14.out.trans (hb.mono (HSZ.out _ HB14.out))); have HSK1 := HKP.out w15 HB15.out; have HG15 := Lib.hid hgs; obtain ⟨aw, cw, rfl⟩ := hgs.shape; clear hgs hb)
            | (go_at_call 45; with_reducible refine (HAD.out (w14.alloc (.cells #[.int .i64 0, .slice none 0 0] 36)) (HAL2.out w14 _ HB14.out)).mono ?_; rintro e w15 ⟨vs, rfl, hgs, hb⟩; have HB15 := Lib.hid ((HAL2.out w14 _ HB14.out).trans (hb.mono (HSZ.out _ (HAL2.out w14 _ HB14.out)))); have HSK1 := HKP.out w15 HB15.out; have HZ15 := Lib.hid ((HN0.out w14).below hb (HN0.out w14).lt); obtain ⟨aw, cw, rfl⟩ := hgs.shape; have HSK2 := HFN2.out w15 w14.heap.size (.int .i64 h') (.slice aw l'.length cw) (HSZ.out _ HB14.out) HB15.out; have HQX := Lib.hid (HFN.out w15 _ _ _ HZ15.out hgs (HN0.out w14).lt (HSZ.out _ HB14.out) HB15.out); have r0 := HZ15.out.c0; have r1 := HZ15.out.c1; have f0 := HZ15.out.fr 0; have f1 := HZ15.out.fr 1; clear hgs hb))
        · refine NoPanic.normal ?_
          have h1 : ShAt (w15.alloc (.cells #[.int .i64 h', .slice aw l'.length cw] 36)) w15.heap.size h' (.slice aw l'.length cw) := HNW.out _ _ _
          have h2 : Gath (w15.alloc (.cells #[.int .i64 h', .slice aw l'.length cw] 36)) B0 (.slice aw l'.length cw) l' := (HG15.out.mono (HSZ.out _ HB14.out)).alloc _
          have h3 := HAL2.out _ (.cells #[.int .i64 h', .slice aw l'.length cw] 36) HB15.out
          obtain ⟨vs, hvs⟩ : ∃ v, Value.slice aw l'.length cw = v := ⟨_, rfl⟩
          rw [hvs] at h1 h2 h3 ⊢
          generalize w15.alloc (.cells #[.int .i64 h', vs] 36) = W at *
          obtain ⟨c, hc⟩ : ∃ c, w15.heap.size = c := ⟨_, rfl⟩
          rw [hc] at h1 ⊢
          exact ⟨rfl, vs, c, rfl, h1, h2, h3⟩
        · refine NoPanic.normal ?_
          obtain ⟨h1, h2, h3⟩ := HQX.out
          obtain ⟨vs, hvs⟩ : ∃ v, Value.slice aw l'.length cw = v := ⟨_, rfl⟩
          rw [hvs] at h1 h2 h3 ⊢
          generalize ((w15.setCell ⟨w14.heap.size, 0, none⟩ (.int .i64 h')).setCell ⟨w14.heap.size, 1, none⟩ vs) = W at *
          obtain ⟨c, hc⟩ : ∃ c, w14.heap.size = c := ⟨_, rfl⟩
          rw [hc] at h1 ⊢
          exact ⟨rfl, vs, c, rfl, h1, h2, h3⟩
        · refine NoPanic.normal ?_
          obtain ⟨h1, h2, h3⟩ := HQX.out
          obtain ⟨vs, hvs⟩ : ∃ v, Value.slice aw l'.length cw = v := ⟨_, rfl⟩
          rw [hvs] at h1 h2 h3 ⊢
          generalize ((w15.setCell ⟨w7.heap.size, 0, none⟩ (.int .i64 h')).setCell ⟨w7.heap.size, 1, none⟩ vs) = W at *
          obtain ⟨c, hc⟩ : ∃ c, w7.heap.size = c := ⟨_, rfl⟩
          rw [hc] at h1 ⊢
          exact ⟨rfl, vs, c, rfl, h1, h2, h3⟩
      rintro vs c W ⟨H1, H2, H3⟩
      clear HFN HFN2 HAD HPL HKP HSK c0 c1 c2 s0 s1 z0 z1 t0 t1 HZT HNW HAL2 HN0 HBD HBA
      have HAW := Lib.hid (HAA.out.below (by rw [HBZ.out]; exact H3.out))
      obtain ⟨aw, cw, rfl⟩ := H2.out.shape
      obtain ⟨n9, hn9⟩ : ∃ n9, l'.length = n9 := ⟨_, rfl⟩
      rw [hn9] at H1 H2
      have r0 := H1.out.c0
      have r1 := H1.out.c1
      clear hn9
      by_cases heq : nl = nm
      · obtain ⟨rfl, rfl, rfl⟩ := HOK.out heq
        obtain ⟨X, hX⟩ := HPA.out
        have hXW := hX.below (by rw [HBZ.out]; exact H3.out)
        have hqB : q < B0 := by rw [← HBZ.out]; exact hX.lt
        have HX8 : Hid (∃ X, PutS ((W.setCell ⟨q, j * 2, none⟩ (.int .i64 h')).setCell ⟨q, j * 2 + 1, none⟩ (.slice aw n9 cw)) g q N X (toL (apL p L Z) (j + 1))) :=
          ⟨_, (hXW.put hlt h' (H2.out.reads (by have := HLL'.out; omega)) (fun b hb => by have h1 : B0 ≤ b := (World.ownsRow.lt H2.out b hb).1; have := hX.lo; omega)).congr fun i _ => toL_step HAG.out i⟩
        have HB8 : Hid (ApW w ((W.setCell ⟨q, j * 2, none⟩ (.int .i64 h')).setCell ⟨q, j * 2 + 1, none⟩ (.slice aw n9 cw)) g ga p k n (.slice (some ⟨b2, o2, none⟩) M cz)) := HAW.out.keep HAQ.out
        have HE8 := Lib.hid (HEJ.out heq)
        obtain ⟨x0, x1, f0, f1⟩ := hXW.row j hlt
        have x2 : (W.setCell ⟨q, j * 2, none⟩ (.int .i64 h')).cell? ⟨q, j * 2 + 1, none⟩ = some (X j).2 := by rw [World.cell?_setCell_other _ _ _ _ (by simp)]; exact x1
        clear hX hXW hqB HPA HAW HAA H1 H2 H3
        go_wp2_with fail
        go_roundw
        case rel => exact ⟨j + 1, by omega, by go_num, HE8, HX8, HB8⟩
        case measure => simp [intOf]; omega
      · obtain rfl := HNO.out heq
        have HF := Lib.hid (HNE.out heq)
        go_wp2_with fail
        go_ret2
        exact ⟨.slice none 0 0, by rw [HF.out.1]; rfl, by rw [HF.out.2]; exact sharesN_nil _ _, HAW.out.be, fun h => by rw [HF.out.1] at h; omega⟩
    · obtain rfl : j = N := by omega
      have hle : ∀ s ∈ L, s.2.length = (pick Z s.1).length := fun s hs => by
        obtain ⟨t, ht, rfl⟩ := List.mem_iff_getElem.1 hs
        have := HE.out t (by rw [← HN.out]; exact ht)
        rwa [getS_at ht] at this
      have HF := Lib.hid (apE_ok HALL.out HHAS.out hle)
      have HS : Hid (SharesN wr g (.slice (some ⟨q, 0, none⟩) j j) (apL p L Z)) := by
        obtain ⟨X, hX⟩ := HP.out
        exact hX.shares (by rw [apL_len]; exact HN.out) hL1 fun i hi => toL_all hi
      have HX : Hid (∃ q' X, Value.slice (some ⟨q, 0, none⟩) j j = .slice (some ⟨q', 0, none⟩) j j ∧ g ≤ q' ∧ PutS wr g q' j X (fun i => (apL p L Z).getD i (0, []))) := by
        obtain ⟨X, hX⟩ := HP.out
        exact ⟨q, X, rfl, hX.lo, hX.congr fun i hi => (toL_all hi).symm⟩
      clear hle
      go_wp2_with fail
      go_ret2
      exact ⟨.slice (some ⟨q, 0, none⟩) j j, by rw [HF.out.1]; rfl, by rw [HF.out.2]; exact HS.out, HA.out.be, fun _ => HX.out⟩
theorem refresh_apply (p k n : Int) (v z : Value) (L Z : List Shr) (w : World) (hw : Wheel w) (hp : (Lit.int .i64 p).wf = true) (hl : Shares w v L) (hz : Shares w z Z) :
    Calls Tryd.prog 23 #[planV p k n, v, z] w fun e w' => ∃ v', e = .returned (.tuple #[v', .int .i64 (apE p k n L Z)]) ∧ SharesN w' w.heap.size v' (apR p k n L Z) ∧ Below w.heap.size w w' :=
  (refresh_apply_put p k n v z L Z w hw hp hl hz).mono fun e w' ⟨v', h1, h2, h3, _⟩ => ⟨v', h1, h2, h3⟩
end Go.Proofs.YtgdclefnfjbbdaaDoor
