
/- The document's Apply. -/
import Derived.Test.YtgdclefnfjbbdaaDoorJRc
import Derived.Deep.RegionLaw
namespace Go.Proofs.YtgdclefnfjbbdaaDoor
open Go.RowKit Go.Sort
open Num
set_option linter.unusedVariables false

/-- The plan's box, and what was there before. -/
structure AuW (w0 W : World) (g : Nat) (p k n : Int) : Prop where
  pl : PlanAt W g p k n
  be : Below g w0 W
theorem AuW.below {w0 W W' : World} {g : Nat} {p k n : Int} (h : AuW w0 W g p k n) (b : Below W.heap.size W W') : AuW w0 W' g p k n :=
  ⟨h.pl.below h.pl.lt b, h.be.trans (b.mono (Nat.le_of_lt h.pl.lt))⟩
theorem AuW.grown {w0 W W' : World} {g : Nat} {p k n : Int} {row : Option Nat} (h : AuW w0 W g p k n) (hg : W.grownBy W' row) (hr : ∀ q, row = some q → g + 1 ≤ q) : AuW w0 W' g p k n := by
  have hl := h.pl.lt
  obtain ⟨t, fr, hp⟩ := h.pl
  refine ⟨⟨t, fr, by rw [hg.block g hl (fun e => by have := hr g e.symm; omega)]; exact hp⟩, h.be.grown hg (Nat.le_of_lt hl) fun q hq => by have := hr q hq; omega⟩
theorem hasB_take_succ {Z : List Shr} {j : Nat} {h hz : Int} (hj : j < Z.length) (e : (Z.getD j (0, [])).1 = hz) : hasB (Z.take (j + 1)) h = (hasB (Z.take j) h || hz == h) := by
  unfold hasB
  rw [List.take_add_one, List.any_append, List.getElem?_eq_getElem hj, ← e, getS_at hj]
  simp
theorem hasB_take_no {p n : Int} {Z : List Shr} {j : Nat} {h : Int} (hg : goodB p n Z = true) (hj : j < Z.length) (e : (Z.getD j (0, [])).1 = h) : hasB (Z.take j) h = false := by
  refine hasB_none fun i hi he => ?_
  rw [List.length_take] at hi
  have h1 := (goodB_parts hg j hj).2.2.2 i (by omega)
  rw [getS_at (by rw [List.length_take]; omega), List.getElem_take] at he
  rw [getS_at (by omega), e] at h1
  exact h1 he
theorem pick_good {p n : Int} {Z : List Shr} {j : Nat} {h : Int} (hg : goodB p n Z = true) (hj : j < Z.length) (e : (Z.getD j (0, [])).1 = h) : pick Z h = (Z.getD j (0, [])).2 ∧ hasB Z h = true := by
  have hin : Z.getD j (0, []) ∈ Z := by rw [getS_at hj]; exact List.getElem_mem _
  have hone : (Z.map (·.1)).Nodup := by
    rw [List.nodup_iff_pairwise_ne, List.pairwise_iff_getElem]
    intro a b ha hb hab e
    rw [List.length_map] at ha hb
    rw [List.getElem_map, List.getElem_map] at e
    have := (goodB_parts hg b hb).2.2.2 a hab
    rw [getS_at ha, getS_at hb] at this
    exact this e
  exact ⟨by rw [← e]; exact pick_at hone hin, by rw [← e]; exact hasB_at hin⟩
theorem Els.of_good {p k n : Int} {L : List Shr} (hg : goodB p n L = true) {j : Nat} (hj : j < L.length) : Els p (L.getD j (0, [])).2 := by
  have := (goodB_parts hg j hj).1
  unfold stB at this
  simp only [Bool.and_eq_true, decide_eq_true_eq] at this
  exact els_of_elB this.2
set_option maxRecDepth 100000 in
set_option maxHeartbeats 16000000 in
theorem ref8_apply (p k n : Int) (v z : Value) (L Z : List Shr) (w : World) (hp : (Lit.int .i64 p).wf = true) (hl : Shares w v L) (hz : Shares w z Z) :
    Calls Tryd.prog 24 #[planV p k n, v, z] w fun e w' => ∃ v', e = .returned (.tuple #[v', .int .i64 (apE p k n L Z)]) ∧ SharesN w' w.heap.size v' (apR p k n L Z) ∧ Below w.heap.size w w' := by
  obtain ⟨al, cl, rfl, hL1, _⟩ := id hl
  obtain ⟨az, cz, rfl, hZ1, _⟩ := id hz
  obtain ⟨N, hN⟩ : ∃ N, L.length = N := ⟨_, rfl⟩
  obtain ⟨M, hM⟩ : ∃ M, Z.length = M := ⟨_, rfl⟩
  rw [hN] at hl hL1 ⊢
  rw [hM] at hz hZ1 ⊢
  obtain ⟨g, hg⟩ : ∃ g, w.heap.size = g := ⟨_, rfl⟩
  obtain ⟨w1, hw1⟩ : ∃ w1, w.alloc (.cells #[.int .i64 p, .int .i64 k, .int .i64 n] 30) = w1 := ⟨_, rfl⟩
  have hb1 : Below g w w1 := by rw [← hw1, ← hg]; exact (Below.refl _ _).alloc (Nat.le_refl _) _
  have hP1 : PlanAt w1 g p k n := by rw [← hw1, ← hg]; exact planAt_new w p k n _
  have HA1 : Hid (AuW w w1 g p k n) := ⟨hP1, hb1⟩
  have HV := Lib.hid (ref6_valid p k n w1 hp)
  have HLW : Hid (∀ W, Below g w W → Shares W (.slice al N cl) L) := fun W b => hl.below (Nat.le_of_eq hg) b
  have HZW : Hid (∀ W, Below g w W → Shares W (.slice az M cz) Z) := fun W b => hz.below (Nat.le_of_eq hg) b
  have HGO := Lib.hid (fun W v L (h : Shares W v L) => ref6_good p k n v L W hp h)
  unfold planV at HV HGO ⊢
  have HN := Lib.hid hN
  have HM := Lib.hid hM
  have c0 := hP1.c0
  have c1 := hP1.c1
  have c2 := hP1.c2
  rw [hg]
  clear hl hz hN hM hb1 hP1 hp
  have HNO1 : Hid (¬ (planB p k n = true ∧ goodB p n L = true ∧ goodB p n Z = true) → apE p k n L Z = 1 ∧ apR p k n L Z = []) := fun h => apE_no1 h
  cases hpl : planB p k n with
  | false =>
    rw [hpl] at HV
    have HE := Lib.hid (HNO1.out fun h => by rw [h.1] at hpl; cases hpl)
    clear hpl
    go_enter Tryd.func24, Tryd.ntmps24
    go_wp2_with fail
    refine HV.out.mono ?_
    rintro e w2 ⟨rfl, hb⟩
    have HA2 := Lib.hid (HA1.out.below hb)
    clear hb c0 c1 c2
    go_wp2
    go_ret2
    exact ⟨.slice none 0 0, by rw [HE.out.1]; rfl, by rw [HE.out.2]; exact sharesN_nil _ _, HA2.out.be⟩
  | true =>
  rw [hpl] at HV
  cases hgL : goodB p n L with
  | false =>
    have HE := Lib.hid (HNO1.out fun h => by rw [h.2.1] at hgL; cases hgL)
    have HFF := Lib.hid hgL
    clear hpl hgL
    go_enter Tryd.func24, Tryd.ntmps24
    go_wp2_with fail
    refine HV.out.mono ?_
    rintro e w2 ⟨rfl, hb⟩
    have HA2 := Lib.hid (HA1.out.below hb)
    have HG2 := Lib.hid (HGO.out w2 (.slice al N cl) L (HLW.out w2 HA2.out.be))
    rw [HFF.out] at HG2
    have d0 := HA2.out.pl.c0
    have d1 := HA2.out.pl.c1
    have d2 := HA2.out.pl.c2
    clear hb c0 c1 c2
    go_wp2_with fail
    refine HG2.out.mono ?_
    rintro e w3 ⟨rfl, hb⟩
    have HA3 := Lib.hid (HA2.out.below hb)
    clear hb d0 d1 d2
    go_wp2
    go_ret2
    exact ⟨.slice none 0 0, by rw [HE.out.1]; rfl, by rw [HE.out.2]; exact sharesN_nil _ _, HA3.out.be⟩
  | true =>
  have HGL := Lib.hid hgL
  have HPL := Lib.hid hpl
  clear hgL hpl
  cases hgZ : goodB p n Z with
  | false =>
    have HE := Lib.hid (HNO1.out fun h => by rw [h.2.2] at hgZ; cases hgZ)
    have HFF := Lib.hid hgZ
    clear hgZ
    go_enter Tryd.func24, Tryd.ntmps24
    go_wp2_with fail
    refine HV.out.mono ?_
    rintro e w2 ⟨rfl, hb⟩
    have HA2 := Lib.hid (HA1.out.below hb)
    have HG2 := Lib.hid (HGO.out w2 (.slice al N cl) L (HLW.out w2 HA2.out.be))
    rw [HGL.out] at HG2
    have d0 := HA2.out.pl.c0
    have d1 := HA2.out.pl.c1
    have d2 := HA2.out.pl.c2
    clear hb c0 c1 c2
    go_wp2_with fail
    refine HG2.out.mono ?_
    rintro e w3 ⟨rfl, hb⟩
    have HA3 := Lib.hid (HA2.out.below hb)
    have HG3 := Lib.hid (HGO.out w3 (.slice az M cz) Z (HZW.out w3 HA3.out.be))
    rw [HFF.out] at HG3
    clear hb d0 d1 d2
    have d0 := HA3.out.pl.c0
    have d1 := HA3.out.pl.c1
    have d2 := HA3.out.pl.c2
    go_wp2_with fail
    refine HG3.out.mono ?_
    rintro e w4 ⟨rfl, hb⟩
    have HA4 := Lib.hid (HA3.out.below hb)
    clear hb d0 d1 d2
    go_wp2
    go_ret2
    exact ⟨.slice none 0 0, by rw [HE.out.1]; rfl, by rw [HE.out.2]; exact sharesN_nil _ _, HA4.out.be⟩
  | true =>
  have HGZ := Lib.hid hgZ
  have HALL : Hid (planB p k n = true ∧ goodB p n L = true ∧ goodB p n Z = true) := ⟨HPL.out, HGL.out, hgZ⟩
  obtain ⟨hprm, hp2, _⟩ := planB_parts HPL.out
  have hp1 : 1 ≤ p := by have := hprm.1; omega
  have HPR := Lib.hid hprm
  clear hgZ HNO1 hprm
  go_enter Tryd.func24, Tryd.ntmps24
  go_wp2_with fail
  refine HV.out.mono ?_
  rintro e w2 ⟨rfl, hb⟩
  have HA2 := Lib.hid (HA1.out.below hb)
  have HG2 := Lib.hid (HGO.out w2 (.slice al N cl) L (HLW.out w2 HA2.out.be))
  rw [HGL.out] at HG2
  have d0 := HA2.out.pl.c0
  have d1 := HA2.out.pl.c1
  have d2 := HA2.out.pl.c2
  clear hb c0 c1 c2
  go_wp2_with fail
  refine HG2.out.mono ?_
  rintro e w3 ⟨rfl, hb⟩
  have HA3 := Lib.hid (HA2.out.below hb)
  have HG3 := Lib.hid (HGO.out w3 (.slice az M cz) Z (HZW.out w3 HA3.out.be))
  rw [HGZ.out] at HG3
  clear hb d0 d1 d2
  have d0 := HA3.out.pl.c0
  have d1 := HA3.out.pl.c1
  have d2 := HA3.out.pl.c2
  go_wp2_with fail
  refine HG3.out.mono ?_
  rintro e w4 ⟨rfl, hb⟩
  have HA4 := Lib.hid (HA3.out.below hb)
  have HO4 : Hid (GathS w4 (g + 1) (.slice none 0 0) ((apL p L Z).take 0)) := by rw [List.take_zero]; exact gathS_nil _ _
  clear hb d0 d1 d2 HA3 HA2 HA1 HG2 HG3 HGO HV
  go_wp2_with fail
  go_loopw [8, 10, 11, 13, 31, 37] (fun u _ _ _ i _ wr => ∃ j : Nat, j ≤ N ∧ i = .int .i64 j ∧ Hid (∀ t, t < j → hasB Z (L.getD t (0, [])).1 = true) ∧ Hid (GathS wr (g + 1) u ((apL p L Z).take j)) ∧ Hid (AuW w wr g p k n)) (fun _ _ _ _ i _ _ => N - (intOf i).toNat)
  case atStart => exact ⟨0, Nat.zero_le _, rfl, fun t ht => by omega, HO4, HA4⟩
  case round =>
    obtain ⟨j, hj, rfl, HX, HO, HA⟩ := hrel
    clear HO4 HA4
    obtain ⟨wo, hwo⟩ : ∃ wo, wo = wr := ⟨_, rfl⟩
    subst hwo
    by_cases hlt : j < N
    · obtain ⟨b1, o1, v1, rfl, s0, s1, hi1⟩ := (HLW.out wo HA.out.be).at hlt
      have hjl : j < L.length := by rw [HN.out]; exact hlt
      have HAG := Lib.hid (apL_get p (L := L) (Z := Z) hjl)
      have hll := (goodB_parts HGL.out j hjl).2.2.1
      have hel := Els.of_good (k := k) HGL.out hjl
      have HXN : Hid (hasB Z (L.getD j (0, [])).1 = true → ∀ t, t < j + 1 → hasB Z (L.getD t (0, [])).1 = true) := fun e t ht => by
        by_cases e2 : t = j
        · subst e2; exact e
        · exact HX.out t (by omega)
      have HXE : Hid (hasB Z (L.getD j (0, [])).1 = false → apE p k n L Z = 5 ∧ apR p k n L Z = []) := fun e => apE_no5 HALL.out fun h => by
        have := h (L.getD j (0, [])) (by rw [getS_at hjl]; exact List.getElem_mem _)
        rw [e] at this; cases this
      obtain ⟨⟨h, l⟩, hsh⟩ : ∃ x, L.getD j (0, []) = x := ⟨_, rfl⟩
      rw [hsh] at s0 hi1 hll hel HAG HXN HXE
      simp only at s0 hi1 hll hel
      obtain ⟨a1, d1, rfl⟩ := hi1.shape
      obtain ⟨nl, hnl⟩ : ∃ nl, l.length = nl := ⟨_, rfl⟩
      rw [hnl] at s1 hi1 hll
      obtain ⟨gs, hgs⟩ : ∃ gs, wo.heap.size = gs := ⟨_, rfl⟩
      have hal : Below wo.heap.size wo (wo.alloc (.cells #[.int .i64 h, .slice a1 nl d1] 36)) := (Below.refl _ _).alloc (Nat.le_refl _) _
      have hsa := shAt_new wo h (.slice a1 nl d1) 36
      rw [hgs] at hsa
      have HSA := Lib.hid hsa
      have HAA := Lib.hid (HA.out.below hal)
      have HOA : Hid (GathS (wo.alloc (.cells #[.int .i64 h, .slice a1 nl d1] 36)) (g + 1) u8 ((apL p L Z).take j)) := HO.out.alloc _
      have HUB : Hid (∀ q, u8.ownBlock = some q → g + 1 ≤ q ∧ q < gs) := by rw [← hgs]; exact HO.out.block
      have HI1 : Hid (∀ W, Below wo.heap.size wo W → Ints W (.slice a1 nl d1) l) := fun W b => hi1.below (Nat.le_refl _) b
      have HBA : Hid (Below wo.heap.size wo (wo.alloc (.cells #[.int .i64 h, .slice a1 nl d1] 36))) := hal
      have HAJ : Hid ((apL p L Z).length = N) := by show _ = _; rw [apL_len]; exact HN.out
      have HEL := Lib.hid hel
      have HLL := Lib.hid hll
      have HNL := Lib.hid hnl
      have HGS := Lib.hid hgs
      have HGG1 : Hid (g < gs) := by show _ < _; rw [← hgs]; exact HA.out.pl.lt
      have HY0 : Hid ((false = hasB (Z.take 0) h)) := rfl
      clear hal hsa hi1 hsh hnl hgs hel hll HO
      go_wp2_with fail
      rw [HGS.out]
      clear s0 s1
      rw [HGS.out] at HI1 HBA
      generalize wo.alloc (.cells #[.int .i64 h, .slice a1 nl d1] 36) = w6 at *
      obtain ⟨V0, hV0⟩ : ∃ V0, V0 = u8 := ⟨_, rfl⟩
      subst hV0
      go_loopw [8, 11, 13, 37] (fun u f _ i wq => ∃ (t : Nat) (y : Bool), t ≤ M ∧ i = .int .i64 t ∧ f = .bool y ∧ Hid (y = hasB (Z.take t) h) ∧ Hid ((y = false ∧ u = V0 ∧ GathS wq (g + 1) V0 ((apL p L Z).take j) ∧ Below gs wo wq) ∨ (y = true ∧ GathS wq (g + 1) u ((apL p L Z).take (j + 1)))) ∧ Hid (AuW w wq g p k n) ∧ Hid (ShAt wq gs h (.slice a1 nl d1))) (fun _ _ _ i _ => M - (intOf i).toNat)
      case atStart => exact ⟨0, false, Nat.zero_le _, rfl, rfl, HY0, .inl ⟨rfl, rfl, HOA.out, HBA.out⟩, HAA, HSA⟩
      case round =>
        obtain ⟨t, y, ht, rfl, rfl, HY, HC, HQ, HS⟩ := hrel
        clear HOA HAA HSA HBA HY0
        by_cases hlt2 : t < M
        · obtain ⟨b2, o2, v2, hazq, z0, z1, hi2⟩ := (HZW.out wr HQ.out.be).at hlt2
          subst hazq
          have htl : t < Z.length := by rw [HM.out]; exact hlt2
          have hTS := hasB_take_succ (h := h) htl rfl
          have hml := (goodB_parts HGZ.out t htl).2.2.1
          have hem := Els.of_good (k := k) HGZ.out htl
          have hno : (Z.getD t (0, [])).1 = h → hasB (Z.take t) h = false := fun e => hasB_take_no HGZ.out htl e
          have hpk : (Z.getD t (0, [])).1 = h → pick Z h = (Z.getD t (0, [])).2 := fun e => (pick_good HGZ.out htl e).1
          obtain ⟨⟨hz, m⟩, hzs⟩ : ∃ x, Z.getD t (0, []) = x := ⟨_, rfl⟩
          rw [hzs] at z0 hi2 hTS hml hem hno hpk
          simp only at z0 hi2 hTS hml hem hno hpk
          obtain ⟨a2, d2, rfl⟩ := hi2.shape
          obtain ⟨nm, hnm⟩ : ∃ nm, m.length = nm := ⟨_, rfl⟩
          rw [hnm] at z1 hi2 hml
          obtain ⟨gz, hgz⟩ : ∃ gz, wr.heap.size = gz := ⟨_, rfl⟩
          have hal : Below wr.heap.size wr (wr.alloc (.cells #[.int .i64 hz, .slice a2 nm d2] 36)) := (Below.refl _ _).alloc (Nat.le_refl _) _
          have hsz := shAt_new wr hz (.slice a2 nm d2) 36
          rw [hgz] at hsz
          have HSZ := Lib.hid hsz
          have HQA := Lib.hid (HQ.out.below hal)
          have hgsz : gs < wr.heap.size := HS.out.lt
          have HSA := Lib.hid (HS.out.below hal hgsz)
          have HZG : Hid (gs < gz) := by show _ < _; omega
          by_cases he : hz = h
          · subst he
            have hyf : y = false := by rw [HY.out]; exact hno rfl
            subst hyf
            obtain ⟨hu, hO, hBw⟩ : u8 = V0 ∧ GathS wr (g + 1) V0 ((apL p L Z).take j) ∧ Below gs wo wr := by
              rcases HC.out with ⟨_, h1, h2⟩ | ⟨h1, _⟩
              · exact ⟨h1, h2⟩
              · cases h1
            subst hu
            have HBA : Hid (Below gs wo (wr.alloc (.cells #[.int .i64 hz, .slice a2 nm d2] 36))) := hBw.trans (hal.mono (Nat.le_of_lt hgsz))
            have HOA : Hid (GathS (wr.alloc (.cells #[.int .i64 hz, .slice a2 nm d2] 36)) (g + 1) u8 ((apL p L Z).take j)) := hO.alloc _
            have HTK : Hid ((apL p L Z).take j ++ [(hz, linF p l m 1)] = (apL p L Z).take (j + 1)) := by
              have := take_snocS (L := apL p L Z) (k := j) (by rw [HAJ.out]; exact hlt)
              rw [HAG.out, hpk rfl] at this
              exact this
            have HYN : Hid (true = hasB (Z.take (t + 1)) hz) := by show _ = _; rw [hTS]; simp
            have HIM := Lib.hid (hi2.below (Nat.le_refl _) hal)
            have HEM := Lib.hid hem
            have HML := Lib.hid hml
            have HNM := Lib.hid hnm
            have HGZS := Lib.hid hgz
            have heq : (hz == hz) = true := by simp
            have HIL : Hid (Ints (wr.alloc (.cells #[.int .i64 hz, .slice a2 nm d2] 36)) (.slice a1 nl d1) l) := HI1.out _ HBA.out
            have s0 := HSA.out.c0
            have s1 := HSA.out.c1
            have y0 := HSZ.out.c0
            have y1 := HSZ.out.c1
            clear hal hsz hi2 hzs hTS hno hpk hgz hem hml hnm hO hBw HC HQ HS HY
            go_wp2_with fail
            rw [HGZS.out]
            clear z0 z1 heq
            generalize wr.alloc (.cells #[.int .i64 hz, .slice a2 nm d2] 36) = w7 at *
            obtain ⟨B0, hB0⟩ : ∃ B0, w7.heap.size = B0 := ⟨_, rfl⟩
            have HLI := Lib.hid (ref_linear_any p 1 (.slice a1 nl d1) (.slice a2 nm d2) l m w7.drew hp1 hp2 ⟨by omega, by have := HPR.out.1; omega⟩ HEL.out HEM.out HIL.out HIM.out (by rw [HNL.out]; have := HLL.out; omega) (by rw [HNM.out]; have := HML.out; omega))
            obtain ⟨X, hX⟩ : ∃ X, linF p l m 1 = X := ⟨_, rfl⟩
            have hXl : X.length ≤ 100000 := by rw [← hX, linF_len', HNL.out, HNM.out]; have := HLL.out; have := HML.out; omega
            rw [hX] at HLI HTK
            have HKP : Hid (∀ W, Below B0 w7 W → (W.cell? ⟨g, 0, none⟩ = some (.int .i64 p) ∧ W.cell? ⟨gs, 0, none⟩ = some (.int .i64 hz) ∧ W.cell? ⟨gs, 1, none⟩ = some (.slice a1 nl d1) ∧ W.cell? ⟨gz, 1, none⟩ = some (.slice a2 nm d2))) := fun W hb => by
              have hb' : Below w7.heap.size w7 W := by rw [hB0]; exact hb
              have h1 := HSA.out.below hb' HSA.out.lt
              exact ⟨(HQA.out.below hb').pl.c0, h1.c0, h1.c1, (HSZ.out.below hb' HSZ.out.lt).c1⟩
            have HTK1 : Hid (((apL p L Z).take j).length < 1000) := by show _ < _; rw [List.length_take, HAJ.out]; omega
            have HGB : Hid (g + 1 ≤ B0) := by show _ ≤ _; rw [← hB0]; exact HQA.out.pl.lt
            have HSB : Hid (gz < B0) := by show _ < _; rw [← hB0]; exact HSZ.out.lt
            have HAP : Hid (∀ (W : World) (v : Value), Below B0 w7 W → Gath W B0 v X → ∃ v' W', (Builtin.append_ #[23, 23] 23 #[u8, .slice (some ⟨W.heap.size, 0, none⟩) 1 1]).run Tryd.prog (W.alloc (.cells #[.int .i64 hz, v] 36)) = .ok v' W' ∧
                ((GathS W' (g + 1) v' ((apL p L Z).take (j + 1)) ∧ AuW w W' g p k n ∧ ShAt W' gs hz (.slice a1 nl d1)) ∧ (W'.cell? ⟨g, 0, none⟩ = some (.int .i64 p) ∧ W'.cell? ⟨gs, 0, none⟩ = some (.int .i64 hz) ∧ W'.cell? ⟨gs, 1, none⟩ = some (.slice a1 nl d1) ∧ W'.cell? ⟨gz, 1, none⟩ = some (.slice a2 nm d2)))) := fun W v hb hg => by
              have hb' : Below w7.heap.size w7 W := by rw [hB0]; exact hb
              have hsz0 : B0 ≤ W.heap.size := by rw [← hB0]; exact hb'.size
              have hal2 : Below W.heap.size W (W.alloc (.cells #[.int .i64 hz, v] 36)) := (Below.refl _ _).alloc (Nat.le_refl _) _
              have hga : GathS (W.alloc (.cells #[.int .i64 hz, v] 36)) (g + 1) u8 ((apL p L Z).take j) := (HOA.out.below hb' (Nat.le_refl _)).alloc _
              have hgr : World.grownBy W (W.alloc (.cells #[.int .i64 hz, v] 36)) none := World.grownBy_alloc _ _ none
              obtain ⟨v', W', e1, e2, e3, _⟩ := run_appendS hga W.heap.size hz v X (shAt_new W hz v 36).c0 (shAt_new W hz v 36).c1 ((hg.slc (by omega)).grown hgr (fun q _ e => by cases e)) (fun q hq => by
                have h1 := World.ownsRow.lt hg q hq
                have h2 := HGB.out
                refine ⟨by omega, by simp; omega, fun e => ?_⟩
                have h3 := (HUB.out q e).2
                have h4 := HZG.out
                have h5 := HSB.out
                omega) HTK1.out (by have h2 := HGB.out; simp; omega) 23
              rw [HTK.out] at e2
              have k1 := ((HQA.out.below hb').below hal2).grown e3 (fun q hq => (HUB.out q hq).1)
              have h8 := (HSA.out.below hb' HSA.out.lt)
              have k2 := (h8.below hal2 h8.lt).grown e3 (fun e => by have := (HUB.out gs e).2; omega)
              have h9 := (HSZ.out.below hb' HSZ.out.lt)
              have k3 := (h9.below hal2 h9.lt).grown e3 (fun e => by have h3 := (HUB.out gz e).2; have h4 := HZG.out; omega)
              exact ⟨v', W', e1, ⟨e2, k1, k2⟩, k1.pl.c0, k2.c0, k2.c1, k3.c1⟩
            obtain ⟨RX, HX1, HX2⟩ : ∃ RX : Value → World → Prop, Hid (∀ (W : World) (v : Value), Below B0 w7 W → Gath W B0 v X → ∃ v' W', (Builtin.append_ #[23, 23] 23 #[u8, .slice (some ⟨W.heap.size, 0, none⟩) 1 1]).run Tryd.prog (W.alloc (.cells #[.int .i64 hz, v] 36)) = .ok v' W' ∧ RX v' W') ∧ Hid (∀ v' W', RX v' W' → ((GathS W' (g + 1) v' ((apL p L Z).take (j + 1)) ∧ AuW w W' g p k n ∧ ShAt W' gs hz (.slice a1 nl d1)) ∧ (W'.cell? ⟨g, 0, none⟩ = some (.int .i64 p) ∧ W'.cell? ⟨gs, 0, none⟩ = some (.int .i64 hz) ∧ W'.cell? ⟨gs, 1, none⟩ = some (.slice a1 nl d1) ∧ W'.cell? ⟨gz, 1, none⟩ = some (.slice a2 nm d2)))) := ⟨fun v' W' => ((GathS W' (g + 1) v' ((apL p L Z).take (j + 1)) ∧ AuW w W' g p k n ∧ ShAt W' gs hz (.slice a1 nl d1)) ∧ (W'.cell? ⟨g, 0, none⟩ = some (.int .i64 p) ∧ W'.cell? ⟨gs, 0, none⟩ = some (.int .i64 hz) ∧ W'.cell? ⟨gs, 1, none⟩ = some (.slice a1 nl d1) ∧ W'.cell? ⟨gz, 1, none⟩ = some (.slice a2 nm d2))), HAP.out, fun _ _ h => h⟩
            have HBD : Hid (Below B0 w7 w7.drew) := (Below.refl _ _).drew
            have HSK := HKP.out w7.drew HBD.out
            have HBLE : Hid (B0 ≤ w7.drew.heap.size) := Nat.le_of_eq hB0.symm
            clear HAP s0 s1 y0 y1 hB0 hX
            apply region_oneV3 (fun vn W => Hid (GathS W (g + 1) vn ((apL p L Z).take (j + 1))) ∧ Hid (AuW w W g p k n) ∧ Hid (ShAt W gs hz (.slice a1 nl d1)))
            case hr =>
              refine wp_region_noPanic ?_
              go_region_held3 (fun W' => W'.cell? ⟨g, 0, none⟩ = some (.int .i64 p) ∧ W'.cell? ⟨gs, 0, none⟩ = some (.int .i64 hz) ∧ W'.cell? ⟨gs, 1, none⟩ = some (.slice a1 nl d1) ∧ W'.cell? ⟨gz, 1, none⟩ = some (.slice a2 nm d2)) (first | go_keep | exact HSK)
                (first
                  | (go_at_call 34; refine HLI.out.mono ?_; rintro e w8 ⟨v8, rfl, hg8, hb8⟩; have HB8 := Lib.hid (HBD.out.trans (hb8.mono HBLE.out)); have HSK := HKP.out w8 HB8.out; have HG8 := Lib.hid (hg8.mono HBLE.out); obtain ⟨av, cv, rfl⟩ := hg8.shape; clear hg8 hb8)
                  | (refine step_appendV rfl _ _ _ _ rfl u8 (.slice (some ⟨w8.heap.size, 0, none⟩) 1 1) rfl rfl RX ?_ ?_; (with_reducible exact HX1.out w8 _ HB8.out HG8.out); rintro v9 w9 hr; have hr2 := HX2.out _ _ hr; have HSK := hr2.2; have HR9 := Lib.hid hr2.1; clear hr hr2))
              all_goals
                refine NoPanic.normal ?_
                obtain ⟨vq, hvq⟩ : ∃ vq, Value.slice av X.length cv = vq := ⟨_, rfl⟩
                obtain ⟨nq, hnq⟩ : ∃ nq, w8.heap.size = nq := ⟨_, rfl⟩
                rw [hvq, hnq]
                exact ⟨rfl, v9, vq, nq, rfl, HR9.out.1, HR9.out.2.1, HR9.out.2.2⟩
            rintro vn vx nx W ⟨H1, H2, H3⟩
            clear HX1 HX2 HLI
            go_wp2
            go_roundw
            case rel => exact ⟨t + 1, true, by omega, by go_num, rfl, HYN, .inr ⟨rfl, H1.out⟩, H2, H3⟩
            case measure => simp [intOf]; omega
          · have hne : (hz == h) = false := by simpa using he
            have HYN : Hid (y = hasB (Z.take (t + 1)) h) := by show _ = _; rw [hTS, hne, Bool.or_false]; exact HY.out
            have HCN : Hid ((y = false ∧ u8 = V0 ∧ GathS (wr.alloc (.cells #[.int .i64 hz, .slice a2 nm d2] 36)) (g + 1) V0 ((apL p L Z).take j) ∧ Below gs wo (wr.alloc (.cells #[.int .i64 hz, .slice a2 nm d2] 36))) ∨ (y = true ∧ GathS (wr.alloc (.cells #[.int .i64 hz, .slice a2 nm d2] 36)) (g + 1) u8 ((apL p L Z).take (j + 1)))) := by
              rcases HC.out with ⟨h1, h2, h3, h4⟩ | ⟨h1, h2⟩
              · exact .inl ⟨h1, h2, h3.alloc _, h4.trans (hal.mono (Nat.le_of_lt hgsz))⟩
              · exact .inr ⟨h1, h2.alloc _⟩
            have s0 := HSA.out.c0
            have y0 := HSZ.out.c0
            have HGZS := Lib.hid hgz
            clear hal hsz hi2 hzs hTS hno hpk hgz hem hml hnm HC HQ HS HY he
            go_wp2_with fail
            clear s0 y0 z0 z1
            go_roundw
            case rel => exact ⟨t + 1, y, by omega, by go_num, rfl, HYN, HCN, HQA, HSA⟩
            case measure => simp [intOf]; omega
        · obtain rfl : t = M := by omega
          have htk : Z.take t = Z := List.take_of_length_le (by rw [HM.out]; omega)
          have hyy : y = hasB Z h := by rw [HY.out, htk]
          cases y with
          | true =>
            have HX9 := Lib.hid (HXN.out hyy.symm)
            have HO9 : Hid (GathS wr (g + 1) u8 ((apL p L Z).take (j + 1))) := by
              rcases HC.out with ⟨h1, _⟩ | ⟨_, h2⟩
              · cases h1
              · exact h2
            clear htk hyy HY HC HS HI1 HXN HXE
            go_wp2
            go_roundw
            case rel => exact ⟨j + 1, by omega, by go_num, HX9, HO9, HQ⟩
            case measure => simp [intOf]; omega
          | false =>
            have HE9 := Lib.hid (HXE.out hyy.symm)
            clear htk hyy HY HC HS HI1 HXN HXE
            go_wp2
            go_ret2
            exact ⟨.slice none 0 0, by rw [HE9.out.1]; rfl, by rw [HE9.out.2]; exact sharesN_nil _ _, HQ.out.be⟩
    · obtain rfl : j = N := by omega
      have hhas : ∀ s ∈ L, hasB Z s.1 = true := fun s hs => by
        obtain ⟨i, hi, rfl⟩ := List.mem_iff_getElem.1 hs
        have := HX.out i (by rw [← HN.out]; exact hi)
        rwa [getS_at hi] at this
      have HOF : Hid (SharesN wo g u8 (apL p L Z)) := by
        have h := HO.out
        rw [List.take_of_length_le (by rw [apL_len, HN.out]; omega)] at h
        exact (h.sharesN (by rw [apL_len, HN.out]; exact hL1)).mono (Nat.le_succ g)
      obtain ⟨au, cu, rfl, _⟩ := HOF.out.shape
      rw [apL_len, HN.out] at HOF ⊢
      by_cases hN0 : j = 0
      · subst hN0
        have HE9 := Lib.hid (apE_ok HALL.out hhas (fun s hs => by have := List.length_eq_zero_iff.1 HN.out; rw [this] at hs; cases hs))
        clear hhas HO
        go_wp2_with fail
        go_quiet (fail)
        go_wp2
        go_ret2
        exact ⟨_, by rw [HE9.out.1]; rfl, by rw [HE9.out.2]; exact HOF.out, ⟨HA.out.be.os, HA.out.be.tape, HA.out.be.output, HA.out.be.size, HA.out.be.block⟩⟩
      · have hNl : 0 < L.length := by rw [HN.out]; omega
        have hpick : ∀ s ∈ L, s.2.length = (L.getD 0 (0, [])).2.length ∧ (pick Z s.1).length = (Z.getD 0 (0, [])).2.length := fun s hs => by
          have h0 := hhas s hs
          obtain ⟨i, hi, rfl⟩ := List.mem_iff_getElem.1 hs
          have h1 := (goodB_parts HGL.out i hi).2.1
          rw [getS_at hi] at h1
          refine ⟨h1, ?_⟩
          obtain ⟨z, hz, hze⟩ := List.any_eq_true.1 h0
          obtain ⟨q, hq, rfl⟩ := List.mem_iff_getElem.1 hz
          have hzq : (Z.getD q (0, [])).1 = L[i].1 := by rw [getS_at hq]; simpa using hze
          rw [(pick_good HGZ.out hq hzq).1]
          exact (goodB_parts HGZ.out q hq).2.1
        have hM0 : 0 < M := by
          have h0 := hhas L[0] (List.getElem_mem _)
          obtain ⟨z, hz, _⟩ := List.any_eq_true.1 h0
          have := List.length_pos_of_mem hz
          rw [HM.out] at this
          exact this
        obtain ⟨b1, o1, v1, hal1, s0, s1, hi1⟩ := (HLW.out wo HA.out.be).at (show 0 < j by omega)
        obtain ⟨b2, o2, v2, hal2, z0, z1, hi2⟩ := (HZW.out wo HA.out.be).at hM0
        subst hal1 hal2
        obtain ⟨nl, hnl⟩ : ∃ nl, (L.getD 0 (0, [])).2.length = nl := ⟨_, rfl⟩
        obtain ⟨nm, hnm⟩ : ∃ nm, (Z.getD 0 (0, [])).2.length = nm := ⟨_, rfl⟩
        obtain ⟨a1, d1, rfl⟩ := hi1.shape
        obtain ⟨a2, d2, rfl⟩ := hi2.shape
        rw [Nat.zero_mul, Nat.add_zero, hnl] at s1
        rw [Nat.zero_mul, Nat.add_zero, hnm] at z1
        rw [hnl, hnm] at hpick
        have hj0 : 0 < j := by omega
        have g1 : (0 : Int) < (j : Int) := by omega
        have g2 : (0 : Int) < (M : Int) := by omega
        have g3 : decide ((j : Int) > 0) = true := by simpa using hj0
        have g4 : decide ((M : Int) > 0) = true := by simpa using hM0
        have g5 : decide (0 < j) = true := by simpa using hj0
        have g6 : decide (0 < M) = true := by simpa using hM0
        by_cases hlen : nl = nm
        · have HE9 := Lib.hid (apE_ok HALL.out hhas (fun s hs => by have := hpick s hs; omega))
          subst hlen
          clear hhas HO hpick hi1 hi2 s0 z0 hnl hnm
          go_wp2_with fail
          go_quiet (fail)
          go_wp2
          go_ret2
          exact ⟨_, by rw [HE9.out.1]; rfl, by rw [HE9.out.2]; exact HOF.out, ⟨HA.out.be.os, HA.out.be.tape, HA.out.be.output, HA.out.be.size, HA.out.be.block⟩⟩
        · have HE9 := Lib.hid (apE_no2 HALL.out hhas (fun h => by have h1 := h L[0] (List.getElem_mem _); have := hpick L[0] (List.getElem_mem _); omega))
          have hne : ((nl : Int) != (nm : Int)) = true := by simp; omega
          clear hhas HO hpick hi1 hi2 s0 z0 hnl hnm hlen
          go_wp2_with fail
          go_quiet (fail)
          go_wp2
          go_ret2
          exact ⟨.slice none 0 0, by rw [HE9.out.1]; rfl, by rw [HE9.out.2]; exact sharesN_nil _ _, ⟨HA.out.be.os, HA.out.be.tape, HA.out.be.output, HA.out.be.size, HA.out.be.block⟩⟩
end Go.Proofs.YtgdclefnfjbbdaaDoor
