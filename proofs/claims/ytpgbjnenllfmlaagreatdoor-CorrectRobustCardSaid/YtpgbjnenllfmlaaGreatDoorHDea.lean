
/- Shares dealt: the document's Deal. -/
import Derived.Test.YtpgbjnenllfmlaaGreatDoorHShr
import Derived.Test.YtpgbjnenllfmlaaGreatDoorRfI
import Derived.Deep.RegionLaw
import Derived.Deep.RegionHeld3
import Derived.Deep.DeepCutAuto
/-! Shares dealt: the document's Deal. -/
namespace Go.Proofs.YtpgbjnenllfmlaaGreatDoor
open Go.RowKit
open Num
set_option linter.unusedVariables false

theorem planB_parts {p k n : Int} (h : planB p k n = true) : PrmI p ∧ p ≤ 1073741824 ∧ 1 ≤ k ∧ k ≤ n ∧ n ≤ 16 ∧ n < p := by
  unfold planB at h
  simp only [Bool.and_eq_true, decide_eq_true_eq] at h
  obtain ⟨⟨⟨⟨h1, h2⟩, h3⟩, h4⟩, h5⟩ := h
  have h6 : PrmI p ∧ p ≤ 1073741824 := by
    unfold vB at h1
    simpa using h1
  exact ⟨h6.1, h6.2, h2, h3, h4, h5⟩
theorem planAt_new (w : World) (p k n : Int) (t : TypeId) : PlanAt (w.alloc (.cells #[.int .i64 p, .int .i64 k, .int .i64 n] t)) w.heap.size p k n := ⟨t, (0, 0), heap_alloc_new w _⟩

/-- A share as it lies in memory. -/
def ShAt (w : World) (g : Nat) (h : Int) (v : Value) : Prop := ∃ t, w.heap[g]? = some (.cells #[.int .i64 h, v] t (0, 0))
theorem shAt_new (w : World) (h : Int) (v : Value) (t : TypeId) : ShAt (w.alloc (.cells #[.int .i64 h, v] t)) w.heap.size h v := ⟨t, heap_alloc_new w _⟩
theorem ShAt.lt {w : World} {g : Nat} {h : Int} {v : Value} (k : ShAt w g h v) : g < w.heap.size := by
  obtain ⟨t, k⟩ := k
  by_cases hz : g < w.heap.size
  · exact hz
  · rw [Array.getElem?_eq_none (by omega)] at k; cases k
theorem ShAt.c0 {w : World} {g : Nat} {h : Int} {v : Value} (k : ShAt w g h v) : w.cell? ⟨g, 0, none⟩ = some (.int .i64 h) := by
  obtain ⟨t, k⟩ := k
  simp [World.cell?, k]
theorem ShAt.c1 {w : World} {g : Nat} {h : Int} {v : Value} (k : ShAt w g h v) : w.cell? ⟨g, 1, none⟩ = some v := by
  obtain ⟨t, k⟩ := k
  simp [World.cell?, k]
theorem ShAt.fr {w : World} {g : Nat} {h : Int} {v : Value} (k : ShAt w g h v) (j : Nat) : w.frozen? ⟨g, j, none⟩ = false := by
  obtain ⟨t, k⟩ := k
  exact frozen_of_row w g j _ t k
theorem ShAt.grown {w w' : World} {g : Nat} {h : Int} {v : Value} {row : Option Nat} (k : ShAt w g h v) (hg : w.grownBy w' row) (hr : row ≠ some g) : ShAt w' g h v := by
  have hl := k.lt
  obtain ⟨t, k⟩ := k
  exact ⟨t, by rw [hg.block g hl (fun e => hr e.symm)]; exact k⟩
theorem ShAt.set {w : World} {g : Nat} {h : Int} {v : Value} (k : ShAt w g h v) (v' : Value) : ShAt (w.setCell ⟨g, 1, none⟩ v') g h v' := by
  obtain ⟨t, k⟩ := k
  exact ⟨t, by rw [heap_setCell_same w g 1 _ t v' k]; rfl⟩
/-- The values of the first m elements. -/
def valsTo (p : Int) (K : Nat) (s r : List Int) (h : Int) (m : Nat) : List Int := (List.range m).map fun i => E (polyL K s r i) h % p
theorem valsTo_len (p : Int) (K : Nat) (s r : List Int) (h : Int) (m : Nat) : (valsTo p K s r h m).length = m := by simp [valsTo]
theorem valsTo_succ (p : Int) (K : Nat) (s r : List Int) (h : Int) (m : Nat) : valsTo p K s r h (m + 1) = valsTo p K s r h m ++ [E (polyL K s r m) h % p] := by simp [valsTo, List.range_succ]
theorem polyL_els {p : Int} (hp : 1 ≤ p) {s r : List Int} (hs : Els p s) (hr : Els p r) (K m : Nat) : Els p (polyL K s r m) := fun x hx => by
  unfold polyL at hx
  rcases List.mem_cons.1 hx with rfl | h
  · exact els_getD hp hs m
  · exact hr x (List.mem_of_mem_drop (List.mem_of_mem_take h))
/-- A store elsewhere. -/
theorem gath_set_other {w : World} {B g : Nat} {v : Value} {zs : List Int} (h : Gath w B v zs) (hg : g < B) (j : Nat) (u : Value) : Gath (w.setCell ⟨g, j, none⟩ u) B v zs :=
  World.ownsRow.kept h (row := some g) ⟨rfl, rfl, rfl, by simp, fun k _ hk => Below.heap_setCell w ⟨g, j, none⟩ u k (fun e => hk (by rw [e]))⟩ (by
    cases e : v.ownBlock with
    | none => exact .inl rfl
    | some q =>
      refine .inr fun e2 => ?_
      have := (World.ownsRow.lt h q e).1
      simp at e2; omega)
/-- A part of a slice of integers. -/
theorem ints_mid {w : World} {b off n c : Nat} {r : List Int} (h : Ints w (.slice (some ⟨b, off, none⟩) n c) r) (hn : r.length = n) (A K c' : Nat) (hA : A + K ≤ n) : Ints w (.slice (some ⟨b, off + A, none⟩) K c') ((r.drop A).take K) := by
  obtain ⟨a, cc, he, hl, hc⟩ := h
  simp only [Value.slice.injEq] at he
  obtain ⟨rfl, _, _⟩ := he
  have hlen : ((r.drop A).take K).length = K := by rw [List.length_take, List.length_drop]; omega
  refine ⟨_, c', by rw [hlen], by omega, fun hne => ⟨b, off + A, rfl, fun i hi => ?_⟩⟩
  rw [hlen] at hi
  obtain ⟨b2, o2, e2, hcell⟩ := hc (fun e => by subst e; simp at hne)
  simp only [Option.some.injEq, Addr.mk.injEq, and_true] at e2
  obtain ⟨rfl, rfl⟩ := e2
  have h1 := hcell (A + i) (by omega)
  rw [Nat.add_assoc, h1]
  simp [List.getD, hi]
theorem ints_zero (w : World) (a : Option Addr) (c : Nat) : Ints w (.slice a 0 c) [] := ⟨a, c, rfl, by simp, fun h => absurd rfl h⟩
theorem ints_sub {w : World} {ad : Addr} {n c : Nat} {r : List Int} (h : Ints w (.slice (some ad) n c) r) (hn : r.length = n) (A K c' : Nat) (hA : A + K ≤ n) : Ints w (.slice (some (ad.add A)) K c') ((r.drop A).take K) := by
  rcases Nat.eq_zero_or_pos K with rfl | hK
  · rw [List.take_zero]; exact ints_zero _ _ _
  · obtain ⟨b, off, e, _⟩ := h.pos (k := 0) (by omega)
    simp only [Option.some.injEq] at e
    subst e
    have e2 : (⟨b, off, none⟩ : Addr).add A = ⟨b, off + A, none⟩ := by unfold Addr.add; split <;> simp_all
    rw [e2]
    exact ints_mid h hn A K c' hA
theorem ints_none {w : World} {n c : Nat} {r : List Int} (h : Ints w (.slice none n c) r) : r = [] := by
  obtain ⟨a, cc, he, hl, hc⟩ := h
  simp only [Value.slice.injEq] at he
  obtain ⟨rfl, _, _⟩ := he
  by_cases e : r = []
  · exact e
  · obtain ⟨_, _, h, _⟩ := hc e; cases h

set_option maxRecDepth 100000 in
set_option maxHeartbeats 8000000 in
theorem ref6_deal_ok (p k : Int) (K N : Nat) (sa : Option Addr) (S cs : Nat) (s r : List Int) (vr : Value) (w : World) (hp : (Lit.int .i64 p).wf = true) (hk : k - 1 = (K : Int)) (hpl : planB p k (N : Int) = true) (hs : Ints w (.slice sa S cs) s) (hsl : s.length = S) (hr : Slc w vr r)
    (hS : S ≤ 2048) (hes : elB p s = true) (her : elB p r = true) (hrl : r.length = S * K) :
    Calls Tryz.prog 23 #[planV p k (N : Int), .slice sa S cs, vr] w fun e w' => ∃ v, e = .returned (.tuple #[v, .int .i64 0]) ∧ GathS w' w.heap.size v (dealF p K N s r) ∧ Below w.heap.size w w' := by
  unfold planV
  obtain ⟨hprm, hp2, hk1, hkn, hn16, hnp⟩ := planB_parts hpl
  obtain ⟨ra, rc, rfl, hrc, hrc2, hri⟩ := hr
  have hri2 := hri
  obtain ⟨R, hR⟩ : ∃ R, r.length = R := ⟨_, rfl⟩
  rw [hR] at hrc hri hrl ⊢
  obtain ⟨g, hg⟩ : ∃ g, w.heap.size = g := ⟨_, rfl⟩
  obtain ⟨w1, hw1⟩ : ∃ w1, w.alloc (Obj.cells #[Value.int IntKind.i64 p, Value.int IntKind.i64 k, Value.int IntKind.i64 (N : Int)] 31) = w1 := ⟨_, rfl⟩
  have hb1 : Below g w w1 := by rw [← hw1, ← hg]; exact (Below.refl _ _).alloc (Nat.le_refl _) _
  have hp1 : PlanAt w1 g p k (N : Int) := by rw [← hw1, ← hg]; exact planAt_new _ _ _ _ _
  have hs1 : w1.heap.size = g + 1 := by rw [← hw1, ← hg]; simp
  have HV := Lib.hid (ref6_valid p k (N : Int) w1 hp)
  rw [hpl, hs1] at HV
  unfold planV at HV
  have HRR := Lib.hid hR
  have HSL2 := Lib.hid hsl
  have hpp1 : 1 ≤ p := by have := hprm.1; omega
  have HES := Lib.hid (els_of_elB hes)
  have HER := Lib.hid (els_of_elB her)
  have hpp2 := hp2
  have HNP := Lib.hid hnp
  have HHP := Lib.hid hp
  have HPR := Lib.hid hprm
  have d0 := hp1.c0
  have d1 := hp1.c1
  have d2 := hp1.c2
  clear hpl hp
  go_enter Tryz.func23, Tryz.ntmps23
  go_wp2_with fail
  refine HV.out.mono ?_
  rintro e w2 ⟨rfl, hb2⟩
  have hp3 := hp1.below (Nat.lt_succ_self g) hb2
  have hB2 : Below g w w2 := hb1.trans (hb2.mono (by omega))
  have hs2 : g + 1 ≤ w2.heap.size := by rw [← hs1]; exact hb2.size
  have HSo := Lib.hid hs
  have HRo := Lib.hid hri
  have HGG := Lib.hid hg
  have HS2 := Lib.hid (hs.below (Nat.le_of_eq hg) hB2)
  have HR2 := Lib.hid (hri.below (Nat.le_of_eq hg) hB2)
  have HP2 := Lib.hid hp3
  have HB2 := Lib.hid hB2
  have HE1 := Lib.hid (ref_elements p (.slice sa S cs) s w2 HHP.out HS2.out)
  have HE2 := Lib.hid (ref_elements p (.slice ra R rc) r w2 HHP.out HR2.out)
  rw [hes] at HE1
  rw [her] at HE2
  have c0 := hp3.c0
  have c1 := hp3.c1
  have c2 := hp3.c2
  have HS0 := Lib.hid hs2
  clear hw1 hb1 hp1 hs1 d0 d1 d2 HV hb2 hp3 hB2 hs hri hes her
  have q1 : decide ((2048 : Int) < (S : Int)) = false := decide_eq_false (by omega)
  have HRL := Lib.hid hrl
  have HSB := Lib.hid hS
  have HRB := Lib.hid hri2
  have hK15 : K ≤ 15 := by omega
  have hN16 : N ≤ 16 := by omega
  have HRN : Hid (Calls Tryz.prog 26 #[.agg #[.int .i64 p, .int .i64 k, .int .i64 (N : Int)], .int .i64 (S : Int)] w2 fun e w' => e = .returned (.int .i64 (R : Int)) ∧ Below w2.heap.size w2 w') := by
    have h := ref6_random p k (N : Int) S w2 hk1 (by omega) (by omega)
    rw [hk, show (S : Int) * (K : Int) = (R : Int) by rw [hrl]; push_cast; rfl] at h
    exact h
  clear hrl hprm hp2 hkn hn16 hnp hsl hS hri2
  have hwr : IntKind.i64.wrap (K : Int) = (K : Int) := by rw [IntKind.wrap_i64]; omega
  go_wp2_with fail
  refine HE1.out.mono ?_
  rintro e w' ⟨rfl, rfl⟩
  go_wp2_with fail
  refine HE2.out.mono ?_
  rintro e w' ⟨rfl, rfl⟩
  go_wp2_with fail
  refine HRN.out.mono ?_
  rintro e w3 ⟨rfl, hb3⟩
  have hp3 := HP2.out.below (by have := HS0.out; omega) hb3
  have HP3 := Lib.hid hp3
  have HB3 := Lib.hid (HB2.out.trans (hb3.mono (by have := HS0.out; omega)))
  have hs3 : g + 1 ≤ w3.heap.size := Nat.le_trans HS0.out hb3.size
  have HZ3 := Lib.hid hs3
  have c0 := hp3.c0
  have c1 := hp3.c1
  have c2 := hp3.c2
  clear hp3 hb3 HS2 HR2 HP2 HB2 HS0 HRN HE1 HE2
  have HG0 : Hid (GathS w3 (g + 1) (.slice none 0 0) (dealF p K 0 s r)) := gathS_nil _ _
  have HW0 : Hid (Below (g + 1) w3 w3) := Below.refl _ _
  go_wp2_with fail
  go_loopw [8, 10, 11, 12, 13, 14] (fun v h _ _ _ _ wr => ∃ j : Nat, j ≤ N ∧ h = .int .i64 ((j + 1 : Nat) : Int) ∧ Hid (GathS wr (g + 1) v (dealF p K j s r)) ∧ Hid (Below (g + 1) w3 wr) ∧ Hid (g + 1 ≤ wr.heap.size)) (fun _ h _ _ _ _ _ => N + 1 - (intOf h).toNat)
  case atStart => exact ⟨0, Nat.zero_le _, rfl, HG0, HW0, HZ3⟩
  case round =>
    obtain ⟨j, hj, rfl, HG, HW, HZ⟩ := hrel
    have hpr := HP3.out.below (Nat.lt_succ_self g) HW.out
    have c0 := hpr.c0
    have c1 := hpr.c1
    have c2 := hpr.c2
    have HPR := Lib.hid hpr
    clear hpr
    by_cases hlt : j < N
    · obtain ⟨wo, hwo⟩ : ∃ wo, wo = wr := ⟨_, rfl⟩
      subst hwo
      obtain ⟨hd, hhd⟩ : ∃ hd, j + 1 = hd := ⟨_, rfl⟩
      rw [hhd]
      have q2 : hd ≤ N := by omega
      have HD := Lib.hid hhd
      clear hhd hlt hj
      obtain ⟨gs, hgs⟩ : ∃ gs, wo.heap.size = gs := ⟨_, rfl⟩
      have hgg : g + 1 ≤ gs := by rw [← hgs]; exact HZ.out
      have HA1 := Lib.hid (shAt_new wo ((hd : Int)) (.slice none 0 0) 42)
      have HA2 : Hid (Below gs wo (wo.alloc (Obj.cells #[Value.int IntKind.i64 (hd : Int), Value.slice none 0 0] 42))) := by rw [← hgs]; exact (Below.refl _ _).alloc (Nat.le_refl _) _
      have HA3 : Hid ((wo.alloc (Obj.cells #[Value.int IntKind.i64 (hd : Int), Value.slice none 0 0] 42)).heap.size = gs + 1) := by show _ = _; rw [← hgs]; simp
      rw [hgs] at HA1
      have HGS := Lib.hid hgs
      go_wp2_with fail
      clear hgs
      generalize wo.alloc (Obj.cells #[Value.int IntKind.i64 (hd : Int), Value.slice none 0 0] 42) = w4 at *
      have HQ0 : Hid (Gath w4 (gs + 1) (.slice none 0 0) (valsTo p K s r hd 0)) := gath_nil _ _
      have HZ4 : Hid (gs + 1 ≤ w4.heap.size) := Nat.le_of_eq HA3.out.symm
      clear HA3
      go_loopw [12, 13, 14, 58] (fun _ _ _ i wr => ∃ (m : Nat) (gv : Value), m ≤ S ∧ i = .int .i64 m ∧ Hid (ShAt wr gs hd gv) ∧ Hid (Gath wr (gs + 1) gv (valsTo p K s r hd m)) ∧ Hid (Below gs wo wr) ∧ Hid (gs + 1 ≤ wr.heap.size)) (fun _ _ _ i _ => S - (intOf i).toNat)
      case atStart => exact ⟨0, _, Nat.zero_le _, rfl, HA1, HQ0, HA2, HZ4⟩
      case round =>
        obtain ⟨m, gv, hm, rfl, HSA, HGV, HWQ, HZQ⟩ := hrel
        clear HA1 HQ0 HA2 HZ4
        by_cases hlt2 : m < S
        · have hpq := HPR.out.below (show g < gs by omega) HWQ.out
          have c0 := hpq.c0
          have HBQ : Hid (Below g w wr) := HB3.out.trans ((HW.out.mono (by omega)).trans (HWQ.out.mono (by omega)))
          have HSQ := Lib.hid (HSo.out.below (Nat.le_of_eq HGG.out) HBQ.out)
          have HRQ := Lib.hid (HRo.out.below (Nat.le_of_eq HGG.out) HBQ.out)
          obtain ⟨b1, o1, hae, hcx⟩ := Ints.pos HSQ.out hlt2
          obtain ⟨x, hx⟩ : ∃ x, s.getD m 0 = x := ⟨_, rfl⟩
          rw [hx] at hcx
          obtain ⟨A, hA⟩ : ∃ A, m * K = A := ⟨_, rfl⟩
          obtain ⟨A2, hA2⟩ : ∃ A2, (m + 1) * K = A2 := ⟨_, rfl⟩
          have hAK : A2 = A + K := by rw [← hA2, ← hA, Nat.add_mul, Nat.one_mul]
          have hA2R : A2 ≤ R := by rw [HRL.out, ← hA2]; exact Nat.mul_le_mul_right K hlt2
          obtain ⟨M1, hM1⟩ : ∃ M1, m + 1 = M1 := ⟨_, rfl⟩
          have hAi : (m : Int) * (K : Int) = (A : Int) := by rw [← hA]; push_cast; rfl
          have hM1i : (m : Int) + 1 = (M1 : Int) := by omega
          have hA2i : (M1 : Int) * (K : Int) = (A2 : Int) := by rw [← hA2, ← hM1]; push_cast; rfl
          have hle1 : A ≤ A2 := by omega
          have hle2 : A2 ≤ rc := by omega
          have hAd : A2 - A = K := by omega
          have HPL : Hid (polyL K s r m = x :: (r.drop A).take K) := by show _ = _; unfold polyL; rw [hx, hA]
          have HAK := Lib.hid hAK
          have HA2R := Lib.hid hA2R
          have HLL : Hid (((r.drop A).take K).length = K) := by show _ = _; rw [List.length_take, List.length_drop, HRR.out]; omega
          have HM1 := Lib.hid hM1
          have hM1b : M1 ≤ 2048 := by have := HSB.out; omega
          have hA2b : A2 ≤ 40000 := by
            have h1 : M1 * K ≤ 2048 * 15 := Nat.mul_le_mul hM1b hK15
            rw [hM1] at hA2
            omega
          subst hae
          have HOW : Hid (Gath (wr.alloc (.cells #[.int .i64 x] 3)) wr.heap.size (.slice (some ⟨wr.heap.size, 0, none⟩) 1 1) [x]) := World.ownsRow_lit wr _ 1 (Nat.le_refl _) (by unfold maxLen; omega) rfl
          have HSR := Lib.hid (HRQ.out.below (Nat.le_refl _) ((Below.refl _ _).alloc (Nat.le_refl _) (.cells #[.int .i64 x] 3)))
          have HNN : Hid (ra = none → (r.drop A).take K = []) := fun e => by
            have h := HRQ.out
            rw [e] at h
            rw [ints_none h]; simp
          clear hA hA2 hAK hx hpq hM1
          go_upto_region 16 with fail
          go_cut [14] (fun v W => Hid (Gath W wr.heap.size v (polyL K s r m)) ∧ Hid (Below wr.heap.size wr W))
          case first =>
            cases ra with
            | none =>
              have h0 := HNN.out rfl
              have HK0 : Hid (K = 0) := by
                have h1 := HLL.out
                rw [h0] at h1
                exact h1.symm
              have HP0 : Hid ([x] = polyL K s r m) := by show _ = _; rw [HPL.out, h0]
              have hA0 : A = 0 := by
                have h1 : R = 0 := by rw [← HRR.out, ints_none HRQ.out]; rfl
                omega
              have hA20 : A2 = 0 := by
                have h1 : R = 0 := by rw [← HRR.out, ints_none HRQ.out]; rfl
                omega
              subst hA0 hA20
              clear h0
              go_wp2_with (at_builtin; refine append_list _ rfl _ _ rfl wr.heap.size (.slice (some ⟨wr.heap.size, 0, none⟩) 1 1) [x] [] rfl HOW.out _ rfl ?src (by simp) (by simp) ?_)
              case src => rw [HK0.out]; exact ints_zero _ _ _
              intro v6 w6 hown6 hgr6
              have HO6 := Lib.hid hown6
              have HG6 : Hid (Below wr.heap.size wr w6) := ((Below.refl _ _).alloc (Nat.le_refl _) _).grown hgr6 (by simp) (fun k hk => by simp [Value.ownBlock] at hk; omega)
              clear hown6 hgr6
              go_wp2_with fail
              go_meet
              exact ⟨by rw [← HP0.out]; exact HO6, HG6⟩
            | some ad =>
              rcases Nat.lt_or_ge A rc with hAr | hAr
              · go_wp2_with (at_builtin; refine append_list _ rfl _ _ rfl wr.heap.size (.slice (some ⟨wr.heap.size, 0, none⟩) 1 1) [x] ((r.drop A).take K) rfl HOW.out _ rfl ?src (by rw [HLL.out]; simp; omega) (by simp) ?_)
                case src => exact ints_sub HSR.out HRR.out A K _ (by have := HAK.out; have := HA2R.out; omega)
                intro v6 w6 hown6 hgr6
                have HO6 := Lib.hid hown6
                have HG6 : Hid (Below wr.heap.size wr w6) := ((Below.refl _ _).alloc (Nat.le_refl _) _).grown hgr6 (by simp) (fun k hk => by simp [Value.ownBlock] at hk; omega)
                clear hown6 hgr6
                go_wp2_with fail
                go_meet
                exact ⟨by rw [HPL.out]; exact HO6, HG6⟩
              · obtain rfl : rc = A := by omega
                have HK0 : Hid (K = 0) := by show _ = _; have := HAK.out; have := HA2R.out; omega
                have HP0 : Hid ([x] = polyL K s r m) := by show _ = _; rw [HPL.out, HK0.out, List.take_zero]
                go_wp2_with (at_builtin; refine append_list _ rfl _ _ rfl wr.heap.size (.slice (some ⟨wr.heap.size, 0, none⟩) 1 1) [x] [] rfl HOW.out _ rfl ?src (by simp) (by simp) ?_)
                case src => rw [HK0.out]; exact ints_zero _ _ _
                intro v6 w6 hown6 hgr6
                have HO6 := Lib.hid hown6
                have HG6 : Hid (Below wr.heap.size wr w6) := ((Below.refl _ _).alloc (Nat.le_refl _) _).grown hgr6 (by simp) (fun k hk => by simp [Value.ownBlock] at hk; omega)
                clear hown6 hgr6
                go_wp2_with fail
                go_meet
                exact ⟨by rw [← HP0.out]; exact HO6, HG6⟩
          case rest =>
            obtain ⟨HO6, HG6⟩ := hcut
            obtain ⟨w6, hw6⟩ : ∃ w6, w6 = wc := ⟨_, rfl⟩
            subst hw6
            have hgr : gs + 1 ≤ wr.heap.size := HZQ.out
            have hsz6 := HG6.out.size
            have HB6 : Hid (Below gs wo w6) := HWQ.out.trans (HG6.out.mono (by omega))
            have hG6 : Gath w6 (gs + 1) gv (valsTo p K s r hd m) := HGV.out.kept HG6.out (Nat.le_refl _)
            have hsa6 : ShAt w6 gs hd gv := HSA.out.grown (grownBy_of_below HG6.out (Nat.le_refl _)) (fun e => by cases e)
            have hp6 := HPR.out.below (show g < gs by omega) HB6.out
            have hx6 := polyL_els hpp1 HES.out HER.out K m
            have hrd : Ints w6.drew u14 (polyL K s r m) := (HO6.out.reads (by have := polyL_len K s r m; omega)).below (Nat.le_refl _) (Below.refl _ _).drew
            have HEV := Lib.hid (ref_eval_any p hd u14 (polyL K s r m) w6.drew hpp1 hpp2 (by refine ⟨by omega, ?_⟩; have := HNP.out; omega) hx6 hrd (by have := polyL_len K s r m; omega))
            obtain ⟨y, hy⟩ : ∃ y, E (polyL K s r m) hd % p = y := ⟨_, rfl⟩
            rw [hy] at HEV
            have HY : Hid (valsTo p K s r hd m ++ [y] = valsTo p K s r hd (m + 1)) := by show _ = _; rw [valsTo_succ, hy]
            have HAP : Hid (∃ v' W', (Builtin.append_ #[22, 22] 22 #[gv, .slice (some ⟨w6.drew.heap.size, 0, none⟩) 1 1]).run Tryz.prog (w6.drew.alloc (.cells #[.int .i64 y] 3)) = .ok v' W' ∧
                (Gath W' (gs + 1) v' (valsTo p K s r hd (m + 1)) ∧ Below gs wo W' ∧ ShAt W' gs hd gv ∧ gs + 1 ≤ W'.heap.size)) := by
              have hgd : Gath (w6.drew.alloc (.cells #[.int .i64 y] 3)) (gs + 1) gv (valsTo p K s r hd m) := Gath.alloc (Gath.drewN hG6 1) _
              obtain ⟨v', W', h1, h2, h3⟩ := run_append_gath hgd w6.drew.heap.size y (by rw [cell_new]; rfl) (by rw [valsTo_len]; have := HSB.out; omega) (by show gs + 1 ≤ (w6.drew.alloc _).heap.size; simp; omega) 22
              rw [HY.out] at h2
              refine ⟨v', W', h1, h2, (HB6.out.drew.alloc (by show gs ≤ w6.heap.size; omega) _).grown h3 (by show gs ≤ (w6.drew.alloc _).heap.size; simp; omega) (fun k hk => ?_), ?_, ?_⟩
              · have := (World.ownsRow.lt hG6 k hk).1; omega
              · exact (ShAt.grown (w := w6.drew) hsa6 (World.grownBy_alloc _ _ none) (fun e => by cases e)).grown h3 (fun e => by have := (World.ownsRow.lt hG6 gs e).1; omega)
              · have := h3.size; simp at this; omega
            have c0 := hp6.c0
            have e1 := hsa6.c1
            have e1b := (ShAt.grown hsa6 (World.grownBy_alloc w6 (.cells #[.int .i64 y] 3) none) (fun e => by cases e)).c1
            have c0b := (hp6.below hp6.lt ((Below.refl _ _).alloc (Nat.le_refl _) (.cells #[.int .i64 y] 3))).c0
            have HMB : Hid (m + 1 ≤ S) := hlt2
            clear hx6 hsa6 hG6 hp6 hy hrd hM1i hAi hA2i hle1 hle2 hAd hM1b hA2b hA2R
            go_wp2_with fail
            apply region_oneV (fun vn W => ShAt W gs hd vn ∧ Gath W (gs + 1) vn (valsTo p K s r hd (m + 1)) ∧ Below gs wo W ∧ gs + 1 ≤ W.heap.size)
            case hr =>
              refine wp_region_noPanic ?_
              go_region_law (first
                | (refine step_appendV rfl _ _ _ _ rfl _ _ rfl rfl _ HAP.out ?_; rintro v' W' ⟨h1, h2, h3, h4⟩; obtain ⟨av, cv, rfl⟩ := h1.shape; have k1 := h3.c1; have kf := h3.fr 1; have H1 := Lib.hid h1; have H2 := Lib.hid h2; have H3 := Lib.hid h3; have H4 := Lib.hid h4; clear h1 h2 h3 h4)
                | (go_simp; go_at_call 43; with_reducible refine HEV.out.mono ?_; rintro e w' ⟨rfl, rfl⟩))
              all_goals
                refine NoPanic.normal ?_
                obtain ⟨vq, hvq⟩ : ∃ vq, Value.slice av (valsTo p K s r hd (m + 1)).length cv = vq := ⟨_, rfl⟩
                have h1 := H1.out
                rw [hvq] at h1 ⊢
                exact ⟨rfl, vq, rfl, H3.out.set _, gath_set_other h1 (by omega) _ _, H2.out.setCell (Nat.le_refl _) _, by simp; exact H4.out⟩
            rintro vn W ⟨h1, h2, h3, h4⟩
            have HS9 := Lib.hid h1
            have HG9 := Lib.hid h2
            have HB9 := Lib.hid h3
            have HZ9 := Lib.hid h4
            clear h1 h2 h3 h4 HAP HEV e1 e1b c0 c0b HO6 HG6 HB6
            have hmb : m ≤ 2048 := by have := HSB.out; omega
            go_wp2
            go_roundw
            case rel => exact ⟨m + 1, vn, HMB.out, by go_num, HS9, HG9, HB9, HZ9⟩
            case measure => simp [intOf]; have := HMB.out; omega
        · obtain rfl : m = S := by omega
          have hgw : GathS wr (g + 1) u8 (dealF p K j s r) := HG.out.below HWQ.out (Nat.le_of_eq HGS.out)
          have hbw : Below (g + 1) w3 wr := HW.out.trans (HWQ.out.mono (by omega))
          have HGW := Lib.hid hgw
          have HBW := Lib.hid hbw
          have hslc := HGV.out.slc (by rw [valsTo_len]; have := HSB.out; omega)
          have HSL := Lib.hid hslc
          have HGB := Lib.hid (fun q (hq : gv.ownBlock = some q) => World.ownsRow.lt HGV.out q hq)
          have HUB := Lib.hid hgw.block
          have HUS := Lib.hid (HG.out.block)
          have HNX : Hid (dealF p K j s r ++ [((hd : Int), valsTo p K s r hd m)] = dealF p K (j + 1) s r) := by
            show _ = _
            rw [dealF_succ, ← HD.out]
            unfold dealV valsTo
            rw [HSL2.out]
          have hsz9 : gs < wr.heap.size := HSA.out.lt
          have c5 := HSA.out.c0
          have c6 := HSA.out.c1
          have HC0 := Lib.hid (shAt_new wr (hd : Int) gv 42).c0
          have HC1 := Lib.hid (shAt_new wr (hd : Int) gv 42).c1
          have HSA9 := Lib.hid (hslc.grown (World.grownBy_alloc wr (.cells #[.int .i64 hd, gv] 42) none) (fun q _ e => by cases e))
          have HGA := Lib.hid (hgw.alloc (.cells #[.int .i64 hd, gv] 42))
          have HDL : Hid ((dealF p K j s r).length < 1000) := by show _ < _; rw [dealF_len]; have := HD.out; omega
          have HBL : Hid (∀ q, gv.ownBlock = some q → g + 1 ≤ q ∧ q < (wr.alloc (.cells #[.int .i64 hd, gv] 42)).heap.size ∧ u8.ownBlock ≠ some q) := fun q hq => by
            have h1 := HGB.out q hq
            refine ⟨by omega, by simp; omega, fun e => ?_⟩
            have h2 := HUS.out q e
            have h3 := HGS.out
            omega
          have hj16 : j < 16 := by have := HD.out; omega
          clear hgw hbw hslc
          go_wp2_with (at_builtin; refine appendS_one _ rfl _ _ rfl (g + 1) u8 (dealF p K j s r) (hd : Int) gv (valsTo p K s r hd m) rfl HGA.out wr.heap.size rfl HC0.out HC1.out HSA9.out HBL.out HDL.out (by simp; omega) ?_)
          intro v8 w8 hown8 hgr8 _
          rw [HNX.out] at hown8
          have HO8 := Lib.hid hown8
          have hb8 : Below (g + 1) w3 w8 := (HBW.out.alloc (by omega) _).grown hgr8 (by simp; omega) (fun k hk => (HUB.out k hk).1)
          have HB8 := Lib.hid hb8
          have HZ8 : Hid (g + 1 ≤ w8.heap.size) := by show _ ≤ _; have := hgr8.size; simp at this; omega
          have hd1 : (hd : Int) + 1 = ((j + 1 + 1 : Nat) : Int) := by have := HD.out; omega
          have hdb : hd ≤ 17 := by have := HD.out; omega
          clear hown8 hgr8 hb8 HGA HC0 HC1 HSA9 HBL HBW HGW
          go_wp2
          go_roundw
          case rel => exact ⟨j + 1, by have := HD.out; omega, by rw [← hd1]; go_num, HO8, HB8, HZ8⟩
          case measure => simp [intOf]; have := HD.out; omega
    · have hn1 : ¬ ((j + 1 : Nat) : Int) ≤ (N : Int) := by omega
      have hn2 : ¬ j + 1 ≤ N := by omega
      have hjN : j = N := by omega
      have HGF : Hid (GathS wr g u8 (dealF p K N s r)) := by show GathS wr g u8 _; rw [← hjN]; exact HG.out.mono (by omega)
      have HBF : Hid (Below g w wr) := HB3.out.trans (HW.out.mono (by omega))
      have hlt' : ¬ j < N := by omega
      clear hjN
      go_wp2
      go_ret2
      exact ⟨_, rfl, HGF.out, HBF.out⟩
end Go.Proofs.YtpgbjnenllfmlaaGreatDoor
/-! Shares dealt: the document's Deal, with its errors. -/
namespace Go.Proofs.YtpgbjnenllfmlaaGreatDoor
open Go.RowKit
open Num
set_option linter.unusedVariables false

/-- The error of Deal, for at most 2048 elements. -/
noncomputable def dealE (p k n : Int) (s r : List Int) : Int := if planB p k n = true then (if elB p s = true ∧ elB p r = true ∧ (r.length : Int) = (s.length : Int) * (k - 1) then 0 else 2) else 1
noncomputable def dealR (p k n : Int) (s r : List Int) : List Shr := if dealE p k n s r = 0 then dealF p (k - 1).toNat n.toNat s r else []

set_option maxRecDepth 100000 in
set_option maxHeartbeats 8000000 in
theorem ref6_deal_any (p k n : Int) (sa : Option Addr) (S cs : Nat) (s r : List Int) (vr : Value) (w : World) (hp : (Lit.int .i64 p).wf = true) (hs : Ints w (.slice sa S cs) s) (hsl : s.length = S) (hr : Slc w vr r) (hS : S ≤ 2048) :
    Calls Tryz.prog 23 #[planV p k n, .slice sa S cs, vr] w fun e w' => ∃ v, e = .returned (.tuple #[v, .int .i64 (dealE p k n s r)]) ∧ GathS w' w.heap.size v (dealR p k n s r) ∧ Below w.heap.size w w' := by
  by_cases hE : dealE p k n s r = 0
  · have h0 := hE
    unfold dealE at h0
    have hpl : planB p k n = true := by
      by_cases h : planB p k n = true
      · exact h
      · rw [if_neg h] at h0; cases h0
    rw [if_pos hpl] at h0
    have h2 : elB p s = true ∧ elB p r = true ∧ (r.length : Int) = (s.length : Int) * (k - 1) := by
      by_cases h : elB p s = true ∧ elB p r = true ∧ (r.length : Int) = (s.length : Int) * (k - 1)
      · exact h
      · rw [if_neg h] at h0; cases h0
    obtain ⟨_, _, hk1, hkn, _, _⟩ := planB_parts hpl
    obtain ⟨K, hK⟩ := Int.eq_ofNat_of_zero_le (show 0 ≤ k - 1 by omega)
    obtain ⟨N, rfl⟩ := Int.eq_ofNat_of_zero_le (show 0 ≤ n by omega)
    have hR : dealR p k (N : Int) s r = dealF p K N s r := by
      unfold dealR
      rw [if_pos hE, hK, Int.toNat_natCast, Int.toNat_natCast]
    rw [hR, hE]
    refine ref6_deal_ok p k K N sa S cs s r vr w hp hK hpl hs hsl hr hS h2.1 h2.2.1 ?_
    have h3 := h2.2.2
    rw [hK, hsl] at h3
    exact Int.ofNat_inj.1 (by rw [h3]; push_cast; rfl)
  · have hR : dealR p k n s r = [] := by unfold dealR; rw [if_neg hE]
    rw [hR]
    obtain ⟨g, hg⟩ : ∃ g, w.heap.size = g := ⟨_, rfl⟩
    obtain ⟨w1, hw1⟩ : ∃ w1, w.alloc (Obj.cells #[Value.int IntKind.i64 p, Value.int IntKind.i64 k, Value.int IntKind.i64 n] 31) = w1 := ⟨_, rfl⟩
    have hb1 : Below g w w1 := by rw [← hw1, ← hg]; exact (Below.refl _ _).alloc (Nat.le_refl _) _
    have hp1 : PlanAt w1 g p k n := by rw [← hw1, ← hg]; exact planAt_new _ _ _ _ _
    have hs1 : w1.heap.size = g + 1 := by rw [← hw1, ← hg]; simp
    have HV := Lib.hid (ref6_valid p k n w1 hp)
    rw [hs1] at HV
    rw [hg]
    obtain ⟨b0, hb0⟩ : ∃ b, planB p k n = b := ⟨_, rfl⟩
    rw [hb0] at HV
    unfold planV at HV ⊢
    have d0 := hp1.c0
    have d1 := hp1.c1
    have d2 := hp1.c2
    cases b0 with
    | false =>
      have hE1 : dealE p k n s r = 1 := by unfold dealE; rw [if_neg (by rw [hb0]; simp)]
      rw [hE1]
      have HB1 := Lib.hid hb1
      clear hE hE1 hb0 hb1 hp1 hs hr hsl
      go_enter Tryz.func23, Tryz.ntmps23
      go_wp2_with fail
      refine HV.out.mono ?_
      rintro e w2 ⟨rfl, hb2⟩
      have HB2 := Lib.hid (HB1.out.trans (hb2.mono (by omega)))
      clear hb2
      go_wp2
      go_ret2
      exact ⟨_, rfl, gathS_nil _ _, HB2.out⟩
    | true =>
      obtain ⟨hprm, hp2, hk1, hkn, hn16, hnp⟩ := planB_parts hb0
      obtain ⟨K, hK⟩ := Int.eq_ofNat_of_zero_le (show 0 ≤ k - 1 by omega)
      have hE2 : dealE p k n s r = 2 ∧ ¬ (elB p s = true ∧ elB p r = true ∧ (r.length : Int) = (s.length : Int) * (k - 1)) := by
        unfold dealE at hE ⊢
        rw [if_pos hb0] at hE ⊢
        by_cases h : elB p s = true ∧ elB p r = true ∧ (r.length : Int) = (s.length : Int) * (k - 1)
        · rw [if_pos h] at hE; exact absurd rfl hE
        · rw [if_neg h]; exact ⟨rfl, h⟩
      obtain ⟨hE2, hno⟩ := hE2
      rw [hE2]
      obtain ⟨ra, rc, rfl, hrc, hrc2, hri⟩ := hr
      obtain ⟨R, hRR⟩ : ∃ R, r.length = R := ⟨_, rfl⟩
      rw [hRR] at hrc hri hno ⊢
      rw [hsl] at hno
      have HSo := Lib.hid hs
      have HRo := Lib.hid hri
      have HGG := Lib.hid hg
      have HB1 := Lib.hid hb1
      have HP1 := Lib.hid hp1
      have HHP := Lib.hid hp
      have q1 : decide ((2048 : Int) < (S : Int)) = false := decide_eq_false (by omega)
      obtain ⟨be1, hbe1⟩ : ∃ b, elB p s = b := ⟨_, rfl⟩
      obtain ⟨be2, hbe2⟩ : ∃ b, elB p r = b := ⟨_, rfl⟩
      obtain ⟨Z, hZ⟩ : ∃ Z, S * K = Z := ⟨_, rfl⟩
      have hno2 : be1 = false ∨ be2 = false ∨ R ≠ Z := by
        cases h1 : be1
        · exact .inl rfl
        · cases h2 : be2
          · exact .inr (.inl rfl)
          · refine .inr (.inr fun e => hno ⟨by rw [hbe1, h1], by rw [hbe2, h2], ?_⟩)
            rw [e, ← hZ, hK]; push_cast; rfl
      have HRN : Hid (∀ w2, Calls Tryz.prog 26 #[.agg #[.int .i64 p, .int .i64 k, .int .i64 n], .int .i64 (S : Int)] w2 fun e w' => e = .returned (.int .i64 (Z : Int)) ∧ Below w2.heap.size w2 w') := fun w2 => by
        have h := ref6_random p k n S w2 hk1 (by omega) (by omega)
        rw [hK, show (S : Int) * (K : Int) = (Z : Int) by rw [← hZ]; push_cast; rfl] at h
        exact h
      have HKK : Hid (k - 1 = (K : Int)) := hK
      clear hE hE2 hb0 hb1 hp1 hs1 hs hri hsl hno hprm hp2 hkn hn16 hnp hZ hK hk1 hS hrc2 hrc
      go_enter Tryz.func23, Tryz.ntmps23
      go_wp2_with fail
      refine HV.out.mono ?_
      rintro e w2 ⟨rfl, hb2⟩
      have HB2 := Lib.hid (HB1.out.trans (hb2.mono (by omega)))
      have hp3 := HP1.out.below (Nat.lt_succ_self g) hb2
      have HP2 := Lib.hid hp3
      have c0 := hp3.c0
      have c1 := hp3.c1
      have c2 := hp3.c2
      have HE1 := Lib.hid (ref_elements p (.slice sa S cs) s w2 HHP.out (HSo.out.below (Nat.le_of_eq HGG.out) HB2.out))
      have HE2 := Lib.hid (ref_elements p (.slice ra R rc) r w2 HHP.out (HRo.out.below (Nat.le_of_eq HGG.out) HB2.out))
      rw [hbe1] at HE1
      rw [hbe2] at HE2
      clear hb2 hp3 hw1 d0 d1 d2 hbe1 hbe2
      go_wp2_with fail
      refine HE1.out.mono ?_
      rintro e w' ⟨rfl, rfl⟩
      cases be1 with
      | false =>
        go_wp2
        go_ret2
        exact ⟨_, rfl, gathS_nil _ _, HB2.out⟩
      | true =>
        go_wp2_with fail
        refine HE2.out.mono ?_
        rintro e w' ⟨rfl, rfl⟩
        cases be2 with
        | false =>
          go_wp2
          go_ret2
          exact ⟨_, rfl, gathS_nil _ _, HB2.out⟩
        | true =>
          have hne : R ≠ Z := by simpa using hno2
          clear hno2
          go_wp2_with fail
          refine (HRN.out w2).mono ?_
          rintro e w3 ⟨rfl, hb3⟩
          have HB3 := Lib.hid (HB2.out.trans (hb3.mono (by have h1 := HP2.out.lt; omega)))
          have n1 : ((R : Int) == (Z : Int)) = false := by simp only [beq_eq_false_iff_ne]; omega
          have n2 : (R == Z) = false := by simp only [beq_eq_false_iff_ne]; omega
          clear hb3
          go_wp2
          go_ret2
          exact ⟨_, rfl, gathS_nil _ _, HB3.out⟩
end Go.Proofs.YtpgbjnenllfmlaaGreatDoor
