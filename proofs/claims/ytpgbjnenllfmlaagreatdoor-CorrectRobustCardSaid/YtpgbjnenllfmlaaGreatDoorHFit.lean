
/- Good lists of shares: the document's Good. -/
import Derived.Test.YtpgbjnenllfmlaaGreatDoorHTur
import Derived.Lib.QuietBelow
import Derived.BigQuiet
import Derived.Test.YtpgbjnenllfmlaaGreatDoorRfI
/-! Good lists of shares: the document's Good. -/
namespace Go.Proofs.YtpgbjnenllfmlaaGreatDoor
open Go.RowKit Go.Sort
open Num
set_option linter.unusedVariables false

theorem ShAt.below {w w' : World} {g B : Nat} {h : Int} {v : Value} (k : ShAt w g h v) (b : Below B w w') (hg : g < B) : ShAt w' g h v := by
  obtain ⟨t, k⟩ := k
  exact ⟨t, by rw [b.block g hg]; exact k⟩
/-- One share of a list is as Good asks. -/
def GoodAt (p n : Int) (L : List Shr) (i : Nat) : Prop := stB p n (L.getD i (0, [])) = true ∧ (L.getD i (0, [])).2.length = (L.getD 0 (0, [])).2.length ∧ (L.getD i (0, [])).2.length ≤ 2048 ∧ ∀ j, j < i → (L.getD j (0, [])).1 ≠ (L.getD i (0, [])).1
noncomputable def goodB (p n : Int) (L : List Shr) : Bool := @decide (∀ i, i < L.length → GoodAt p n L i) (Classical.propDecidable _)
theorem goodB_true {p n : Int} {L : List Shr} (h : ∀ i, i < L.length → GoodAt p n L i) : goodB p n L = true := by
  unfold goodB
  exact @decide_eq_true _ (Classical.propDecidable _) h
theorem goodB_false {p n : Int} {L : List Shr} {i : Nat} (hi : i < L.length) (h : ¬ GoodAt p n L i) : goodB p n L = false := by
  unfold goodB
  exact @decide_eq_false _ (Classical.propDecidable _) (fun e => h (e i hi))
theorem goodB_parts {p n : Int} {L : List Shr} (h : goodB p n L = true) : ∀ i, i < L.length → GoodAt p n L i := by
  unfold goodB at h
  exact @of_decide_eq_true _ (Classical.propDecidable _) h

set_option maxRecDepth 100000 in
set_option maxHeartbeats 8000000 in
theorem ref6_good (p k n : Int) (s : Value) (L : List Shr) (w : World) (hp : (Lit.int .i64 p).wf = true) (hs : Shares w s L) :
    Calls Tryz.prog 39 #[planV p k n, s] w fun e w' => e = .returned (.bool (goodB p n L)) ∧ Below w.heap.size w w' := by
  unfold planV
  obtain ⟨a1, d1, rfl, hl, hld1, hd1, _⟩ := id hs
  obtain ⟨N, hN⟩ : ∃ N, L.length = N := ⟨_, rfl⟩
  rw [hN] at hs hl hld1 ⊢
  obtain ⟨g, hg⟩ : ∃ g, w.heap.size = g := ⟨_, rfl⟩
  obtain ⟨w1, hw1⟩ : ∃ w1, w.alloc (Obj.cells #[Value.int IntKind.i64 p, Value.int IntKind.i64 k, Value.int IntKind.i64 n] 31) = w1 := ⟨_, rfl⟩
  have hb1 : Below g w w1 := by rw [← hw1, ← hg]; exact (Below.refl _ _).alloc (Nat.le_refl _) _
  have hp1 : PlanAt w1 g p k n := by rw [← hw1, ← hg]; exact planAt_new _ _ _ _ _
  have hs1 : w1.heap.size = g + 1 := by rw [← hw1, ← hg]; simp
  have HGG := Lib.hid hg
  have HNN := Lib.hid hN
  have HHP := Lib.hid hp
  have HS := Lib.hid (hs.below (Nat.le_of_eq hg) hb1)
  have HPL := Lib.hid hp1
  have HB1 := Lib.hid hb1
  have HW0 : Hid (Below (g + 1) w1 w1) := Below.refl _ _
  have HZ1 := Lib.hid hs1
  have HA0 : Hid (∀ i, i < 0 → GoodAt p n L i) := fun i hi => by omega
  rw [hg]
  clear hs hN hp hb1 hp1 hs1
  go_enter Tryz.func39, Tryz.ntmps39
  go_wp2_with fail
  clear hw1
  go_loopw [5, 6, 8, 11] (fun _ _ _ i wr => ∃ j : Nat, j ≤ N ∧ i = .int .i64 j ∧ Hid (∀ i, i < j → GoodAt p n L i) ∧ Hid (Below (g + 1) w1 wr)) (fun _ _ _ i _ => N - (intOf i).toNat)
  case atStart => exact ⟨0, Nat.zero_le _, rfl, HA0, HW0⟩
  case round =>
    obtain ⟨j, hj, rfl, HA, HW⟩ := hrel
    by_cases hlt : j < N
    · obtain ⟨wo, hwo⟩ : ∃ wo, wo = wr := ⟨_, rfl⟩
      subst hwo
      have HSR := Lib.hid (HS.out.below (Nat.le_of_eq HZ1.out) HW.out)
      obtain ⟨b1, o1, v1, rfl, c0, c1, hi1⟩ := HSR.out.at hlt
      obtain ⟨b2, o2, v2, he, z0, z1, hi2⟩ := HSR.out.at (Nat.lt_of_le_of_lt (Nat.zero_le _) hlt)
      simp only [Option.some.injEq, Addr.mk.injEq, and_true] at he
      obtain ⟨rfl, rfl⟩ := he
      rw [Nat.zero_mul, Nat.add_zero] at z0 z1
      obtain ⟨⟨h, l⟩, hsh⟩ : ∃ z, L.getD j (0, []) = z := ⟨_, rfl⟩
      obtain ⟨⟨h0, l0⟩, hsh0⟩ : ∃ z, L.getD 0 (0, []) = z := ⟨_, rfl⟩
      have HSJ := Lib.hid hsh
      have HS0 := Lib.hid hsh0
      rw [hsh] at c0 hi1
      rw [hsh0] at z0 hi2
      simp only at c0 hi1 z0 hi2
      obtain ⟨va1, vc1, rfl⟩ := hi1.shape
      obtain ⟨va2, vc2, rfl⟩ := hi2.shape
      obtain ⟨ll, hll⟩ : ∃ ll, l.length = ll := ⟨_, rfl⟩
      obtain ⟨l2, hl2⟩ : ∃ l2, l0.length = l2 := ⟨_, rfl⟩
      have hlll : ll ≤ 140737488355328 := by rw [← hll]; obtain ⟨_, _, _, h, _⟩ := hi1; exact h
      have hll2 : l2 ≤ 140737488355328 := by rw [← hl2]; obtain ⟨_, _, _, h, _⟩ := hi2; exact h
      have HLL := Lib.hid hll
      have HL2 := Lib.hid hl2
      rw [hll] at c1 hi1
      rw [hl2] at z1 hi2
      obtain ⟨gs, hgs⟩ : ∃ gs, wo.heap.size = gs := ⟨_, rfl⟩
      have hgg : g + 1 ≤ gs := by rw [← hgs, ← HZ1.out]; exact HW.out.size
      have hba : Below gs wo (wo.alloc (.cells #[.int .i64 h, .slice va1 ll vc1] 42)) := by rw [← hgs]; exact (Below.refl _ _).alloc (Nat.le_refl _) _
      have HI1 := Lib.hid (hi1.below (Nat.le_of_eq hgs) hba)
      have hblt := cell_lt z1
      rw [hgs] at hblt
      have z1' : (wo.alloc (.cells #[.int .i64 h, .slice va1 ll vc1] 42)).cell? ⟨b1, o1 + 1, none⟩ = some (.slice va2 l2 vc2) := by rw [hba.cell (p := ⟨b1, o1 + 1, none⟩) hblt]; exact z1
      have hpr := (HPL.out.below (Nat.lt_succ_self g) HW.out).below (by omega) hba
      have hsa := shAt_new wo h (.slice va1 ll vc1) 42
      rw [hgs] at hsa
      have HBA := Lib.hid (HW.out.trans (hba.mono hgg))
      have HBA2 := Lib.hid hba
      have HGS := Lib.hid hgs
      have hza : (wo.alloc (.cells #[.int .i64 h, .slice va1 ll vc1] 42)).heap.size = gs + 1 := by rw [← hgs]; simp
      have HZA := Lib.hid hza
      have HBL := Lib.hid hblt
      have HPR := Lib.hid hpr
      have HSA := Lib.hid hsa
      have HZ1' := Lib.hid z1'
      clear hi1 hi2 hba hsh hsh0 hsa hpr z0 z1 z1' HW hll hl2 hza hblt
      go_wp2_with fail
      clear hgs c0 c1
      generalize wo.alloc (.cells #[.int .i64 h, .slice va1 ll vc1] 42) = w5 at *
      have s0 := cell_regrown HSA.out.c0
      have s1 := cell_regrown HSA.out.c1
      have p0 := cell_regrown HPR.out.c0
      have p1 := cell_regrown HPR.out.c1
      have p2 := cell_regrown HPR.out.c2
      have z1 := cell_regrown HZ1'.out
      obtain ⟨st, hst⟩ : ∃ st, stB p n (h, l) = st := ⟨_, rfl⟩
      have cST : ∀ d os, Calls Tryz.prog 65 #[.agg #[.int .i64 p, .int .i64 k, .int .i64 n], .agg #[.int .i64 h, .slice va1 ll vc1]] (grow (redrawn w5 d) os) fun e w'' => e = .returned (.bool st) ∧ ∃ p : Regrown, w'' = grow (redrawn w5 p.d) p.os := fun d os => by
        have h := ref6_stands p k n h (.slice va1 ll vc1) l (grow (redrawn w5 d) os) HHP.out (HI1.out.below (Nat.le_refl _) (below_regrown w5 d os))
        rw [hst] at h
        unfold planV shareV at h
        exact Calls.regrown_of h
      have HSTB := Lib.hid hst
      clear hst
      have HBF : Hid (Below g w w5) := HB1.out.trans (HBA.out.mono (by omega))
      cases st with
      | false =>
        have HNG : Hid (¬ GoodAt p n L j) := fun e => by
          have h := e.1
          rw [HSJ.out, HSTB.out] at h
          cases h
        refine wp_region_quiet_below (by kernel_rfl) (by kernel_rfl) ?_
        repeat (go_big_quiet_step (with_reducible exact cST _ _))
        refine wpQuiet_nil ?_
        intro _ hw'
        obtain ⟨⟨dq, osq⟩, hw''⟩ := hw'
        subst hw''
        have hbq := below_regrown w5 dq osq
        rw [HZA.out] at hbq
        have HBQ := Lib.hid hbq
        clear hbq cST s0 s1 p0 p1 p2 z1
        generalize grow (redrawn w5 dq) osq = W at *
        go_wp2
        go_ret
        exact ⟨by rw [goodB_false (i := j) (by rw [HNN.out]; exact hlt) (HNG.out)]; rfl, HBF.out.trans (HBQ.out.mono (by omega))⟩
      | true =>
        by_cases hle : ll = l2
        · subst hle
          by_cases hbig : 2048 < ll
          · have HNG : Hid (¬ GoodAt p n L j) := fun e => by
              have h := e.2.2.1
              rw [HSJ.out] at h
              have h2 := HLL.out
              simp only at h
              omega
            have q1 : decide ((2048 : Int) < (ll : Int)) = true := decide_eq_true (by omega)
            refine wp_region_quiet_below (by kernel_rfl) (by kernel_rfl) ?_
            repeat (go_big_quiet_step (with_reducible exact cST _ _))
            refine wpQuiet_nil ?_
            intro _ hw'
            obtain ⟨⟨dq, osq⟩, hw''⟩ := hw'
            subst hw''
            have hbq := below_regrown w5 dq osq
            rw [HZA.out] at hbq
            have HBQ := Lib.hid hbq
            clear hbq cST s0 s1 p0 p1 p2 z1
            generalize grow (redrawn w5 dq) osq = W at *
            go_wp2
            go_ret
            exact ⟨by rw [goodB_false (i := j) (by rw [HNN.out]; exact hlt) (HNG.out)]; rfl, HBF.out.trans (HBQ.out.mono (by omega))⟩
          · have q1 : decide ((2048 : Int) < (ll : Int)) = false := decide_eq_false (by omega)
            refine wp_region_quiet_below (by kernel_rfl) (by kernel_rfl) ?_
            repeat (go_big_quiet_step (with_reducible exact cST _ _))
            refine wpQuiet_nil ?_
            intro _ hw'
            obtain ⟨⟨dq, osq⟩, hw''⟩ := hw'
            subst hw''
            have hbq := below_regrown w5 dq osq
            rw [HZA.out] at hbq
            have HBQ := Lib.hid hbq
            clear hbq cST s0 s1 p0 p1 p2 z1
            generalize grow (redrawn w5 dq) osq = W at *
            have HSW : Hid (Shares W (.slice (some ⟨b1, o1, none⟩) N d1) L) := (HSR.out.below (Nat.le_of_eq HGS.out) (HBA2.out.trans (HBQ.out.mono (Nat.le_succ _))))
            have HAW : Hid (ShAt W gs h (.slice va1 ll vc1)) := HSA.out.grown (grownBy_of_below HBQ.out (Nat.le_of_eq HZA.out)) (fun e => by cases e)
            have HZW : Hid (gs + 1 ≤ W.heap.size) := by have := HBQ.out.size; have := HZA.out; show _ ≤ _; omega
            have HM0 : Hid (∀ m, m < 0 → (L.getD m (0, [])).1 ≠ h) := fun m hm => by omega
            go_wp2_with fail
            have HGO : Hid ((∀ m, m < j → (L.getD m (0, [])).1 ≠ h) → GoodAt p n L j) := fun hm => by
              unfold GoodAt
              rw [HSJ.out, HS0.out]
              exact ⟨HSTB.out, by have h1 := HLL.out; have h2 := HL2.out; simp only; omega, by have h1 := HLL.out; simp only; omega, hm⟩
            have HNG : Hid (∀ m, m < j → (L.getD m (0, [])).1 = h → ¬ GoodAt p n L j) := fun m hm e1 e2 => by
              have h3 := e2.2.2.2 m hm
              rw [HSJ.out] at h3
              exact h3 e1
            have HBW : Hid (Below (g + 1) w1 W) := HBA.out.trans (HBQ.out.mono (by omega))
            have HQ0 : Hid (Below (gs + 1) W W) := Below.refl _ _
            clear HSTB HBF HBQ HZA HPR HSA HZ1' HI1 HBA HBA2 HSR HSJ HS0 HLL HL2 q1
            go_loopw [8, 41] (fun _ i wr => ∃ m : Nat, m ≤ j ∧ i = .int .i64 m ∧ Hid (∀ m', m' < m → (L.getD m' (0, [])).1 ≠ h) ∧ Hid (Below (gs + 1) W wr)) (fun _ i _ => j - (intOf i).toNat)
            case atStart => exact ⟨0, Nat.zero_le _, rfl, HM0, HQ0⟩
            case round =>
              obtain ⟨m, hm, rfl, HM, HQ⟩ := hrel
              have HBR : Hid (Below (g + 1) w1 wr) := HBW.out.trans (HQ.out.mono (by omega))
              by_cases hlt2 : m < j
              · obtain ⟨b3, o3, v3, he, c0, c1, hi3⟩ := (HS.out.below (Nat.le_of_eq HZ1.out) HBR.out).at (Nat.lt_trans hlt2 hlt)
                simp only [Option.some.injEq, Addr.mk.injEq, and_true] at he
                obtain ⟨rfl, rfl⟩ := he
                obtain ⟨⟨hm2, lm⟩, hsh⟩ : ∃ z, L.getD m (0, []) = z := ⟨_, rfl⟩
                have HSM := Lib.hid hsh
                rw [hsh] at c0 hi3
                simp only at c0 hi3
                obtain ⟨va3, vc3, rfl⟩ := hi3.shape
                obtain ⟨l3, hl3⟩ : ∃ l3, lm.length = l3 := ⟨_, rfl⟩
                rw [hl3] at c1
                have hal : Below wr.heap.size wr (wr.alloc (.cells #[.int .i64 hm2, .slice va3 l3 vc3] 42)) := (Below.refl _ _).alloc (Nat.le_refl _) _
                have hsa := shAt_new wr hm2 (.slice va3 l3 vc3) 42
                have t0 := hsa.c0
                have hgw : ShAt (wr.alloc (.cells #[.int .i64 hm2, .slice va3 l3 vc3] 42)) gs h (.slice va1 ll vc1) := (HAW.out.below HQ.out (Nat.lt_succ_self gs)).grown (World.grownBy_alloc _ _ none) (fun e => by cases e)
                have g0 := hgw.c0
                have HQA : Hid (Below (gs + 1) W (wr.alloc (.cells #[.int .i64 hm2, .slice va3 l3 vc3] 42))) := HQ.out.alloc (Nat.le_trans HZW.out HQ.out.size) _
                clear hal hsa hgw hi3 hsh hl3
                by_cases heq : hm2 = h
                · subst heq
                  have n1 : (hm2 == hm2) = true := by simp
                  have HNX : Hid (¬ GoodAt p n L j) := HNG.out m hlt2 (by rw [HSM.out])
                  have HBX : Hid (Below g w (wr.alloc (.cells #[.int .i64 hm2, .slice va3 l3 vc3] 42))) := HB1.out.trans ((HBW.out.trans (HQA.out.mono (by omega))).mono (by omega))
                  go_wp2
                  go_ret
                  exact ⟨by rw [goodB_false (i := j) (by rw [HNN.out]; exact hlt) (HNX.out)]; rfl, HBX.out⟩
                · have n1 : (hm2 == h) = false := by simp only [beq_eq_false_iff_ne]; exact heq
                  have HMX : Hid (∀ m', m' < m + 1 → (L.getD m' (0, [])).1 ≠ h) := fun m' hm' => by
                    by_cases e : m' = m
                    · subst e; rw [HSM.out]; exact heq
                    · exact HM.out m' (by omega)
                  clear heq
                  go_wp2
                  go_roundw
                  case rel => exact ⟨m + 1, by omega, by go_num, HMX, HQA⟩
                  case measure => simp [intOf]; omega
              · obtain rfl : m = j := by omega
                have HAN : Hid (∀ i, i < m + 1 → GoodAt p n L i) := fun i hi => by
                  by_cases e : i = m
                  · subst e; exact HGO.out HM.out
                  · exact HA.out i (by omega)
                go_wp2
                go_roundw
                case rel => exact ⟨m + 1, by omega, by go_num, HAN, HBR⟩
                case measure => simp [intOf]; omega
        · have HNG : Hid (¬ GoodAt p n L j) := fun e => by
            have h := e.2.1
            rw [HSJ.out, HS0.out] at h
            have h2 := HLL.out
            have h3 := HL2.out
            simp only at h
            omega
          have n1 : ((ll : Int) == (l2 : Int)) = false := by simp only [beq_eq_false_iff_ne]; omega
          have n2 : (ll == l2) = false := by simp only [beq_eq_false_iff_ne]; omega
          have n3 : ((ll : Int) != (l2 : Int)) = true := by simp only [bne_iff_ne]; omega
          refine wp_region_quiet_below (by kernel_rfl) (by kernel_rfl) ?_
          repeat (go_big_quiet_step (with_reducible exact cST _ _))
          refine wpQuiet_nil ?_
          intro _ hw'
          obtain ⟨⟨dq, osq⟩, hw''⟩ := hw'
          subst hw''
          have hbq := below_regrown w5 dq osq
          rw [HZA.out] at hbq
          have HBQ := Lib.hid hbq
          clear hbq cST s0 s1 p0 p1 p2 z1
          generalize grow (redrawn w5 dq) osq = W at *
          go_wp2
          go_ret
          exact ⟨by rw [goodB_false (i := j) (by rw [HNN.out]; exact hlt) (HNG.out)]; rfl, HBF.out.trans (HBQ.out.mono (by omega))⟩
    · obtain rfl : j = N := by omega
      have HR : Hid (goodB p n L = true) := goodB_true (fun i hi => HA.out i (by rw [← HNN.out]; exact hi))
      have HF : Hid (Below g w wr) := HB1.out.trans (HW.out.mono (by omega))
      go_wp2
      go_ret
      exact ⟨by rw [HR.out]; rfl, HF.out⟩
end Go.Proofs.YtpgbjnenllfmlaaGreatDoor
/-! The points of shares: the document's Points. -/
namespace Go.Proofs.YtpgbjnenllfmlaaGreatDoor
open Go.RowKit Go.Sort
open Num
set_option linter.unusedVariables false

/-- 'append(v, y)', v a slice of the call's own: where the new slice lies. -/
theorem run_append_gathB {W : World} {B : Nat} {v : Value} {zs : List Int} (hown : Gath W B v zs) (ad : Nat) (y : Int) (hc : W.cell? ⟨ad, 0, none⟩ = some (.int .i64 y)) (hlen : zs.length ≤ 1000000) (hB : B ≤ W.heap.size) (ty : TypeId) :
    ∃ v' W', (Builtin.append_ #[22, 22] ty #[v, .slice (some ⟨ad, 0, none⟩) 1 1]).run Tryz.prog W = .ok v' W' ∧ Gath W' B v' (zs ++ [y]) ∧ W.grownBy W' v.ownBlock ∧ (v'.ownBlock = v.ownBlock ∨ v'.ownBlock = some W.heap.size) := by
  obtain ⟨i0, hi, hz0, hz1, hz2⟩ := info_parts infoInt
  obtain ⟨v', W', h1, h2, h3, _, h5⟩ := run_append_own_at (P := Tryz.prog) W B 22 ty 3 i0 (.int .i64 0) 1 8 Tryz.underlying22 hi hz0 hz1 hz2 rfl (by decide) v zs.length (zs.map (Value.int .i64)) hown ⟨ad, 0, none⟩ 1 1 [.int .i64 y] rfl (by
    intro j u hj
    match j, hj with
    | 0, hj =>
      simp at hj; subst hj
      have e : (⟨ad, 0, none⟩ : Addr).add 0 = ⟨ad, 0, none⟩ := by unfold Addr.add; simp
      rw [e]; exact hc) (by intro u hu; simp at hu; subst hu; rfl) (by unfold maxLen; omega) (by omega) hB
  exact ⟨v', W', h1, by unfold Gath; simpa using h2, h3, h5⟩
/-- Two slices of the call's own, that lie apart. -/
structure TwoG (w0 : World) (g : Nat) (W : World) (vx vy : Value) (X Y : List Int) : Prop where
  gx : Gath W g vx X
  gy : Gath W g vy Y
  ne : ∀ q, vx.ownBlock = some q → vy.ownBlock ≠ some q
  be : Below g w0 W
  sz : g ≤ W.heap.size
theorem TwoG.below {w0 W W' : World} {g B : Nat} {vx vy : Value} {X Y : List Int} (h : TwoG w0 g W vx vy X Y) (b : Below B W W') (hB : W.heap.size ≤ B) : TwoG w0 g W' vx vy X Y :=
  ⟨h.gx.kept b hB, h.gy.kept b hB, h.ne, h.be.trans (b.mono (Nat.le_trans h.sz hB)), Nat.le_trans h.sz b.size⟩
theorem TwoG.alloc {w0 W : World} {g : Nat} {vx vy : Value} {X Y : List Int} (h : TwoG w0 g W vx vy X Y) (o : Obj) : TwoG w0 g (W.alloc o) vx vy X Y :=
  h.below ((Below.refl _ _).alloc (Nat.le_refl _) o) (Nat.le_refl _)
theorem gath_kept_row {w w' : World} {B : Nat} {v : Value} {zs : List Int} {row : Option Nat} (h : Gath w B v zs) (k : w.grownBy w' row) (hr : ∀ q, v.ownBlock = some q → row ≠ some q) : Gath w' B v zs :=
  World.ownsRow.kept h k (by
    cases e : v.ownBlock with
    | none => exact .inl rfl
    | some q => exact .inr (fun e2 => hr q e e2.symm))
theorem TwoG.appX {w0 W : World} {g : Nat} {vx vy : Value} {X Y : List Int} (h : TwoG w0 g W vx vy X Y) (hl : X.length ≤ 1000000) (ad : Nat) (y : Int) (hc : W.cell? ⟨ad, 0, none⟩ = some (.int .i64 y)) (ty : TypeId) :
    ∃ v' W', (Builtin.append_ #[22, 22] ty #[vx, .slice (some ⟨ad, 0, none⟩) 1 1]).run Tryz.prog W = .ok v' W' ∧ TwoG w0 g W' v' vy (X ++ [y]) Y ∧ W.grownBy W' vx.ownBlock ∧ (v'.ownBlock = vx.ownBlock ∨ v'.ownBlock = some W.heap.size) := by
  obtain ⟨v', W', h1, h2, h3, h4⟩ := run_append_gathB h.gx ad y hc hl h.sz ty
  refine ⟨v', W', h1, ⟨h2, gath_kept_row h.gy h3 (fun q hq e => h.ne q e hq), fun q hq e => ?_, h.be.grown h3 h.sz (fun k hk => (World.ownsRow.lt h.gx k hk).1), Nat.le_trans h.sz h3.size⟩, h3, h4⟩
  have hy := World.ownsRow.lt h.gy q e
  rcases h4 with h4 | h4
  · rw [h4] at hq; exact h.ne q hq e
  · rw [h4] at hq; simp at hq; omega
theorem TwoG.appY {w0 W : World} {g : Nat} {vx vy : Value} {X Y : List Int} (h : TwoG w0 g W vx vy X Y) (hl : Y.length ≤ 1000000) (ad : Nat) (y : Int) (hc : W.cell? ⟨ad, 0, none⟩ = some (.int .i64 y)) (ty : TypeId) :
    ∃ v' W', (Builtin.append_ #[22, 22] ty #[vy, .slice (some ⟨ad, 0, none⟩) 1 1]).run Tryz.prog W = .ok v' W' ∧ TwoG w0 g W' vx v' X (Y ++ [y]) ∧ W.grownBy W' vy.ownBlock ∧ (v'.ownBlock = vy.ownBlock ∨ v'.ownBlock = some W.heap.size) := by
  obtain ⟨v', W', h1, h2, h3, h4⟩ := run_append_gathB h.gy ad y hc hl h.sz ty
  refine ⟨v', W', h1, ⟨gath_kept_row h.gx h3 (fun q hq e => h.ne q hq e), h2, fun q hq e => ?_, h.be.grown h3 h.sz (fun k hk => (World.ownsRow.lt h.gy k hk).1), Nat.le_trans h.sz h3.size⟩, h3, h4⟩
  have hx := World.ownsRow.lt h.gx q hq
  rcases h4 with h4 | h4
  · rw [h4] at e; exact h.ne q hq e
  · rw [h4] at e; simp at e; omega
theorem cell_alloc_new (w : World) (x : Value) (t : TypeId) (k : Nat) (hk : w.heap.size = k) : (w.alloc (.cells #[x] t)).cell? ⟨k, 0, none⟩ = some x := by
  rw [← hk, cell_new]; rfl
theorem cell_alloc_old (w : World) (o : Obj) (a : Addr) (v : Value) (h : w.cell? a = some v) : (w.alloc o).cell? a = some v := by
  rw [((Below.refl w.heap.size w).alloc (Nat.le_refl _) o).cell (cell_lt h)]; exact h

/-- A region whose orders all end alike, but for two values and two places. -/
theorem region_oneQ {P : Program} {id : Nat} {ops : Array Oper} {d : Bool} {Q : Exit → Act → World → Prop} {a : Act} {w : World} (R : Value → Value → World → Prop) (A : Value → Value → Nat → Nat → Act) (hr : (Code.region id ops d).wp P (fun e a' W => e = .normal ∧ ∃ v x n m, a' = A v x n m ∧ R v x W) a w)
    (h : ∀ v x n m W, R v x W → Q .normal (A v x n m) W) : (Code.region id ops d).wp P Q a w :=
  Code.wp_mono (fun _ _ _ ⟨h1, v, x, n, m, h2, h3⟩ => by subst h1; subst h2; exact h v x n m _ h3) hr
set_option maxRecDepth 100000 in
set_option maxHeartbeats 4000000 in
theorem ref6_points (s : Value) (L : List Shr) (i : Nat) (w : World) (hs : Shares w s L) (hi : ∀ x ∈ L, i < x.2.length) (hi2 : i ≤ 140737488355328) :
    Calls Tryz.prog 41 #[s, .int .i64 i] w fun e w' => ∃ vx vy, e = .returned (.tuple #[vx, vy]) ∧ TwoG w w.heap.size w' vx vy (L.map (fun s : Shr => s.1)) (L.map fun s : Shr => s.2.getD i 0) := by
  obtain ⟨a1, d1, rfl, hl, hld1, hd1, _⟩ := id hs
  obtain ⟨N, hN⟩ : ∃ N, L.length = N := ⟨_, rfl⟩
  rw [hN] at hs hl hld1 ⊢
  obtain ⟨g, hg⟩ : ∃ g, w.heap.size = g := ⟨_, rfl⟩
  have HGG := Lib.hid hg
  have HNN := Lib.hid hN
  have HS := Lib.hid hs
  have HI := Lib.hid (fun k (hk : k < N) => hi (L.getD k (0, [])) (by rw [List.getD_eq_getElem?_getD, List.getElem?_eq_getElem (by omega)]; exact List.getElem_mem _))
  have HT0 : Hid (TwoG w g w (.slice none 0 0) (.slice none 0 0) ((L.take 0).map (fun s : Shr => s.1)) ((L.take 0).map fun s : Shr => s.2.getD i 0)) := by
    rw [List.take_zero]
    exact ⟨gath_nil _ _, gath_nil _ _, fun q (hq : none = some q) => (by cases hq), Below.refl _ _, Nat.le_of_eq hg.symm⟩
  rw [hg]
  clear hs hg hN hi
  go_enter Tryz.func41, Tryz.ntmps41
  go_wp2_with fail
  go_loopw [6, 7, 9, 12] (fun vx vy _ c wr => ∃ k : Nat, k ≤ N ∧ c = .int .i64 k ∧ Hid (TwoG w g wr vx vy ((L.take k).map (fun s : Shr => s.1)) ((L.take k).map fun s : Shr => s.2.getD i 0))) (fun _ _ _ c _ => N - (intOf c).toNat)
  case atStart => exact ⟨0, Nat.zero_le _, rfl, HT0⟩
  case round =>
    obtain ⟨k, hk, rfl, HT⟩ := hrel
    by_cases hlt : k < N
    · obtain ⟨b1, o1, v1, rfl, c0w, c1w, hiw⟩ := HS.out.at hlt
      have hb1 := cell_lt c0w
      rw [HGG.out] at hb1
      have c0 : wr.cell? ⟨b1, o1 + k * 2, none⟩ = some (.int .i64 (L.getD k (0, [])).1) := by rw [HT.out.be.cell (p := ⟨b1, o1 + k * 2, none⟩) hb1]; exact c0w
      have c1 : wr.cell? ⟨b1, o1 + k * 2 + 1, none⟩ = some v1 := by rw [HT.out.be.cell (p := ⟨b1, o1 + k * 2 + 1, none⟩) hb1]; exact c1w
      have hi1 := hiw.below (Nat.le_of_eq HGG.out) HT.out.be
      clear c0w c1w hb1
      have HTK := Lib.hid (take_snocS (L := L) (k := k) (by have := HNN.out; omega))
      have hib := HI.out k hlt
      obtain ⟨⟨h, l⟩, hsh⟩ : ∃ z, L.getD k (0, []) = z := ⟨_, rfl⟩
      rw [hsh] at c0 hi1 hiw HTK hib
      simp only at c0 hi1 hiw hib
      obtain ⟨va1, vc1, rfl⟩ := hi1.shape
      obtain ⟨ll, hll⟩ : ∃ ll, l.length = ll := ⟨_, rfl⟩
      rw [hll] at c1 hi1 hiw hib
      obtain ⟨bv, ov, rfl, cv⟩ := hi1.pos hib
      obtain ⟨_, _, he, cvw⟩ := hiw.pos hib
      simp only [Option.some.injEq, Addr.mk.injEq, and_true] at he
      obtain ⟨rfl, rfl⟩ := he
      have hbv := cell_lt cvw
      rw [HGG.out] at hbv
      have HBV := Lib.hid hbv
      clear cvw hiw hbv
      obtain ⟨y, hy⟩ : ∃ y, l.getD i 0 = y := ⟨_, rfl⟩
      rw [hy] at cv
      have HYY := Lib.hid hy
      obtain ⟨gs, hgs⟩ : ∃ gs, wr.heap.size = gs := ⟨_, rfl⟩
      have hsa := shAt_new wr h (.slice (some ⟨bv, ov, none⟩) ll vc1) 42
      rw [hgs] at hsa
      have HSA := Lib.hid hsa
      have HTA := Lib.hid (HT.out.alloc (.cells #[.int .i64 h, .slice (some ⟨bv, ov, none⟩) ll vc1] 42))
      have cva := cell_alloc_old wr (.cells #[.int .i64 h, .slice (some ⟨bv, ov, none⟩) ll vc1] 42) _ _ cv
      have hza : (wr.alloc (.cells #[.int .i64 h, .slice (some ⟨bv, ov, none⟩) ll vc1] 42)).heap.size = gs + 1 := by rw [← hgs]; simp
      have hvx := Lib.hid (fun q (hq : u6.ownBlock = some q) => World.ownsRow.lt HT.out.gx q hq)
      have hvy := Lib.hid (fun q (hq : u7.ownBlock = some q) => World.ownsRow.lt HT.out.gy q hq)
      clear hi1 hsh hsa hll hy cv HT
      go_wp2_with fail
      clear c0 c1
      have HGS := Lib.hid hgs
      clear hgs
      generalize wr.alloc (.cells #[.int .i64 h, .slice (some ⟨bv, ov, none⟩) ll vc1] 42) = w5 at *
      have s0 := HSA.out.c0
      have s1 := HSA.out.c1
      have HZA := Lib.hid hza
      have HTD : Hid (TwoG w g w5.drew u6 u7 ((L.take k).map (fun s : Shr => s.1)) ((L.take k).map fun s : Shr => s.2.getD i 0)) := HTA.out.below ((Below.refl _ _).drew) (Nat.le_refl _)
      have HZD : Hid (w5.drew.heap.size = gs + 1) := hza
      have HKL : Hid ((L.take k).length = k) := by show _ = _; rw [List.length_take]; have := HNN.out; omega
      have HX : Hid (∀ (W : World) (ad : Nat), TwoG w g W u6 u7 ((L.take k).map (fun s : Shr => s.1)) ((L.take k).map fun s : Shr => s.2.getD i 0) → (W.cell? ⟨gs, 0, none⟩ = some (.int .i64 h) ∧ W.cell? ⟨gs, 1, none⟩ = some (.slice (some ⟨bv, ov, none⟩) ll vc1) ∧ W.cell? ⟨bv, ov + i, none⟩ = some (.int .i64 y)) → W.cell? ⟨ad, 0, none⟩ = some (.int .i64 h) →
          ∃ v' W', (Builtin.append_ #[22, 22] 22 #[u6, .slice (some ⟨ad, 0, none⟩) 1 1]).run Tryz.prog W = .ok v' W' ∧ (TwoG w g W' v' u7 ((L.take (k + 1)).map (fun s : Shr => s.1)) ((L.take k).map fun s : Shr => s.2.getD i 0) ∧ (W'.cell? ⟨gs, 0, none⟩ = some (.int .i64 h) ∧ W'.cell? ⟨gs, 1, none⟩ = some (.slice (some ⟨bv, ov, none⟩) ll vc1) ∧ W'.cell? ⟨bv, ov + i, none⟩ = some (.int .i64 y)) ∧ ∀ q v, gs ≤ q → W.cell? ⟨q, 0, none⟩ = some v → W'.cell? ⟨q, 0, none⟩ = some v)) := by
        intro W ad ht ⟨f0, f1, f2⟩ hc
        obtain ⟨v', W', h1, h2, h3, _⟩ := ht.appX (by rw [List.length_map, HKL.out]; omega) ad h hc 22
        rw [← List.map_singleton (f := fun s : Shr => s.1) (a := (h, l)), ← List.map_append, HTK.out] at h2
        have hold : ∀ a v, u6.ownBlock ≠ some a.block → W.cell? a = some v → W'.cell? a = some v := fun a v hne hcc => by
          rw [World.cell?_of_block (h3.block a.block (cell_lt hcc) (fun e => hne e.symm))]; exact hcc
        have hge : ∀ q, gs ≤ q → u6.ownBlock ≠ some q := fun q hq e => by have := (hvx.out q e).2; have := HGS.out; omega
        refine ⟨v', W', h1, h2, ⟨hold _ _ (hge gs (Nat.le_refl _)) f0, hold _ _ (hge gs (Nat.le_refl _)) f1, hold _ _ (fun e => ?_) f2⟩, fun q v hq hcc => hold _ _ (hge q hq) hcc⟩
        have h5 := (hvx.out _ e).1
        have h6 := HBV.out
        simp only at h5
        omega
      have HY : Hid (∀ (W : World) (ad : Nat) (v : Value), TwoG w g W v u7 ((L.take (k + 1)).map (fun s : Shr => s.1)) ((L.take k).map fun s : Shr => s.2.getD i 0) → (W.cell? ⟨gs, 0, none⟩ = some (.int .i64 h) ∧ W.cell? ⟨gs, 1, none⟩ = some (.slice (some ⟨bv, ov, none⟩) ll vc1) ∧ W.cell? ⟨bv, ov + i, none⟩ = some (.int .i64 y)) → W.cell? ⟨ad, 0, none⟩ = some (.int .i64 y) →
          ∃ v' W', (Builtin.append_ #[22, 22] 22 #[u7, .slice (some ⟨ad, 0, none⟩) 1 1]).run Tryz.prog W = .ok v' W' ∧ (TwoG w g W' v v' ((L.take (k + 1)).map (fun s : Shr => s.1)) ((L.take (k + 1)).map fun s : Shr => s.2.getD i 0) ∧ (W'.cell? ⟨gs, 0, none⟩ = some (.int .i64 h) ∧ W'.cell? ⟨gs, 1, none⟩ = some (.slice (some ⟨bv, ov, none⟩) ll vc1) ∧ W'.cell? ⟨bv, ov + i, none⟩ = some (.int .i64 y)))) := by
        intro W ad v ht ⟨f0, f1, f2⟩ hc
        obtain ⟨v', W', h1, h2, h3, _⟩ := ht.appY (by rw [List.length_map, HKL.out]; omega) ad y hc 22
        have e1 : ((L.take k).map fun s : Shr => s.2.getD i 0) ++ [y] = (L.take (k + 1)).map fun s : Shr => s.2.getD i 0 := by
          rw [← HTK.out, List.map_append, List.map_singleton, HYY.out]
        rw [e1] at h2
        have hold : ∀ a v, u7.ownBlock ≠ some a.block → W.cell? a = some v → W'.cell? a = some v := fun a v hne hcc => by
          rw [World.cell?_of_block (h3.block a.block (cell_lt hcc) (fun e => hne e.symm))]; exact hcc
        have hge : ∀ q, gs ≤ q → u7.ownBlock ≠ some q := fun q hq e => by have := (hvy.out q e).2; have := HGS.out; omega
        refine ⟨v', W', h1, h2, hold _ _ (hge gs (Nat.le_refl _)) f0, hold _ _ (hge gs (Nat.le_refl _)) f1, hold _ _ (fun e => ?_) f2⟩
        have h5 := (hvy.out _ e).1
        have h6 := HBV.out
        simp only at h5
        omega
      obtain ⟨RX, HX1, HX2⟩ : ∃ RX : World → Value → World → Prop, Hid (∀ (W : World) (ad : Nat), TwoG w g W u6 u7 ((L.take k).map (fun s : Shr => s.1)) ((L.take k).map fun s : Shr => s.2.getD i 0) → (W.cell? ⟨gs, 0, none⟩ = some (.int .i64 h) ∧ W.cell? ⟨gs, 1, none⟩ = some (.slice (some ⟨bv, ov, none⟩) ll vc1) ∧ W.cell? ⟨bv, ov + i, none⟩ = some (.int .i64 y)) → W.cell? ⟨ad, 0, none⟩ = some (.int .i64 h) → ∃ v' W', (Builtin.append_ #[22, 22] 22 #[u6, .slice (some ⟨ad, 0, none⟩) 1 1]).run Tryz.prog W = .ok v' W' ∧ RX W v' W') ∧
          Hid (∀ W v' W', RX W v' W' → (TwoG w g W' v' u7 ((L.take (k + 1)).map (fun s : Shr => s.1)) ((L.take k).map fun s : Shr => s.2.getD i 0) ∧ (W'.cell? ⟨gs, 0, none⟩ = some (.int .i64 h) ∧ W'.cell? ⟨gs, 1, none⟩ = some (.slice (some ⟨bv, ov, none⟩) ll vc1) ∧ W'.cell? ⟨bv, ov + i, none⟩ = some (.int .i64 y)) ∧ ∀ q v, gs ≤ q → W.cell? ⟨q, 0, none⟩ = some v → W'.cell? ⟨q, 0, none⟩ = some v)) := ⟨fun W v' W' => (TwoG w g W' v' u7 ((L.take (k + 1)).map (fun s : Shr => s.1)) ((L.take k).map fun s : Shr => s.2.getD i 0) ∧ (W'.cell? ⟨gs, 0, none⟩ = some (.int .i64 h) ∧ W'.cell? ⟨gs, 1, none⟩ = some (.slice (some ⟨bv, ov, none⟩) ll vc1) ∧ W'.cell? ⟨bv, ov + i, none⟩ = some (.int .i64 y)) ∧ ∀ q v, gs ≤ q → W.cell? ⟨q, 0, none⟩ = some v → W'.cell? ⟨q, 0, none⟩ = some v), fun W ad a b c => HX.out W ad a b c, fun _ _ _ h => h⟩
      obtain ⟨RY, HY1, HY2⟩ : ∃ RY : Value → Value → World → Prop, Hid (∀ (W : World) (ad : Nat) (v : Value), TwoG w g W v u7 ((L.take (k + 1)).map (fun s : Shr => s.1)) ((L.take k).map fun s : Shr => s.2.getD i 0) → (W.cell? ⟨gs, 0, none⟩ = some (.int .i64 h) ∧ W.cell? ⟨gs, 1, none⟩ = some (.slice (some ⟨bv, ov, none⟩) ll vc1) ∧ W.cell? ⟨bv, ov + i, none⟩ = some (.int .i64 y)) → W.cell? ⟨ad, 0, none⟩ = some (.int .i64 y) → ∃ v' W', (Builtin.append_ #[22, 22] 22 #[u7, .slice (some ⟨ad, 0, none⟩) 1 1]).run Tryz.prog W = .ok v' W' ∧ RY v v' W') ∧
          Hid (∀ v v' W', RY v v' W' → (TwoG w g W' v v' ((L.take (k + 1)).map (fun s : Shr => s.1)) ((L.take (k + 1)).map fun s : Shr => s.2.getD i 0) ∧ (W'.cell? ⟨gs, 0, none⟩ = some (.int .i64 h) ∧ W'.cell? ⟨gs, 1, none⟩ = some (.slice (some ⟨bv, ov, none⟩) ll vc1) ∧ W'.cell? ⟨bv, ov + i, none⟩ = some (.int .i64 y)))) := ⟨fun v v' W' => (TwoG w g W' v v' ((L.take (k + 1)).map (fun s : Shr => s.1)) ((L.take (k + 1)).map fun s : Shr => s.2.getD i 0) ∧ (W'.cell? ⟨gs, 0, none⟩ = some (.int .i64 h) ∧ W'.cell? ⟨gs, 1, none⟩ = some (.slice (some ⟨bv, ov, none⟩) ll vc1) ∧ W'.cell? ⟨bv, ov + i, none⟩ = some (.int .i64 y))), fun W ad v a b c => HY.out W ad v a b c, fun _ _ _ h => h⟩
      clear HX HY
      have HST : Hid (∀ W : World, (W.cell? ⟨gs, 0, none⟩ = some (.int .i64 h) ∧ W.cell? ⟨gs, 1, none⟩ = some (.slice (some ⟨bv, ov, none⟩) ll vc1) ∧ W.cell? ⟨bv, ov + i, none⟩ = some (.int .i64 y)) → ∀ o : Obj, ((W.alloc o).cell? ⟨gs, 0, none⟩ = some (.int .i64 h) ∧ (W.alloc o).cell? ⟨gs, 1, none⟩ = some (.slice (some ⟨bv, ov, none⟩) ll vc1) ∧ (W.alloc o).cell? ⟨bv, ov + i, none⟩ = some (.int .i64 y))) := fun W hW o => ⟨cell_alloc_old _ _ _ _ hW.1, cell_alloc_old _ _ _ _ hW.2.1, cell_alloc_old _ _ _ _ hW.2.2⟩
      have HXa : Hid (∃ v' W', (Builtin.append_ #[22, 22] 22 #[u6, .slice (some ⟨w5.heap.size, 0, none⟩) 1 1]).run Tryz.prog ((w5.alloc (.cells #[.int .i64 h] 3)).drew) = .ok v' W' ∧ RX ((w5.alloc (.cells #[.int .i64 h] 3)).drew) v' W') := (HX1.out (w5.alloc (.cells #[.int .i64 h] 3)).drew w5.heap.size (HTA.out.alloc _ |>.below (Below.refl _ _).drew (Nat.le_refl _)) (HST.out w5 ⟨s0, s1, cva⟩ _) (cell_alloc_new _ _ _ _ rfl))
      have HXb : Hid (∃ v' W', (Builtin.append_ #[22, 22] 22 #[u6, .slice (some ⟨w5.heap.size, 0, none⟩) 1 1]).run Tryz.prog (((w5.alloc (.cells #[.int .i64 h] 3)).alloc (.cells #[.int .i64 y] 3)).drew) = .ok v' W' ∧ RX (((w5.alloc (.cells #[.int .i64 h] 3)).alloc (.cells #[.int .i64 y] 3)).drew) v' W') := (HX1.out ((w5.alloc (.cells #[.int .i64 h] 3)).alloc (.cells #[.int .i64 y] 3)).drew w5.heap.size ((HTA.out.alloc _).alloc _ |>.below (Below.refl _ _).drew (Nat.le_refl _)) (HST.out _ (HST.out w5 ⟨s0, s1, cva⟩ _) _) (cell_alloc_old _ _ _ _ (cell_alloc_new _ _ _ _ rfl)))
      have HXc : Hid (∃ v' W', (Builtin.append_ #[22, 22] 22 #[u6, .slice (some ⟨w5.heap.size + 1, 0, none⟩) 1 1]).run Tryz.prog (((w5.alloc (.cells #[.int .i64 y] 3)).alloc (.cells #[.int .i64 h] 3)).drew) = .ok v' W' ∧ RX (((w5.alloc (.cells #[.int .i64 y] 3)).alloc (.cells #[.int .i64 h] 3)).drew) v' W') := (HX1.out ((w5.alloc (.cells #[.int .i64 y] 3)).alloc (.cells #[.int .i64 h] 3)).drew (w5.heap.size + 1) ((HTA.out.alloc _).alloc _ |>.below (Below.refl _ _).drew (Nat.le_refl _)) (HST.out _ (HST.out w5 ⟨s0, s1, cva⟩ _) _) (cell_alloc_new _ _ _ _ (by simp)))
      have HYa : Hid (∀ (v : Value) (W : World), TwoG w g W v u7 ((L.take (k + 1)).map (fun s : Shr => s.1)) ((L.take k).map fun s : Shr => s.2.getD i 0) → (W.cell? ⟨gs, 0, none⟩ = some (.int .i64 h) ∧ W.cell? ⟨gs, 1, none⟩ = some (.slice (some ⟨bv, ov, none⟩) ll vc1) ∧ W.cell? ⟨bv, ov + i, none⟩ = some (.int .i64 y)) → ∃ v' W', (Builtin.append_ #[22, 22] 22 #[u7, .slice (some ⟨W.heap.size, 0, none⟩) 1 1]).run Tryz.prog (W.alloc (.cells #[.int .i64 y] 3)) = .ok v' W' ∧ RY v v' W') := fun v W ht hS => HY1.out _ _ v (ht.alloc _) (HST.out _ hS _) (cell_alloc_new _ _ _ _ rfl)
      have HCB : Hid (((w5.alloc (.cells #[.int .i64 h] 3)).alloc (.cells #[.int .i64 y] 3)).drew.cell? ⟨w5.heap.size + 1, 0, none⟩ = some (.int .i64 y)) := cell_alloc_new _ _ _ _ (by simp)
      have HCC : Hid (((w5.alloc (.cells #[.int .i64 y] 3)).alloc (.cells #[.int .i64 h] 3)).drew.cell? ⟨w5.heap.size, 0, none⟩ = some (.int .i64 y)) := cell_alloc_old _ _ _ _ (cell_alloc_new _ _ _ _ rfl)
      have HS0 := Lib.hid s0
      have HS1 := Lib.hid s1
      have HCV := Lib.hid cva
      clear hza
      apply region_oneQ (fun vx vy W => Hid (TwoG w g W vx vy ((L.take (k + 1)).map (fun s : Shr => s.1)) ((L.take (k + 1)).map fun s : Shr => s.2.getD i 0)))
      case hr =>
        refine wp_region_noPanic ?_
        go_region_held3 (fun W' => W'.cell? ⟨gs, 0, none⟩ = some (.int .i64 h) ∧ W'.cell? ⟨gs, 1, none⟩ = some (.slice (some ⟨bv, ov, none⟩) ll vc1) ∧ W'.cell? ⟨bv, ov + i, none⟩ = some (.int .i64 y)) (first | go_keep | exact HSK)
          (first
            | (refine step_appendV rfl _ _ _ _ rfl u6 (.slice (some ⟨w5.heap.size, 0, none⟩) 1 1) rfl rfl (RX ((w5.alloc (.cells #[.int .i64 h] 3)).drew)) ?_ ?_; (with_reducible exact HXa.out); rintro v' W' hr; obtain ⟨h1, h2, _⟩ := HX2.out _ _ _ hr; have HSK := h2; have H1 := Lib.hid h1; clear h1 h2 hr)
            | (refine step_appendV rfl _ _ _ _ rfl u6 (.slice (some ⟨w5.heap.size, 0, none⟩) 1 1) rfl rfl (RX (((w5.alloc (.cells #[.int .i64 h] 3)).alloc (.cells #[.int .i64 y] 3)).drew)) ?_ ?_; (with_reducible exact HXb.out); rintro v' W' hr; obtain ⟨h1, h2, h3⟩ := HX2.out _ _ _ hr; have HSK := h2; have H1 := Lib.hid h1; have HC := Lib.hid (h3 _ _ (by have h6 := HZA.out; omega) HCB.out); clear h1 h2 h3 hr)
            | (refine step_appendV rfl _ _ _ _ rfl u6 (.slice (some ⟨w5.heap.size + 1, 0, none⟩) 1 1) rfl rfl (RX (((w5.alloc (.cells #[.int .i64 y] 3)).alloc (.cells #[.int .i64 h] 3)).drew)) ?_ ?_; (with_reducible exact HXc.out); rintro v' W' hr; obtain ⟨h1, h2, h3⟩ := HX2.out _ _ _ hr; have HSK := h2; have H1 := Lib.hid h1; have HC := Lib.hid (h3 _ _ (by have h6 := HZA.out; omega) HCC.out); clear h1 h2 h3 hr)
            | (refine step_appendV rfl _ _ _ _ rfl u7 (.slice (some ⟨W'.heap.size, 0, none⟩) 1 1) rfl rfl (RY v') ?_ ?_; (with_reducible exact HYa.out _ _ H1.out HSK); rintro v'' W'' hr; obtain ⟨h4, h5⟩ := HY2.out _ _ _ hr; have HSK := h5; have H4 := Lib.hid h4; clear h4 h5 hr)
            | (refine step_appendV rfl _ _ _ _ rfl u7 (.slice (some ⟨w5.heap.size + 1, 0, none⟩) 1 1) rfl rfl (RY v') ?_ ?_; (with_reducible exact HY1.out _ _ _ H1.out HSK HC.out); rintro v'' W'' hr; obtain ⟨h4, h5⟩ := HY2.out _ _ _ hr; have HSK := h5; have H4 := Lib.hid h4; clear h4 h5 hr)
            | (refine step_appendV rfl _ _ _ _ rfl u7 (.slice (some ⟨w5.heap.size, 0, none⟩) 1 1) rfl rfl (RY v') ?_ ?_; (with_reducible exact HY1.out _ _ _ H1.out HSK HC.out); rintro v'' W'' hr; obtain ⟨h4, h5⟩ := HY2.out _ _ _ hr; have HSK := h5; have H4 := Lib.hid h4; clear h4 h5 hr))
        all_goals
          refine NoPanic.normal ?_
          obtain ⟨n1, hn1⟩ : ∃ n, w5.heap.size + 1 = n := ⟨_, rfl⟩
          obtain ⟨n0, hn0⟩ : ∃ n, w5.heap.size = n := ⟨_, rfl⟩
          obtain ⟨n2, hn2⟩ : ∃ n, W'.heap.size = n := ⟨_, rfl⟩
          try rw [hn1]
          try rw [hn0]
          try rw [hn2]
          first
            | exact ⟨rfl, v', v'', n0, n1, rfl, H4⟩
            | exact ⟨rfl, v', v'', n1, n0, rfl, H4⟩
            | exact ⟨rfl, v', v'', n0, n2, rfl, H4⟩
      rintro vx vy nx ny W H4
      clear HX1 HX2 HY1 HY2 HXa HXb HXc HYa HCB HCC HST HTD HTA HTK s0 s1 cva HS0 HS1 HCV HSA
      go_wp2
      go_roundw
      case rel => exact ⟨k + 1, by omega, by go_num, H4⟩
      case measure => simp [intOf]; omega
    · obtain rfl : k = N := by omega
      have HF : Hid (TwoG w g wr u6 u7 (L.map (fun s : Shr => s.1)) (L.map fun s : Shr => s.2.getD i 0)) := by have h := HT.out; rw [List.take_of_length_le (by have := HNN.out; omega)] at h; exact h
      go_wp2
      go_ret2
      exact ⟨_, _, rfl, HF.out⟩
end Go.Proofs.YtpgbjnenllfmlaaGreatDoor
/-! Shares combined: the document's Combine. -/
namespace Go.Proofs.YtpgbjnenllfmlaaGreatDoor
open Go.RowKit Go.Sort
open Num
set_option linter.unusedVariables false

theorem wsum_ipv (p : Int) (xs ys : List Int) (x : Int) (n : Nat) (h : n = xs.length) : wsum p xs ys x n % p = ipv p xs ys x := by
  subst h; rfl
theorem goodB_gd {p n : Int} {N m : Nat} {L : List Shr} (hn : n = (N : Int)) (h : goodB p n L = true) (hm : (L.getD 0 (0, [])).2.length = m) : Gd p N m L := by
  have hg := goodB_parts h
  have hat : ∀ s ∈ L, ∃ i, i < L.length ∧ L.getD i (0, []) = s := fun s hs => by
    obtain ⟨i, hi, e⟩ := List.mem_iff_getElem.1 hs
    exact ⟨i, hi, by rw [List.getD_eq_getElem?_getD, List.getElem?_eq_getElem hi]; exact e⟩
  refine ⟨fun s hs => ?_, fun s hs => ?_, fun s hs => ?_, ?_⟩
  · obtain ⟨i, hi, rfl⟩ := hat s hs
    have h1 := (hg i hi).1
    unfold stB at h1
    simp only [Bool.and_eq_true, decide_eq_true_eq] at h1
    rw [← hn]
    exact h1.1
  · obtain ⟨i, hi, rfl⟩ := hat s hs
    have h1 := (hg i hi).1
    unfold stB at h1
    simp only [Bool.and_eq_true, decide_eq_true_eq] at h1
    exact els_of_elB h1.2
  · obtain ⟨i, hi, rfl⟩ := hat s hs
    rw [(hg i hi).2.1, hm]
  · rw [List.nodup_iff_pairwise_ne, List.pairwise_iff_getElem]
    intro i j hi hj hij
    rw [List.length_map] at hi hj
    have h1 := (hg j hj).2.2.2 i hij
    rw [List.getElem_map, List.getElem_map]
    simp only [List.getD_eq_getElem?_getD, List.getElem?_eq_getElem hi, List.getElem?_eq_getElem hj, Option.getD_some] at h1
    exact h1
theorem goodB_big {p n : Int} {L : List Shr} (h : goodB p n L = true) (h0 : 0 < L.length) : (L.getD 0 (0, [])).2.length ≤ 2048 := (goodB_parts h 0 h0).2.2.1
/-- The values at place i of good shares are elements. -/
theorem gd_ys {p : Int} {N m : Nat} {L : List Shr} (hp : 1 ≤ p) (h : Gd p N m L) (i : Nat) : Els p (L.map fun s : Shr => s.2.getD i 0) := fun x hx => by
  obtain ⟨s, hs, rfl⟩ := List.mem_map.1 hx
  exact els_getD hp (h.els s hs) i
/-- The error of Combine, and what it returns. -/
noncomputable def combE (p k n : Int) (L : List Shr) : Int := if planB p k n = true ∧ goodB p n L = true then (if (L.length : Int) < k then 5 else 0) else 1
noncomputable def combL (p k n : Int) (L : List Shr) : List Int := if combE p k n L = 0 then cmbV p k.toNat L else []
/-- The values up to place i. -/
def cmbTo (p : Int) (K : Nat) (L : List Shr) (i : Nat) : List Int := (List.range i).map fun j => shV p K L j 0
theorem cmbTo_succ (p : Int) (K : Nat) (L : List Shr) (i : Nat) : cmbTo p K L (i + 1) = cmbTo p K L i ++ [shV p K L i 0] := by simp [cmbTo, List.range_succ]
theorem cmbTo_len (p : Int) (K : Nat) (L : List Shr) (i : Nat) : (cmbTo p K L i).length = i := by simp [cmbTo]
/-- A part of a list of shares. -/
theorem Shares.take {w : World} {a : Option Addr} {n c : Nat} {L : List Shr} (h : Shares w (.slice a n c) L) (k c' : Nat) (hk : k ≤ n) (hc : k ≤ c') (hc2 : c' ≤ 9223372036854775807) : Shares w (.slice a k c') (L.take k) := by
  obtain ⟨a', c2, hv, h1, h2, h3, hx⟩ := h
  simp only [Value.slice.injEq] at hv
  obtain ⟨rfl, rfl, rfl⟩ := hv
  have hl : (L.take k).length = k := by rw [List.length_take]; omega
  refine ⟨a, c', by rw [hl], by omega, by omega, hc2, fun hne => ?_⟩
  have h0 : 0 < k := by rw [← hl]; exact List.length_pos_iff.2 hne
  obtain ⟨b, off, e, hcell⟩ := hx (fun e => by subst e; simp at hk; omega)
  refine ⟨b, off, e, fun i hi => ?_⟩
  rw [hl] at hi
  have e3 : (L.take k).getD i (0, []) = L.getD i (0, []) := by simp [List.getD, hi]
  rw [e3]
  exact hcell i (by omega)
end Go.Proofs.YtpgbjnenllfmlaaGreatDoor
/-! Shares combined: the document's Combine, with its errors. -/
namespace Go.Proofs.YtpgbjnenllfmlaaGreatDoor
open Go.RowKit Go.Sort
open Num
set_option linter.unusedVariables false

end Go.Proofs.YtpgbjnenllfmlaaGreatDoor
/-! Which shares fit: the document's Fits. -/
namespace Go.Proofs.YtpgbjnenllfmlaaGreatDoor
open Go.RowKit Go.Sort
open Num
set_option linter.unusedVariables false

noncomputable def fitB (p k n : Int) (L : List Shr) : Bool := @decide (planB p k n = true ∧ goodB p n L = true ∧ ((L.length : Int) ≤ k ∨ FitsP p k.toNat L)) (Classical.propDecidable _)
theorem fitB_true {p k n : Int} {L : List Shr} (h1 : planB p k n = true) (h2 : goodB p n L = true) (h3 : (L.length : Int) ≤ k ∨ FitsP p k.toNat L) : fitB p k n L = true := by
  unfold fitB
  exact @decide_eq_true _ (Classical.propDecidable _) ⟨h1, h2, h3⟩
theorem fitB_false {p k n : Int} {L : List Shr} (h : ¬ (planB p k n = true ∧ goodB p n L = true ∧ ((L.length : Int) ≤ k ∨ FitsP p k.toNat L))) : fitB p k n L = false := by
  unfold fitB
  exact @decide_eq_false _ (Classical.propDecidable _) h
/-- What is asked of place i, up to share j. -/
def FitAt (p : Int) (K : Nat) (L : List Shr) (i j : Nat) : Prop := shV p K L i (L.getD j (0, [])).1 = (L.getD j (0, [])).2.getD i 0

end Go.Proofs.YtpgbjnenllfmlaaGreatDoor
