
/- The document's Deal: the values of the shares lie apart from each other. -/
import Derived.Test.YtpgbjnenllfmlaaGreatDoorHOdS
import Derived.Test.YtpgbjnenllfmlaaGreatDoorWts
namespace Go.Proofs.YtpgbjnenllfmlaaGreatDoor
open Go.RowKit
open Num
set_option linter.unusedVariables false

theorem GathT.mono {w : World} {B B' lim : Nat} {v : Value} {L : List Shr} (h : GathT w B lim v L) (hB : B' ≤ B) : GathT w B' lim v L := by
  obtain ⟨Z, h1, h2, h3, h4⟩ := h
  refine ⟨Z, h1, ?_, fun i hi => ⟨(h3 i hi).1, (h3 i hi).2.1.mono hB, (h3 i hi).2.2⟩, h4⟩
  obtain ⟨h0, hn | ⟨g, cap, cur, hv, hb, hr⟩⟩ := h2
  · exact ⟨h0, .inl hn⟩
  · exact ⟨h0, .inr ⟨g, cap, cur, hv, Nat.le_trans hB hb, hr⟩⟩
section
variable {ops : Array Oper} {rest : List Oper} {o : Oper} {a : Act} {Q : Exit → Act → World → Prop}
/-- 'append(l, s)', l a list of shares of the call's own, whose values lie apart. -/
theorem appendT_one (w : World) (hgd : o.guard = none) (s x : Operand) (ho : o.op = .call { callee := .builtin .append, args := #[s, x], argTypes := #[23, 23] })
    (base lim : Nat) (v : Value) (L : List Shr) (hd : Int) (gv : Value) (l : List Int) (hs : a.eval s = v) (hown : GathT w base lim v L) (ad : Nat) (hx : a.eval x = .slice (some ⟨ad, 0, none⟩) 1 1) (hc0 : w.cell? ⟨ad, 0, none⟩ = some (.int .i64 hd)) (hc1 : w.cell? ⟨ad, 1, none⟩ = some gv)
    (hS : Gath w base gv l) (hblk : ∀ g, gv.ownBlock = some g → lim ≤ g ∧ v.ownBlock ≠ some g) (hlen : L.length < 1000) (hbase : base ≤ w.heap.size)
    (h : ∀ v' w', GathT w' base w'.heap.size v' (L ++ [(hd, l)]) → w.grownBy w' v.ownBlock → (v'.ownBlock = v.ownBlock ∨ v'.ownBlock = some w.heap.size) → wpList Tryz.prog ops Q rest (a.put o.dst v') w') : wpList Tryz.prog ops Q (o :: rest) a w := by
  obtain ⟨v', w', hr, h2, h3, h4⟩ := run_appendT hown ad hd gv l hc0 hc1 hS hblk hlen hbase o.type
  refine wpList_plain hgd fun K hK => ?_
  unfold Oper.wp execOp
  simp only [ho, resolve, invoke, builtin, Sem.run_bind, Sem.run_pure, Result.andThen_ok, List.map_toArray, List.map_cons, List.map_nil, hs, hx, hr]
  exact hK _ _ (h v' w' h2 h3 h4)
end
set_option maxRecDepth 100000 in
set_option maxHeartbeats 8000000 in
theorem ref6_deal_apart (p k : Int) (K N : Nat) (sa : Option Addr) (S cs : Nat) (s r : List Int) (vr : Value) (w : World) (hp : (Lit.int .i64 p).wf = true) (hk : k - 1 = (K : Int)) (hpl : planB p k (N : Int) = true) (hs : Ints w (.slice sa S cs) s) (hsl : s.length = S) (hr : Slc w vr r)
    (hS : S ≤ 2048) (hes : elB p s = true) (her : elB p r = true) (hrl : r.length = S * K) :
    Calls Tryz.prog 23 #[planV p k (N : Int), .slice sa S cs, vr] w fun e w' => ∃ v, e = .returned (.tuple #[v, .int .i64 0]) ∧ GathT w' w.heap.size w'.heap.size v (dealF p K N s r) ∧ Below w.heap.size w w' := by
  unfold planV
  obtain ⟨hprm, hp2, hk1, hkn, hn16, hnp⟩ := planB_parts hpl
  obtain ⟨ra, rc, rfl, hrc, hrc2, hri⟩ := hr
  have hri2 := hri
  obtain ⟨R, hR⟩ : ∃ R, r.length = R := ⟨_, rfl⟩
  rw [hR] at hrc hri hrl ⊢
  obtain ⟨g, hg⟩ : ∃ g, w.heap.size = g := ⟨_, rfl⟩
  obtain ⟨w1, hw1⟩ : ∃ w1, w.alloc (Obj.cells #[Value.int IntKind.i64 p, Value.int IntKind.i64 k, Value.int IntKind.i64 (N : Int)] 31) = w1 := ⟨_, rfl⟩
  have hb1 : Below g w w1 := by rw [← hw1, ← hg]; exact (Below.refl _ _).alloc (Nat.le_refl _) _
  have hp1 : PlanAt w1 g p k (N : Int) := by rw [← hw1, ← hg]; exact planAt_new _ _ _ _ _
  have hs1 : w1.heap.size = g + 1 := by rw [← hw1, ← hg]; simp
  have HV := Lib.hid (ref6_valid p k (N : Int) w1 hp)
  rw [hpl, hs1] at HV
  unfold planV at HV
  have HRR := Lib.hid hR
  have HSL2 := Lib.hid hsl
  have hpp1 : 1 ≤ p := by have := hprm.1; omega
  have HES := Lib.hid (els_of_elB hes)
  have HER := Lib.hid (els_of_elB her)
  have hpp2 := hp2
  have HNP := Lib.hid hnp
  have HHP := Lib.hid hp
  have HPR := Lib.hid hprm
  have d0 := hp1.c0
  have d1 := hp1.c1
  have d2 := hp1.c2
  clear hpl hp
  go_enter Tryz.func23, Tryz.ntmps23
  go_wp2_with fail
  refine HV.out.mono ?_
  rintro e w2 ⟨rfl, hb2⟩
  have hp3 := hp1.below (Nat.lt_succ_self g) hb2
  have hB2 : Below g w w2 := hb1.trans (hb2.mono (by omega))
  have hs2 : g + 1 ≤ w2.heap.size := by rw [← hs1]; exact hb2.size
  have HSo := Lib.hid hs
  have HRo := Lib.hid hri
  have HGG := Lib.hid hg
  have HS2 := Lib.hid (hs.below (Nat.le_of_eq hg) hB2)
  have HR2 := Lib.hid (hri.below (Nat.le_of_eq hg) hB2)
  have HP2 := Lib.hid hp3
  have HB2 := Lib.hid hB2
  have HE1 := Lib.hid (ref_elements p (.slice sa S cs) s w2 HHP.out HS2.out)
  have HE2 := Lib.hid (ref_elements p (.slice ra R rc) r w2 HHP.out HR2.out)
  rw [hes] at HE1
  rw [her] at HE2
  have c0 := hp3.c0
  have c1 := hp3.c1
  have c2 := hp3.c2
  have HS0 := Lib.hid hs2
  clear hw1 hb1 hp1 hs1 d0 d1 d2 HV hb2 hp3 hB2 hs hri hes her
  have q1 : decide ((2048 : Int) < (S : Int)) = false := decide_eq_false (by omega)
  have HRL := Lib.hid hrl
  have HSB := Lib.hid hS
  have HRB := Lib.hid hri2
  have hK15 : K ≤ 15 := by omega
  have hN16 : N ≤ 16 := by omega
  have HRN : Hid (Calls Tryz.prog 26 #[.agg #[.int .i64 p, .int .i64 k, .int .i64 (N : Int)], .int .i64 (S : Int)] w2 fun e w' => e = .returned (.int .i64 (R : Int)) ∧ Below w2.heap.size w2 w') := by
    have h := ref6_random p k (N : Int) S w2 hk1 (by omega) (by omega)
    rw [hk, show (S : Int) * (K : Int) = (R : Int) by rw [hrl]; push_cast; rfl] at h
    exact h
  clear hrl hprm hp2 hkn hn16 hnp hsl hS hri2
  have hwr : IntKind.i64.wrap (K : Int) = (K : Int) := by rw [IntKind.wrap_i64]; omega
  go_wp2_with fail
  refine HE1.out.mono ?_
  rintro e w' ⟨rfl, rfl⟩
  go_wp2_with fail
  refine HE2.out.mono ?_
  rintro e w' ⟨rfl, rfl⟩
  go_wp2_with fail
  refine HRN.out.mono ?_
  rintro e w3 ⟨rfl, hb3⟩
  have hp3 := HP2.out.below (by have := HS0.out; omega) hb3
  have HP3 := Lib.hid hp3
  have HB3 := Lib.hid (HB2.out.trans (hb3.mono (by have := HS0.out; omega)))
  have hs3 : g + 1 ≤ w3.heap.size := Nat.le_trans HS0.out hb3.size
  have HZ3 := Lib.hid hs3
  have c0 := hp3.c0
  have c1 := hp3.c1
  have c2 := hp3.c2
  clear hp3 hb3 HS2 HR2 HP2 HB2 HS0 HRN HE1 HE2
  have HG0 : Hid (GathT w3 (g + 1) w3.heap.size (.slice none 0 0) (dealF p K 0 s r)) := gathT_nil _ _ _
  have HW0 : Hid (Below (g + 1) w3 w3) := Below.refl _ _
  go_wp2_with fail
  go_loopw [8, 10, 11, 12, 13, 14] (fun v h _ _ _ _ wr => ∃ j : Nat, j ≤ N ∧ h = .int .i64 ((j + 1 : Nat) : Int) ∧ Hid (GathT wr (g + 1) wr.heap.size v (dealF p K j s r)) ∧ Hid (Below (g + 1) w3 wr) ∧ Hid (g + 1 ≤ wr.heap.size)) (fun _ h _ _ _ _ _ => N + 1 - (intOf h).toNat)
  case atStart => exact ⟨0, Nat.zero_le _, rfl, HG0, HW0, HZ3⟩
  case round =>
    obtain ⟨j, hj, rfl, HG, HW, HZ⟩ := hrel
    have hpr := HP3.out.below (Nat.lt_succ_self g) HW.out
    have c0 := hpr.c0
    have c1 := hpr.c1
    have c2 := hpr.c2
    have HPR := Lib.hid hpr
    clear hpr
    by_cases hlt : j < N
    · obtain ⟨wo, hwo⟩ : ∃ wo, wo = wr := ⟨_, rfl⟩
      subst hwo
      obtain ⟨hd, hhd⟩ : ∃ hd, j + 1 = hd := ⟨_, rfl⟩
      rw [hhd]
      have q2 : hd ≤ N := by omega
      have HD := Lib.hid hhd
      clear hhd hlt hj
      obtain ⟨gs, hgs⟩ : ∃ gs, wo.heap.size = gs := ⟨_, rfl⟩
      have hgg : g + 1 ≤ gs := by rw [← hgs]; exact HZ.out
      have HA1 := Lib.hid (shAt_new wo ((hd : Int)) (.slice none 0 0) 42)
      have HA2 : Hid (Below gs wo (wo.alloc (Obj.cells #[Value.int IntKind.i64 (hd : Int), Value.slice none 0 0] 42))) := by rw [← hgs]; exact (Below.refl _ _).alloc (Nat.le_refl _) _
      have HA3 : Hid ((wo.alloc (Obj.cells #[Value.int IntKind.i64 (hd : Int), Value.slice none 0 0] 42)).heap.size = gs + 1) := by show _ = _; rw [← hgs]; simp
      rw [hgs] at HA1
      have HGS := Lib.hid hgs
      go_wp2_with fail
      clear hgs
      generalize wo.alloc (Obj.cells #[Value.int IntKind.i64 (hd : Int), Value.slice none 0 0] 42) = w4 at *
      have HQ0 : Hid (Gath w4 (gs + 1) (.slice none 0 0) (valsTo p K s r hd 0)) := gath_nil _ _
      have HZ4 : Hid (gs + 1 ≤ w4.heap.size) := Nat.le_of_eq HA3.out.symm
      clear HA3
      go_loopw [12, 13, 14, 58] (fun _ _ _ i wr => ∃ (m : Nat) (gv : Value), m ≤ S ∧ i = .int .i64 m ∧ Hid (ShAt wr gs hd gv) ∧ Hid (Gath wr (gs + 1) gv (valsTo p K s r hd m)) ∧ Hid (Below gs wo wr) ∧ Hid (gs + 1 ≤ wr.heap.size)) (fun _ _ _ i _ => S - (intOf i).toNat)
      case atStart => exact ⟨0, _, Nat.zero_le _, rfl, HA1, HQ0, HA2, HZ4⟩
      case round =>
        obtain ⟨m, gv, hm, rfl, HSA, HGV, HWQ, HZQ⟩ := hrel
        clear HA1 HQ0 HA2 HZ4
        by_cases hlt2 : m < S
        · have hpq := HPR.out.below (show g < gs by omega) HWQ.out
          have c0 := hpq.c0
          have HBQ : Hid (Below g w wr) := HB3.out.trans ((HW.out.mono (by omega)).trans (HWQ.out.mono (by omega)))
          have HSQ := Lib.hid (HSo.out.below (Nat.le_of_eq HGG.out) HBQ.out)
          have HRQ := Lib.hid (HRo.out.below (Nat.le_of_eq HGG.out) HBQ.out)
          obtain ⟨b1, o1, hae, hcx⟩ := Ints.pos HSQ.out hlt2
          obtain ⟨x, hx⟩ : ∃ x, s.getD m 0 = x := ⟨_, rfl⟩
          rw [hx] at hcx
          obtain ⟨A, hA⟩ : ∃ A, m * K = A := ⟨_, rfl⟩
          obtain ⟨A2, hA2⟩ : ∃ A2, (m + 1) * K = A2 := ⟨_, rfl⟩
          have hAK : A2 = A + K := by rw [← hA2, ← hA, Nat.add_mul, Nat.one_mul]
          have hA2R : A2 ≤ R := by rw [HRL.out, ← hA2]; exact Nat.mul_le_mul_right K hlt2
          obtain ⟨M1, hM1⟩ : ∃ M1, m + 1 = M1 := ⟨_, rfl⟩
          have hAi : (m : Int) * (K : Int) = (A : Int) := by rw [← hA]; push_cast; rfl
          have hM1i : (m : Int) + 1 = (M1 : Int) := by omega
          have hA2i : (M1 : Int) * (K : Int) = (A2 : Int) := by rw [← hA2, ← hM1]; push_cast; rfl
          have hle1 : A ≤ A2 := by omega
          have hle2 : A2 ≤ rc := by omega
          have hAd : A2 - A = K := by omega
          have HPL : Hid (polyL K s r m = x :: (r.drop A).take K) := by show _ = _; unfold polyL; rw [hx, hA]
          have HAK := Lib.hid hAK
          have HA2R := Lib.hid hA2R
          have HLL : Hid (((r.drop A).take K).length = K) := by show _ = _; rw [List.length_take, List.length_drop, HRR.out]; omega
          have HM1 := Lib.hid hM1
          have hM1b : M1 ≤ 2048 := by have := HSB.out; omega
          have hA2b : A2 ≤ 40000 := by
            have h1 : M1 * K ≤ 2048 * 15 := Nat.mul_le_mul hM1b hK15
            rw [hM1] at hA2
            omega
          subst hae
          have HOW : Hid (Gath (wr.alloc (.cells #[.int .i64 x] 3)) wr.heap.size (.slice (some ⟨wr.heap.size, 0, none⟩) 1 1) [x]) := World.ownsRow_lit wr _ 1 (Nat.le_refl _) (by unfold maxLen; omega) rfl
          have HSR := Lib.hid (HRQ.out.below (Nat.le_refl _) ((Below.refl _ _).alloc (Nat.le_refl _) (.cells #[.int .i64 x] 3)))
          have HNN : Hid (ra = none → (r.drop A).take K = []) := fun e => by
            have h := HRQ.out
            rw [e] at h
            rw [ints_none h]; simp
          clear hA hA2 hAK hx hpq hM1
          go_upto_region 16 with fail
          go_cut [14] (fun v W => Hid (Gath W wr.heap.size v (polyL K s r m)) ∧ Hid (Below wr.heap.size wr W))
          case first =>
            cases ra with
            | none =>
              have h0 := HNN.out rfl
              have HK0 : Hid (K = 0) := by
                have h1 := HLL.out
                rw [h0] at h1
                exact h1.symm
              have HP0 : Hid ([x] = polyL K s r m) := by show _ = _; rw [HPL.out, h0]
              have hA0 : A = 0 := by
                have h1 : R = 0 := by rw [← HRR.out, ints_none HRQ.out]; rfl
                omega
              have hA20 : A2 = 0 := by
                have h1 : R = 0 := by rw [← HRR.out, ints_none HRQ.out]; rfl
                omega
              subst hA0 hA20
              clear h0
              go_wp2_with (at_builtin; refine append_list _ rfl _ _ rfl wr.heap.size (.slice (some ⟨wr.heap.size, 0, none⟩) 1 1) [x] [] rfl HOW.out _ rfl ?src (by simp) (by simp) ?_)
              case src => rw [HK0.out]; exact ints_zero _ _ _
              intro v6 w6 hown6 hgr6
              have HO6 := Lib.hid hown6
              have HG6 : Hid (Below wr.heap.size wr w6) := ((Below.refl _ _).alloc (Nat.le_refl _) _).grown hgr6 (by simp) (fun k hk => by simp [Value.ownBlock] at hk; omega)
              clear hown6 hgr6
              go_wp2_with fail
              go_meet
              exact ⟨by rw [← HP0.out]; exact HO6, HG6⟩
            | some ad =>
              rcases Nat.lt_or_ge A rc with hAr | hAr
              · go_wp2_with (at_builtin; refine append_list _ rfl _ _ rfl wr.heap.size (.slice (some ⟨wr.heap.size, 0, none⟩) 1 1) [x] ((r.drop A).take K) rfl HOW.out _ rfl ?src (by rw [HLL.out]; simp; omega) (by simp) ?_)
                case src => exact ints_sub HSR.out HRR.out A K _ (by have := HAK.out; have := HA2R.out; omega)
                intro v6 w6 hown6 hgr6
                have HO6 := Lib.hid hown6
                have HG6 : Hid (Below wr.heap.size wr w6) := ((Below.refl _ _).alloc (Nat.le_refl _) _).grown hgr6 (by simp) (fun k hk => by simp [Value.ownBlock] at hk; omega)
                clear hown6 hgr6
                go_wp2_with fail
                go_meet
                exact ⟨by rw [HPL.out]; exact HO6, HG6⟩
              · obtain rfl : rc = A := by omega
                have HK0 : Hid (K = 0) := by show _ = _; have := HAK.out; have := HA2R.out; omega
                have HP0 : Hid ([x] = polyL K s r m) := by show _ = _; rw [HPL.out, HK0.out, List.take_zero]
                go_wp2_with (at_builtin; refine append_list _ rfl _ _ rfl wr.heap.size (.slice (some ⟨wr.heap.size, 0, none⟩) 1 1) [x] [] rfl HOW.out _ rfl ?src (by simp) (by simp) ?_)
                case src => rw [HK0.out]; exact ints_zero _ _ _
                intro v6 w6 hown6 hgr6
                have HO6 := Lib.hid hown6
                have HG6 : Hid (Below wr.heap.size wr w6) := ((Below.refl _ _).alloc (Nat.le_refl _) _).grown hgr6 (by simp) (fun k hk => by simp [Value.ownBlock] at hk; omega)
                clear hown6 hgr6
                go_wp2_with fail
                go_meet
                exact ⟨by rw [← HP0.out]; exact HO6, HG6⟩
          case rest =>
            obtain ⟨HO6, HG6⟩ := hcut
            obtain ⟨w6, hw6⟩ : ∃ w6, w6 = wc := ⟨_, rfl⟩
            subst hw6
            have hgr : gs + 1 ≤ wr.heap.size := HZQ.out
            have hsz6 := HG6.out.size
            have HB6 : Hid (Below gs wo w6) := HWQ.out.trans (HG6.out.mono (by omega))
            have hG6 : Gath w6 (gs + 1) gv (valsTo p K s r hd m) := HGV.out.kept HG6.out (Nat.le_refl _)
            have hsa6 : ShAt w6 gs hd gv := HSA.out.grown (grownBy_of_below HG6.out (Nat.le_refl _)) (fun e => by cases e)
            have hp6 := HPR.out.below (show g < gs by omega) HB6.out
            have hx6 := polyL_els hpp1 HES.out HER.out K m
            have hrd : Ints w6.drew u14 (polyL K s r m) := (HO6.out.reads (by have := polyL_len K s r m; omega)).below (Nat.le_refl _) (Below.refl _ _).drew
            have HEV := Lib.hid (ref_eval_any p hd u14 (polyL K s r m) w6.drew hpp1 hpp2 (by refine ⟨by omega, ?_⟩; have := HNP.out; omega) hx6 hrd (by have := polyL_len K s r m; omega))
            obtain ⟨y, hy⟩ : ∃ y, E (polyL K s r m) hd % p = y := ⟨_, rfl⟩
            rw [hy] at HEV
            have HY : Hid (valsTo p K s r hd m ++ [y] = valsTo p K s r hd (m + 1)) := by show _ = _; rw [valsTo_succ, hy]
            have HAP : Hid (∃ v' W', (Builtin.append_ #[22, 22] 22 #[gv, .slice (some ⟨w6.drew.heap.size, 0, none⟩) 1 1]).run Tryz.prog (w6.drew.alloc (.cells #[.int .i64 y] 3)) = .ok v' W' ∧
                (Gath W' (gs + 1) v' (valsTo p K s r hd (m + 1)) ∧ Below gs wo W' ∧ ShAt W' gs hd gv ∧ gs + 1 ≤ W'.heap.size)) := by
              have hgd : Gath (w6.drew.alloc (.cells #[.int .i64 y] 3)) (gs + 1) gv (valsTo p K s r hd m) := Gath.alloc (Gath.drewN hG6 1) _
              obtain ⟨v', W', h1, h2, h3⟩ := run_append_gath hgd w6.drew.heap.size y (by rw [cell_new]; rfl) (by rw [valsTo_len]; have := HSB.out; omega) (by show gs + 1 ≤ (w6.drew.alloc _).heap.size; simp; omega) 22
              rw [HY.out] at h2
              refine ⟨v', W', h1, h2, (HB6.out.drew.alloc (by show gs ≤ w6.heap.size; omega) _).grown h3 (by show gs ≤ (w6.drew.alloc _).heap.size; simp; omega) (fun k hk => ?_), ?_, ?_⟩
              · have := (World.ownsRow.lt hG6 k hk).1; omega
              · exact (ShAt.grown (w := w6.drew) hsa6 (World.grownBy_alloc _ _ none) (fun e => by cases e)).grown h3 (fun e => by have := (World.ownsRow.lt hG6 gs e).1; omega)
              · have := h3.size; simp at this; omega
            have c0 := hp6.c0
            have e1 := hsa6.c1
            have e1b := (ShAt.grown hsa6 (World.grownBy_alloc w6 (.cells #[.int .i64 y] 3) none) (fun e => by cases e)).c1
            have c0b := (hp6.below hp6.lt ((Below.refl _ _).alloc (Nat.le_refl _) (.cells #[.int .i64 y] 3))).c0
            have HMB : Hid (m + 1 ≤ S) := hlt2
            clear hx6 hsa6 hG6 hp6 hy hrd hM1i hAi hA2i hle1 hle2 hAd hM1b hA2b hA2R
            go_wp2_with fail
            apply region_oneV (fun vn W => ShAt W gs hd vn ∧ Gath W (gs + 1) vn (valsTo p K s r hd (m + 1)) ∧ Below gs wo W ∧ gs + 1 ≤ W.heap.size)
            case hr =>
              refine wp_region_noPanic ?_
              go_region_law (first
                | (refine step_appendV rfl _ _ _ _ rfl _ _ rfl rfl _ HAP.out ?_; rintro v' W' ⟨h1, h2, h3, h4⟩; obtain ⟨av, cv, rfl⟩ := h1.shape; have k1 := h3.c1; have kf := h3.fr 1; have H1 := Lib.hid h1; have H2 := Lib.hid h2; have H3 := Lib.hid h3; have H4 := Lib.hid h4; clear h1 h2 h3 h4)
                | (go_simp; go_at_call 43; with_reducible refine HEV.out.mono ?_; rintro e w' ⟨rfl, rfl⟩))
              all_goals
                refine NoPanic.normal ?_
                obtain ⟨vq, hvq⟩ : ∃ vq, Value.slice av (valsTo p K s r hd (m + 1)).length cv = vq := ⟨_, rfl⟩
                have h1 := H1.out
                rw [hvq] at h1 ⊢
                exact ⟨rfl, vq, rfl, H3.out.set _, gath_set_other h1 (by omega) _ _, H2.out.setCell (Nat.le_refl _) _, by simp; exact H4.out⟩
            rintro vn W ⟨h1, h2, h3, h4⟩
            have HS9 := Lib.hid h1
            have HG9 := Lib.hid h2
            have HB9 := Lib.hid h3
            have HZ9 := Lib.hid h4
            clear h1 h2 h3 h4 HAP HEV e1 e1b c0 c0b HO6 HG6 HB6
            have hmb : m ≤ 2048 := by have := HSB.out; omega
            go_wp2
            go_roundw
            case rel => exact ⟨m + 1, vn, HMB.out, by go_num, HS9, HG9, HB9, HZ9⟩
            case measure => simp [intOf]; have := HMB.out; omega
        · obtain rfl : m = S := by omega
          have hgw : GathT wr (g + 1) wo.heap.size u8 (dealF p K j s r) := HG.out.below HWQ.out (Nat.le_of_eq HGS.out)
          have hbw : Below (g + 1) w3 wr := HW.out.trans (HWQ.out.mono (by omega))
          have HGW := Lib.hid hgw
          have HBW := Lib.hid hbw
          have hslc := HGV.out.slc (by rw [valsTo_len]; have := HSB.out; omega)
          have HSL := Lib.hid hslc
          have HGB := Lib.hid (fun q (hq : gv.ownBlock = some q) => World.ownsRow.lt HGV.out q hq)
          have HUB := Lib.hid hgw.block
          have HUS := Lib.hid (HG.out.block)
          have HNX : Hid (dealF p K j s r ++ [((hd : Int), valsTo p K s r hd m)] = dealF p K (j + 1) s r) := by
            show _ = _
            rw [dealF_succ, ← HD.out]
            unfold dealV valsTo
            rw [HSL2.out]
          have hsz9 : gs < wr.heap.size := HSA.out.lt
          have c5 := HSA.out.c0
          have c6 := HSA.out.c1
          have HC0 := Lib.hid (shAt_new wr (hd : Int) gv 42).c0
          have HC1 := Lib.hid (shAt_new wr (hd : Int) gv 42).c1
          have HSA9 := Lib.hid ((HGV.out.mono (show g + 1 ≤ gs + 1 by omega)).alloc (.cells #[.int .i64 hd, gv] 42))
          have HGA := Lib.hid (hgw.alloc (.cells #[.int .i64 hd, gv] 42))
          have HDL : Hid ((dealF p K j s r).length < 1000) := by show _ < _; rw [dealF_len]; have := HD.out; omega
          have HBL : Hid (∀ q, gv.ownBlock = some q → wo.heap.size ≤ q ∧ u8.ownBlock ≠ some q) := fun q hq => by
            have h1 := HGB.out q hq
            refine ⟨by have h3 := HGS.out; omega, fun e => ?_⟩
            have h2 := HUS.out q e
            have h3 := HGS.out
            omega
          have hj16 : j < 16 := by have := HD.out; omega
          clear hgw hbw hslc
          go_wp2_with (at_builtin; refine appendT_one _ rfl _ _ rfl (g + 1) wo.heap.size u8 (dealF p K j s r) (hd : Int) gv (valsTo p K s r hd m) rfl HGA.out wr.heap.size rfl HC0.out HC1.out HSA9.out HBL.out HDL.out (by simp; omega) ?_)
          intro v8 w8 hown8 hgr8 _
          rw [HNX.out] at hown8
          have HO8 := Lib.hid hown8
          have hb8 : Below (g + 1) w3 w8 := (HBW.out.alloc (by omega) _).grown hgr8 (by simp; omega) (fun k hk => (HUB.out k hk).1)
          have HB8 := Lib.hid hb8
          have HZ8 : Hid (g + 1 ≤ w8.heap.size) := by show _ ≤ _; have := hgr8.size; simp at this; omega
          have hd1 : (hd : Int) + 1 = ((j + 1 + 1 : Nat) : Int) := by have := HD.out; omega
          have hdb : hd ≤ 17 := by have := HD.out; omega
          clear hown8 hgr8 hb8 HGA HC0 HC1 HSA9 HBL HBW HGW
          go_wp2
          go_roundw
          case rel => exact ⟨j + 1, by have := HD.out; omega, by rw [← hd1]; go_num, HO8, HB8, HZ8⟩
          case measure => simp [intOf]; have := HD.out; omega
    · have hn1 : ¬ ((j + 1 : Nat) : Int) ≤ (N : Int) := by omega
      have hn2 : ¬ j + 1 ≤ N := by omega
      have hjN : j = N := by omega
      have HGF : Hid (GathT wr g wr.heap.size u8 (dealF p K N s r)) := by show GathT wr g _ u8 _; rw [← hjN]; exact HG.out.mono (by omega)
      have HBF : Hid (Below g w wr) := HB3.out.trans (HW.out.mono (by omega))
      have hlt' : ¬ j < N := by omega
      clear hjN
      go_wp2
      go_ret2
      exact ⟨_, rfl, HGF.out, HBF.out⟩
end Go.Proofs.YtpgbjnenllfmlaaGreatDoor
