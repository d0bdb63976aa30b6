
/- The walk of PolyThrough. -/
import Derived.Test.YtpohhgbmdgjipaaWLaw
namespace Go.Proofs.Ytpohhgbmdgjipaa
open Go.RowKit Go.Sort
open Num
set_option linter.unusedVariables false

/-- The values at the first k places. -/
def valsK (p : Int) (m xs : List Int) (k : Nat) : List Int := (xs.take k).map (fun x => E m x % p)
theorem valsK_succ {p : Int} {m xs : List Int} {k : Nat} (hk : k < xs.length) : valsK p m xs (k + 1) = valsK p m xs k ++ [E m (xs.getD k 0) % p] := by
  unfold valsK; rw [take_succ_getD hk]; simp
theorem valsK_len (p : Int) (m xs : List Int) {k : Nat} (h : k ≤ xs.length) : (valsK p m xs k).length = k := by simp [valsK]; omega
theorem vals_getD {p : Int} {m xs : List Int} {j : Nat} (h : j < xs.length) : (valsK p m xs xs.length).getD j 0 = E m (xs.getD j 0) % p := by
  simp [valsK, List.getD, h]
theorem vals_els {p : Int} (hp : 1 ≤ p) (m xs : List Int) (k : Nat) : Els p (valsK p m xs k) := fun x hx => by
  obtain ⟨y, _, rfl⟩ := List.mem_map.1 hx; exact el_mod hp _
theorem thru_sh {p : Int} {m xs : List Int} (hm : Els p m) (hl : m.length = xs.length) : Thru p xs (valsK p m xs xs.length) (sh m) :=
  ⟨sh_els hm, sh_sh m, by rw [sh_len, ← hl]; exact dg_le m, fun j hj => by rw [E_sh, vals_getD hj]; exact (Cg.mod p _).symm⟩
theorem vals_step {p z : Int} {m xs : List Int} {k B : Nat} {w8 wb wr : World} {v v' : Value} {o : Obj} (hk : k < xs.length) (hz : E m (xs.getD k 0) % p = z) (hB : B ≤ wb.heap.size) (hown : Gath w8 B v (valsK p m xs k)) (hbel : Below B wb w8)
    (hown2 : Gath wr B v' (valsK p m xs k ++ [z])) (hgr : (w8.alloc o).grownBy wr v.ownBlock) : Gath wr B v' (valsK p m xs (k + 1)) ∧ Below B wb wr := by
  subst hz
  rw [← valsK_succ hk] at hown2
  exact ⟨hown2, (hbel.alloc (Nat.le_trans hB hbel.size) o).grown hgr (by have := hbel.size; simp; omega) fun g hg => hown.block g hg⟩

set_option maxRecDepth 100000 in
set_option maxHeartbeats 8000000 in
theorem polyThrough_walk (s : Value) (l : List Int) (w : World) (hs : Ints w s l) :
    Calls Try.prog 5 #[s] w fun e w' => e = .returned (.bool true) ∧ Below w.heap.size w w' := by
  by_cases hl : (l.length : Int) ≤ 500
  · have hl' : decide ((l.length : Int) ≤ 500) = true := by simpa using hl
    clear hl
    go_enter Try.func5, Try.ntmps5
    go_wp2_with (first
      | (go_at_call 8; refine (light_any _ _ _ hs).mono ?_; rintro e w' ⟨rfl, rfl⟩)
      | (go_at_call 10; refine (roll_any _ _ (slice_of hs)).mono ?_; rintro e w' ⟨rfl, rfl⟩))
    refine (prime_any _ s l _ (dice_new hs)).mono ?_
    rintro e w1 ⟨p, hprm, hp2, rfl, hd1, hbut⟩
    have hb1 := But.trans (But.alloc w.heap.size w _) hbut
    have hp0 : 2 ≤ p := hprm.1
    have hp1 : 1 ≤ p := by omega
    have hp3 : p ≤ 1073741824 := by omega
    have HPR := Lib.hid hprm
    clear hbut hs hprm
    go_wp2_with fail
    refine (points_any _ s l p 7 _ hd1 hp0 hp3 (by omega)).mono ?_
    rintro e w2 ⟨vx, vy, xs, ys, rfl, hxl, hnd, hex, hyl, hey, hgx, hgy, hd2, hb2⟩
    have hB2 := hb1.trans hb2
    have hIx := hgx.reads (by omega)
    have hIy := hgy.reads (by omega)
    have hnb := hgx.block
    have HND := Lib.hid hnd
    have HEX := Lib.hid hex
    have HEY := Lib.hid hey
    obtain ⟨ax, cx, rfl, -, -⟩ := id hIx
    obtain ⟨ay, cy, rfl, -, -⟩ := id hIy
    obtain ⟨m, hm⟩ : ∃ m, xs.length = m := ⟨_, rfl⟩
    have HM := Lib.hid hm
    have HMY : Hid (ys.length = m) := by rw [← hm]; exact hyl
    rw [HMY.out] at hIy ⊢
    rw [hm] at hIx hxl hnb ⊢
    have hsz2 := hd2.size
    have hs1 := hd1.size
    clear hgx hgy hyl hey hb1 hb2 hd1 hnd hex hm
    by_cases h0 : 0 < m
    · have hm0 : ((m : Int) == 0) = false := by simp; omega
      have hplc := plc_nodup (by rw [HM.out]; exact h0) HND.out
      have HPL := Lib.hid hplc
      clear hplc
      go_wp2_with fail
      refine (through_ok _ HPR.out hp3 HEX.out HEY.out hIx hIy (by rw [HM.out, HMY.out]) HPL.out (by rw [HM.out]; omega)).mono ?_
      rintro e w3 ⟨v, z, rfl, hz, hthru, _, hb3⟩
      have hlz := hthru.len
      rw [HM.out] at hlz
      have HIX := Lib.hid (hIx.below (Nat.le_refl _) hb3)
      have HIY := Lib.hid (hIy.below (Nat.le_refl _) hb3)
      have HD3 := Lib.hid (hd2.below hb3 hsz2)
      have HB3 := Lib.hid (hB2.trans (But.of_below hb3 (Nat.le_refl _)))
      have HZ := Lib.hid hz
      have HTH := Lib.hid hthru
      obtain ⟨az, cz, rfl, -, -⟩ := id hz
      have hs3 := hb3.size
      have hdg := dg_le z
      have HSH := Lib.hid hthru.short
      clear hb3 hIx hIy hd2 hB2 hz hthru
      have hw3m : Below w.heap.size w w3 := HB3.out.below (Nat.le_refl _) (Nat.le_refl _)
      have HW3 := Lib.hid hw3m
      have hsw3 := hw3m.size
      clear hw3m
      have hcase : (z.length = 0) ∨ (∃ r q o, z.length = r + 1 ∧ az = some ⟨q, o, none⟩ ∧ w3.cell? ⟨q, o + r, none⟩ = some (.int .i64 (z.getD r 0)) ∧ z.getD r 0 ≠ 0) := by
        by_cases e : z.length = 0
        · exact .inl e
        · obtain ⟨q, o, rfl, hc⟩ := ints_at HZ.out rfl (k := z.length - 1) (by omega)
          refine .inr ⟨z.length - 1, q, o, by omega, rfl, hc, ?_⟩
          have h := sh_last (l := z) (by rw [HSH.out]; omega)
          rw [HSH.out] at h; exact h
      obtain ⟨lz, hlz2⟩ : ∃ lz, z.length = lz := ⟨_, rfl⟩
      have HLZ := Lib.hid hlz2
      rw [hlz2] at hcase hlz ⊢
      clear hlz2 hdg
      rcases hcase with rfl | ⟨r, q, o, rfl, rfl, hcl, hne⟩
      all_goals
        first
          | (have hne' : (z.getD r 0 == 0) = false := by simpa using hne
             have e0 : ((r + 1 : Nat) : Int) - 1 = (r : Int) := by omega
             clear hne
             generalize z.getD r 0 = zr at *)
          | skip
        go_wp2
        go_loopw [9, 10, 70] (fun _ _ c wr => ∃ j : Nat, j ≤ m ∧ c = .int .i64 j ∧ Below w3.heap.size w3 wr) (fun _ _ c _ => m - (intOf c).toNat)
        case atStart => exact ⟨0, Nat.zero_le _, rfl, Below.refl _ _⟩
        case round =>
          obtain ⟨j, hj, rfl, hbel⟩ := hrel
          by_cases hlt : j < m
          · obtain ⟨q1, o1, e1, hc1⟩ := ints_at (HIX.out.below (Nat.le_refl _) hbel) HM.out.symm (k := j) hlt
            obtain ⟨q2, o2, e2, hc2⟩ := ints_at (HIY.out.below (Nat.le_refl _) hbel) HMY.out.symm (k := j) hlt
            subst e1 e2
            have ex := els_at hp1 HEX.out j
            have ey := els_at hp1 HEY.out j
            have hEv := ((HTH.out.fit j (by rw [HM.out]; exact hlt)).eq).trans (Int.emod_eq_of_lt ey.1 ey.2)
            have hI := HZ.out.below (Nat.le_refl _) hbel
            rw [HLZ.out] at hI
            have eZ := HTH.out.els
            have cE : ∀ d os, Calls Try.prog 16 #[.int .i64 p, .slice _ _ cz, .int .i64 (xs.getD j 0)] (grow (redrawn wr d) os) fun e w'' => e = .returned (.int .i64 (ys.getD j 0)) ∧ ∃ q : Regrown, w'' = grow (redrawn wr q.d) q.os := fun d os => by
              have h := Calls.regrown_of (eval_any _ hp1 hp3 ex eZ (hI.below (Nat.le_refl _) (below_regrown wr d os)))
              rw [hEv] at h; exact h
            have cC := cell_regrown hc2
            have HBL := Lib.hid hbel
            clear hEv ex ey hI eZ hbel
            generalize xs.getD j 0 = xj at *
            generalize ys.getD j 0 = yj at *
            go_wp2
            refine wp_region_quiet_below (by kernel_rfl) (by kernel_rfl) ?_
            repeat (quiet_step (exact cE _ _))
            refine wpQuiet_nil ?_
            intro _ hw'
            obtain ⟨⟨dq, osq⟩, hw''⟩ := hw'
            subst hw''
            have hbq := below_regrown wr dq osq
            have HBQ := Lib.hid (HBL.out.trans (hbq.mono HBL.out.size))
            clear cC cE hc1 hc2 hbq
            generalize grow (redrawn wr dq) osq = w4 at *
            go_wp2
            go_roundw
            case rel => exact ⟨j + 1, by omega, by go_num, HBQ.out⟩
            case measure => simp [intOf]; omega
          · have hjm : j = m := by omega
            subst hjm
            have HIXr := Lib.hid (HIX.out.below (Nat.le_refl _) hbel)
            have hd4 := HD3.out.below hbel HD3.out.size
            have HB4 := Lib.hid (HB3.out.trans (But.of_below hbel (Nat.le_refl _)))
            have hs4 := hbel.size
            clear hbel
            go_wp2_with fail
            refine (dice_elements _ s l p j _ hd4 hp1 hp3 (by omega)).mono ?_
            rintro e w5 ⟨vm, ms, rfl, hml, hme, hgm, hd5, hb5⟩
            have HIX5 := Lib.hid (HIXr.out.but hb5 (fun g hg => by have := hnb g hg; omega))
            have HB5 := Lib.hid (HB4.out.trans hb5)
            have hIm := hgm.slc (by omega)
            obtain ⟨am, cm, rfl, hcm1, hcm2, hIm⟩ := hIm
            have hbm := hgm.block
            have HML := Lib.hid hml
            have HME := Lib.hid hme
            have HIM := Lib.hid hIm
            have HD5 := Lib.hid hd5
            have hs5 := hb5.size
            rw [hml] at HIM hcm1 hbm ⊢
            clear hgm hb5 hd5 hIm hml hme hd4
            go_wp2
            go_loopw [12, 14, 92] (fun vz _ c wr => ∃ k : Nat, k ≤ j ∧ c = .int .i64 k ∧ Hid (Gath wr w5.heap.size vz (valsK p ms xs k)) ∧ Below w5.heap.size w5 wr) (fun _ _ c _ => j - (intOf c).toNat)
            case atStart => exact ⟨0, Nat.zero_le _, rfl, gath_nil _ _, Below.refl _ _⟩
            case round =>
              obtain ⟨k, hk, rfl, hgz, hbel⟩ := hrel
              have HBL := Lib.hid hbel
              by_cases hkl : k < j
              · obtain ⟨q1, o1, e1, hc1⟩ := ints_at (HIX5.out.below (Nat.le_refl _) hbel) HM.out.symm (k := k) hkl
                subst e1
                have ex := els_at hp1 HEX.out k
                have hIm := HIM.out.below (Nat.le_refl _) hbel
                have eM : Els p ms := HME.out
                have HMS := Lib.hid (HML.out)
                have HXS : Hid (k < xs.length) := by show k < xs.length; rw [HM.out]; exact hkl
                obtain ⟨xk, hxk⟩ : ∃ x, xs.getD k 0 = x := ⟨_, rfl⟩
                rw [hxk] at hc1 ex
                have HXK := Lib.hid hxk
                clear hxk hbel
                go_wp2_with fail
                refine (eval_any _ hp1 hp3 ex eM hIm).mono ?_; rintro e w7 ⟨rfl, hb7⟩
                have HG7 := Lib.hid (hgz.out.kept hb7 (Nat.le_refl _))
                have HB7 := Lib.hid (HBL.out.trans (hb7.mono HBL.out.size))
                have HZE : Hid (E ms (xs.getD k 0) % p = E ms xk % p) := by show _ = _; rw [HXK.out]
                have hs7 := HB7.out.size
                obtain ⟨zz, hzz⟩ : ∃ zz, E ms xk % p = zz := ⟨_, rfl⟩
                rw [hzz] at HZE ⊢
                clear hb7 hzz hc1 hIm ex
                go_wp2_with (at_builtin; refine append_one _ rfl _ _ rfl w5.heap.size _ (valsK p ms xs k) zz rfl (HG7.out.alloc _) ⟨w7.heap.size, 0, none⟩ rfl ?c1 ?c2 ?c3 ?_)
                case c1 => rw [cell_new]; rfl
                case c2 => rw [valsK_len _ _ _ (by have := HXS.out; omega)]; omega
                case c3 => first | omega | (simp; omega)
                intro v' w8 hown2 hgr
                have R := vals_step HXS.out HZE.out (Nat.le_refl _) HG7.out HB7.out hown2 hgr
                have HR1 := Lib.hid R.1
                have HR2 := Lib.hid R.2
                clear R hown2 hgr
                go_wp2
                go_roundw
                case rel => exact ⟨k + 1, by omega, by go_num, HR1, HR2.out⟩
                case measure => simp [intOf]; omega
              · have hkj : k = j := by omega
                subst hkj
                have HG := Lib.hid (hgz.out.reads (by rw [valsK_len _ _ _ (by rw [HM.out]; omega)]; omega))
                have HVL : Hid (valsK p ms xs k = valsK p ms xs xs.length) := by show _ = _; rw [HM.out]
                have HIXe := Lib.hid (HIX5.out.below (Nat.le_refl _) HBL.out)
                have hIMe := HIM.out.below (Nat.le_refl _) HBL.out
                have HDe := Lib.hid (HD5.out.below HBL.out HD5.out.size)
                have HBe := Lib.hid (HB5.out.trans (But.of_below HBL.out (Nat.le_refl _)))
                have hsE := HBL.out.size
                have HHL : Hid (xs.length = (valsK p ms xs k).length) := by show _ = _; rw [valsK_len _ _ _ (by rw [HM.out]; omega), HM.out]
                have HIMe := Lib.hid hIMe
                have HBB := hgz.out.block
                clear hgz hbel hIMe
                go_wp2_with fail
                refine (through_ok _ HPR.out hp3 HEX.out (vals_els hp1 ms xs k) HIXe.out HG.out HHL.out HPL.out (by rw [HM.out]; omega)).mono ?_
                rintro e w9 ⟨v9, z9, rfl, hz9, hth9, hf9, hb9⟩
                have hz9e : z9 = sh ms := by
                  have h := thru_sh (p := p) (xs := xs) HME.out (by rw [HML.out, HM.out])
                  rw [HVL.out] at hth9
                  exact hth9.unique HPR.out HND.out HEX.out h
                rw [hz9e] at hz9
                have HIX9 := Lib.hid (HIXe.out.below (Nat.le_refl _) hb9)
                have HG9 := Lib.hid (HG.out.below (Nat.le_refl _) hb9)
                have HIM9 := Lib.hid (HIMe.out.below (Nat.le_refl _) hb9)
                have hd9 := HDe.out.below hb9 HDe.out.size
                have HB9 := Lib.hid (HBe.out.trans (But.of_below hb9 (Nat.le_refl _)))
                have HZ9 := Lib.hid hz9
                have HF9 := Lib.hid hf9
                have hs9 := hb9.size
                clear hz9e hth9 hb9 hz9 hf9
                go_wp2_with fail
                refine (next_any _ s l p _ hd9 (by omega) (by omega)).mono ?_
                rintro e w10 ⟨y, y0, y1, rfl, hd10, hb10⟩
                have ey : El p y := ⟨y0, y1⟩
                have HIX10 := Lib.hid (HIX9.out.but hb10 (fun g hg => by have := hnb g hg; omega))
                have HG10 := Lib.hid (HG9.out.but hb10 (fun g hg => by have := HBB g hg; omega))
                have HIM10 := Lib.hid (HIM9.out.but hb10 (fun g hg => by have := hbm g hg; omega))
                have HZ10 := Lib.hid (HZ9.out.but hb10 (fun g hg => by have := HF9.out g hg; omega))
                have HB10 := Lib.hid ((HB9.out.trans hb10).below (Nat.le_refl _) (Nat.le_refl _))
                clear hd10 hb10 hd9
                have hws : wsum p xs (valsK p ms xs k) y xs.length % p = E ms y % p := by
                  refine Cg.eq ?_
                  exact weighted HPR.out HND.out HEX.out (by rw [HML.out, HM.out]; exact Nat.le_refl _) (fun i hi => by rw [HVL.out, vals_getD hi]; exact (Cg.mod p _).symm) y
                have HWS := Lib.hid hws
                clear hws
                go_wp2_with fail
                refine (interp_ok _ HPR.out hp3 ey HEX.out (vals_els hp1 ms xs k) HIX10.out HG10.out HHL.out HPL.out (by rw [HM.out]; omega)).mono ?_
                rw [HWS.out]
                rintro e w11 ⟨rfl, hb11⟩
                have HIM11 := Lib.hid (HIM10.out.below (Nat.le_refl _) hb11)
                have HZ11 := Lib.hid (HZ10.out.below (Nat.le_refl _) hb11)
                have HB11 := Lib.hid (HB10.out.trans (hb11.mono HB10.out.size))
                have hdm := dg_le ms
                rw [HML.out] at hdm
                obtain ⟨g, hg⟩ : ∃ g, dg ms = g := ⟨_, rfl⟩
                have HDG := Lib.hid (degree_any _ ms _ HIM11.out)
                have HMG := Lib.hid hg
                rw [hg] at hdm HDG
                have e1 : IntKind.i64.wrap ((g : Int) - 1 + 1) = (g : Int) := by rw [IntWalk.i64_in _ (by omega)]; omega
                have e2 : (g : Int) - 1 + 1 = (g : Int) := by omega
                clear hb11 hg
                go_wp2_with (go_at_call 18; refine HDG.out.mono ?_; rintro e w12 ⟨rfl, hb12⟩)
                have hsl := HIM11.out
                rw [← HML.out] at hsl
                have hsh := ints_sh hsl
                rw [HMG.out] at hsh
                have HSL := Lib.hid (hsh.below (Nat.le_refl _) hb12)
                have HZ12 := Lib.hid (HZ11.out.below (Nat.le_refl _) hb12)
                have HIM12 := Lib.hid (HIM11.out.below (Nat.le_refl _) hb12)
                have HB12 := Lib.hid (HB11.out.trans (hb12.mono HB11.out.size))
                clear hsl hsh hb12
                refine (same_yes _ _ (sh ms) _ HZ12.out HSL.out).mono ?_; rintro e w' ⟨rfl, rfl⟩
                have hey := el_mod hp1 (E ms y)
                have HEV := Lib.hid (eval_any _ hp1 hp3 ey HME.out HIM12.out)
                obtain ⟨vv, hvv⟩ : ∃ vv, E ms y % p = vv := ⟨_, rfl⟩
                rw [hvv] at HEV hey ⊢
                clear hvv
                go_wp2_with (first
                  | (go_at_call 16; refine HEV.out.mono ?_; rintro e w13 ⟨rfl, hb13⟩)
                  | (go_at_call 9; refine (awake_any _).mono ?_; rintro e w14 ⟨rfl, hbe⟩))
                go_ret
                exact ⟨rfl, (HB12.out.trans (hb13.mono HB12.out.size)).trans (hbe.mono (by have := HB12.out.size; have := hb13.size; omega))⟩
    · have h0' : m = 0 := by omega
      subst h0'
      have HBW := Lib.hid (hB2.below (Nat.le_refl _) (Nat.le_refl _))
      clear hB2 hd2 hIx hIy
      go_wp2_with (go_at_call 9; refine (awake_any _).mono ?_; rintro e w' ⟨rfl, hbe⟩)
      go_ret
      exact ⟨rfl, HBW.out.trans (hbe.mono HBW.out.size)⟩
  · have hl' := long_len hl
    clear hl
    go_enter Try.func5, Try.ntmps5
    go_wp2_with (first
      | (go_at_call 8; refine (light_any _ _ _ hs).mono ?_; rintro e w' ⟨rfl, rfl⟩)
      | (go_at_call 9; refine (awake_any _).mono ?_; rintro e w' ⟨rfl, hbe⟩))
    go_ret
    exact ⟨rfl, hbe⟩
end Go.Proofs.Ytpohhgbmdgjipaa
