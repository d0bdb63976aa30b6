
/- The walk of PolyDivides. -/
import Derived.Test.YtdanpnjfcajfnaaDiv
import Derived.Test.YtdanpnjfcajfnaaDivE
import Derived.Test.YtdanpnjfcajfnaaTLaw
import Derived.Test.YtdanpnjfcajfnaaRefLin
import Derived.BigQuiet
namespace Go.Proofs.Ytdanpnjfcajfnaa
open Go.RowKit Go.Sort
open Num
set_option linter.unusedVariables false

theorem div_back {p : Int} (hp : 1 ≤ p) {a b q r z : List Int} (ha : Els p a) (hd : DivS p a b q r) (hz : Prod p q b z) : sh (linF p z r 1) = sh a := by
  refine sh_cg hp (linF_els' hp _ _ _) ha fun i => ?_
  have h : Pc p (E (addL z r)) (E a) := ((Pc.of_eq fun x => E_addL z r x).trans (hz.pc.add (Pc.refl p (E r)))).trans hd.pc.symm
  have h2 := h.coef i
  rw [addL_getD] at h2
  exact ((linF_getD p z r 1 i).trans (Cg.of_eq (by omega))).trans h2

set_option maxRecDepth 100000 in
set_option maxHeartbeats 8000000 in
theorem polyDivides_walk (s : Value) (l : List Int) (w : World) (hs : Ints w s l) :
    Calls Try.prog 7 #[s] w fun e w' => e = .returned (.bool true) ∧ Below w.heap.size w w' := by
  by_cases hl : (l.length : Int) ≤ 500
  · have hl' : decide ((l.length : Int) ≤ 500) = true := by simpa using hl
    clear hl
    go_enter Try.func7, Try.ntmps7
    go_wp2_with (first
      | (go_at_call 8; refine (light_any _ _ _ hs).mono ?_; rintro e w' ⟨rfl, rfl⟩)
      | (go_at_call 10; refine (roll_any _ _ (slice_of hs)).mono ?_; rintro e w' ⟨rfl, rfl⟩))
    refine (prime_any _ s l _ (dice_new hs)).mono ?_
    rintro e w1 ⟨p, hprm, hp2, rfl, hd1, hbut⟩
    have hb1 := But.trans (But.alloc w.heap.size w _) hbut
    have hp0 : 2 ≤ p := hprm.1
    have hp1 : 1 ≤ p := by omega
    have hp3 : p ≤ 1073741824 := by omega
    have HPR := Lib.hid hprm
    have HB1 := Lib.hid hb1
    clear hbut hs hprm hb1
    go_wp2_with fail
    refine (next_any _ s l 9 _ hd1 (by omega) (by omega)).mono ?_
    rintro e w2 ⟨n1, n10, n11, rfl, hd2, hb2⟩
    obtain ⟨na, rfl⟩ : ∃ k : Nat, n1 = k := ⟨n1.toNat, by omega⟩
    have HB2 := Lib.hid (HB1.out.trans hb2)
    clear hb2 hd1
    go_wp2_with fail
    refine (dice_elements _ s l p na _ hd2 hp1 hp3 (by omega)).mono ?_
    rintro e w3 ⟨va, a, rfl, hal, hae, hga, hd3, hb3⟩
    have HB3 := Lib.hid (HB2.out.trans hb3)
    have hsw2 := hd2.size
    have hIa := hga.slc (by omega)
    obtain ⟨aa, ca, rfl, hca1, hca2, hIa⟩ := hIa
    have hba := hga.block
    have HAL := Lib.hid hal
    have HAE := Lib.hid hae
    have HIA := Lib.hid hIa
    have hd3s := hd3.size
    clear hb3 hd2 hga hIa hae
    rw [hal] at hca1 hba HIA ⊢
    go_wp2_with fail
    refine (next_any _ s l 5 _ hd3 (by omega) (by omega)).mono ?_
    rintro e w4 ⟨n2, n20, n21, rfl, hd4, hb4⟩
    obtain ⟨nb, hnb⟩ : ∃ k : Nat, 1 + n2 = k := ⟨(1 + n2).toNat, by omega⟩
    have HB4 := Lib.hid (HB3.out.trans hb4)
    have HIA4 := Lib.hid (HIA.out.but hb4 (fun g hg => by have := hba g hg; omega))
    clear hb4 hd3 HIA
    have e1 : IntKind.i64.wrap (1 + n2) = (nb : Int) := by rw [IntWalk.i64_in _ (by omega)]; exact hnb
    go_wp2_with fail
    try rw [hnb]
    refine (dice_elements _ s l p nb _ hd4 hp1 hp3 (by omega)).mono ?_
    rintro e w5 ⟨vb, b, rfl, hbl, hbe, hgb, hd5, hb5⟩
    have HB5 := Lib.hid ((HB4.out.trans hb5).below (Nat.le_refl _) (Nat.le_refl _))
    have HIA5 := Lib.hid (HIA4.out.but hb5 (fun g hg => by have := hba g hg; omega))
    have hIb := hgb.slc (by omega)
    obtain ⟨ab, cb, rfl, hcb1, hcb2, hIb⟩ := hIb
    have HBL := Lib.hid hbl
    have HBE := Lib.hid hbe
    have HIB5 := Lib.hid hIb
    have hnb5 : nb ≤ 5 := by omega
    have hna8 : na ≤ 8 := by omega
    have HDB := Lib.hid (dg_le b)
    clear hb5 hd4 hd5 hgb hIb hbe hba hnb n20 n21 n10 n11 HIA4 HB4 HB3 HB2 HB1 e1 hd3s hsw2 hal
    rw [hbl] at hcb1 HIB5 HDB ⊢
    clear hbl
    by_cases hdb : dg b = 0
    · have HDV := Lib.hid (divide_err p (.slice aa na ca) ab nb cb b _ HIB5.out hdb)
      go_wp2_with (go_at_call 14; refine HDV.out.mono ?_; rintro e w6 ⟨rfl, hb6⟩)
      have HDG := Lib.hid (degree_any _ b _ (HIB5.out.below (Nat.le_refl _) hb6))
      rw [hdb, show ((0 : Nat) : Int) - 1 = -1 from rfl] at HDG
      have HB6 := Lib.hid (HB5.out.trans (hb6.mono HB5.out.size))
      clear hb6
      go_wp2_with (go_at_call 18; refine HDG.out.mono ?_; rintro e w7 ⟨rfl, hb7⟩)
      have HB7 := Lib.hid (HB6.out.trans (hb7.mono HB6.out.size))
      clear hb7
      go_wp2_with (go_at_call 9; refine (awake_any _).mono ?_; rintro e w' ⟨rfl, hbe⟩)
      go_ret
      exact ⟨rfl, HB7.out.trans (hbe.mono HB7.out.size)⟩
    · obtain ⟨n, hn⟩ : ∃ n, dg b = n + 1 := ⟨dg b - 1, by omega⟩
      have HN := Lib.hid hn
      have HDV := Lib.hid ((callsIn_wide (n := 6)).1 (divide_any p aa ab na nb ca cb n a b _ HPR.out hp3 HAE.out HBE.out HIA5.out HIB5.out HAL.out.symm HBL.out.symm hn (by omega) (by omega) hcb1))
      have HMG := Lib.hid (dg_le a)
      clear hdb
      go_wp2_with (go_at_call 14; refine HDV.out.mono ?_; rintro e w6 ⟨vq, vr, q, r, rfl, hq6, hr6, hdv, hql, hb6⟩)
      have HDS := Lib.hid hdv
      have HQ6 := Lib.hid hq6
      have HR6 := Lib.hid hr6
      have HB6 := Lib.hid (HB5.out.trans (hb6.mono HB5.out.size))
      have HIA6 := Lib.hid (HIA5.out.below (Nat.le_refl _) hb6)
      have HIB6 := Lib.hid (HIB5.out.below (Nat.le_refl _) hb6)
      obtain ⟨aq, cq, rfl, -, -⟩ := id hq6
      obtain ⟨ar, cr, rfl, -, -⟩ := id hr6
      have HDG := Lib.hid (degree_any _ b _ HIB6.out)
      rw [hn, show ((n + 1 : Nat) : Int) - 1 = (n : Int) by omega] at HDG
      have hlt0 : decide ((n : Int) < 0) = false := decide_eq_false (by omega)
      clear hdv hq6 hr6 hb6 HIA5 HIB5
      go_wp2_with (go_at_call 18; refine HDG.out.mono ?_; rintro e w7 ⟨rfl, hb7⟩)
      have HB7 := Lib.hid (HB6.out.trans (hb7.mono HB6.out.size))
      have HIA7 := Lib.hid (HIA6.out.below (Nat.le_refl _) hb7)
      have HIB7 := Lib.hid (HIB6.out.below (Nat.le_refl _) hb7)
      have HQ7 := Lib.hid (HQ6.out.below (Nat.le_refl _) hb7)
      have HR7 := Lib.hid (HR6.out.below (Nat.le_refl _) hb7)
      have HMU := Lib.hid (pmul_any _ hp1 hp3 HDS.out.elQ HBE.out HQ7.out HIB7.out (by rw [HBL.out]; omega))
      clear hb7 HIA6 HIB6 HQ6 HR6
      go_wp2_with (go_at_call 21; refine HMU.out.mono ?_; rintro e w8 ⟨vz, z, rfl, hz8, hpz, hb8⟩)
      have HPZ := Lib.hid hpz
      have HB8 := Lib.hid (HB7.out.trans (hb8.mono HB7.out.size))
      have HIA8 := Lib.hid (HIA7.out.below (Nat.le_refl _) hb8)
      have HIB8 := Lib.hid (HIB7.out.below (Nat.le_refl _) hb8)
      have HQ8 := Lib.hid (HQ7.out.below (Nat.le_refl _) hb8)
      have HR8 := Lib.hid (HR7.out.below (Nat.le_refl _) hb8)
      have HZL : Hid (z.length ≤ 2000) := by show _ ≤ _; have h1 := hpz.len; rw [HBL.out] at h1; omega
      have HRL : Hid (r.length ≤ 2000) := by show _ ≤ _; have h1 := HDS.out.deg; have h2 := HDB.out; rw [← HDS.out.shR, sh_len]; omega
      have HLI := Lib.hid (ref_linear_any p 1 vz (.slice ar r.length cr) z r _ hp1 hp3 ⟨by omega, by omega⟩ hpz.els HDS.out.elR hz8 HR8.out (by have := HZL.out; omega) (by have := HRL.out; omega))
      clear hpz hz8 hb8 HIA7 HIB7 HQ7 HR7
      go_wp2_with (go_at_call 31; refine HLI.out.mono ?_; rintro e w9 ⟨vx, rfl, hg9, hb9⟩)
      have hlen9 := linF_len' p z r 1
      have hsl := hg9.slc (by rw [hlen9]; have := HZL.out; have := HRL.out; omega)
      have HXS : Hid (sh (linF p z r 1) = sh a) := div_back hp1 HAE.out HDS.out HPZ.out
      obtain ⟨x, hx⟩ : ∃ x, linF p z r 1 = x := ⟨_, rfl⟩
      have HXL : Hid (x.length ≤ 2000) := by show _ ≤ _; rw [← hx, hlen9]; have := HZL.out; have := HRL.out; omega
      rw [hx] at hsl HXS
      obtain ⟨ax, cx, rfl, hcx1, hcx2, hIx⟩ := hsl
      have HB9 := Lib.hid (HB8.out.trans (hb9.mono HB8.out.size))
      have HIA9 := Lib.hid (HIA8.out.below (Nat.le_refl _) hb9)
      have HIB9 := Lib.hid (HIB8.out.below (Nat.le_refl _) hb9)
      have HQ9 := Lib.hid (HQ8.out.below (Nat.le_refl _) hb9)
      have HR9 := Lib.hid (HR8.out.below (Nat.le_refl _) hb9)
      have HX9 := Lib.hid hIx
      clear hlen9 hg9 hx hIx hb9 HIA8 HIB8 HQ8 HR8 HZL HRL HLI HMU HDG HDV
      have hcase : (q.length = 0) ∨ (∃ k g o, q.length = k + 1 ∧ aq = some ⟨g, o, none⟩ ∧ w9.cell? ⟨g, o + k, none⟩ = some (.int .i64 (q.getD k 0)) ∧ q.getD k 0 ≠ 0) := by
        by_cases e : q.length = 0
        · exact .inl e
        · obtain ⟨g, o, rfl, hc⟩ := ints_at HQ9.out rfl (k := q.length - 1) (by omega)
          refine .inr ⟨q.length - 1, g, o, by omega, rfl, hc, ?_⟩
          have h := sh_last (l := q) (by rw [HDS.out.shQ]; omega)
          rw [HDS.out.shQ] at h; exact h
      have hgr1 : dg r < n + 1 := by have h := HDS.out.deg; rw [hn] at h; exact h
      have hIa2 : Ints w9 (.slice aa (dg a) ca) (sh a) := ints_sh (by rw [HAL.out]; exact HIA9.out)
      have hIx2 : Ints w9 (.slice ax (dg x) cx) (sh x) := ints_sh HX9.out
      rw [HXS.out] at hIx2
      have hgx1 := dg_le x
      have hga1 := dg_le a
      rw [HAL.out] at hga1
      have cB : ∀ d os, Calls Try.prog 18 #[.slice ab nb cb] (grow (redrawn w9 d) os) fun e w'' => e = .returned (.int .i64 n) ∧ ∃ q : Regrown, w'' = grow (redrawn w9 q.d) q.os := fun d os => by
        have h := Calls.regrown_of (degree_any _ b _ (HIB9.out.below (Nat.le_refl _) (below_regrown w9 d os)))
        rw [hn, show ((n + 1 : Nat) : Int) - 1 = (n : Int) by omega] at h; exact h
      have cR : ∀ d os, Calls Try.prog 18 #[.slice ar r.length cr] (grow (redrawn w9 d) os) fun e w'' => e = .returned (.int .i64 (dg r - 1)) ∧ ∃ q : Regrown, w'' = grow (redrawn w9 q.d) q.os := fun d os =>
        Calls.regrown_of (degree_any _ r _ (HR9.out.below (Nat.le_refl _) (below_regrown w9 d os)))
      have cX : ∀ d os, Calls Try.prog 18 #[.slice ax x.length cx] (grow (redrawn w9 d) os) fun e w'' => e = .returned (.int .i64 (dg x - 1)) ∧ ∃ q : Regrown, w'' = grow (redrawn w9 q.d) q.os := fun d os =>
        Calls.regrown_of (degree_any _ x _ (HX9.out.below (Nat.le_refl _) (below_regrown w9 d os)))
      have cA : ∀ d os, Calls Try.prog 18 #[.slice aa na ca] (grow (redrawn w9 d) os) fun e w'' => e = .returned (.int .i64 (dg a - 1)) ∧ ∃ q : Regrown, w'' = grow (redrawn w9 q.d) q.os := fun d os =>
        Calls.regrown_of (degree_any _ a _ (HIA9.out.below (Nat.le_refl _) (below_regrown w9 d os)))
      have cS : ∀ d os, Calls Try.prog 20 #[.slice ax (dg x) cx, .slice aa (dg a) ca] (grow (redrawn w9 d) os) fun e w'' => e = .returned (.bool true) ∧ ∃ q : Regrown, w'' = grow (redrawn w9 q.d) q.os := fun d os =>
        Calls.regrown_of ((same_yes _ _ (sh a) _ (hIx2.below (Nat.le_refl _) (below_regrown w9 d os)) (hIa2.below (Nat.le_refl _) (below_regrown w9 d os))).mono fun e w'' ⟨h1, h2⟩ => ⟨h1, h2 ▸ Below.refl _ _⟩)
      have cW : ∀ d os, Calls Try.prog 9 #[] (grow (redrawn w9 d) os) fun e w'' => e = .returned (.bool true) ∧ ∃ q : Regrown, w'' = grow (redrawn w9 q.d) q.os := fun d os =>
        Calls.regrown_of (awake_any _)
      obtain ⟨gr, hgr⟩ : ∃ k, dg r = k := ⟨_, rfl⟩
      obtain ⟨gx, hgx⟩ : ∃ k, dg x = k := ⟨_, rfl⟩
      obtain ⟨ga, hga⟩ : ∃ k, dg a = k := ⟨_, rfl⟩
      rw [hgr] at cR hgr1
      rw [hgx] at cX cS hgx1
      rw [hga] at cA cS hga1
      have hxl2 := HXL.out
      obtain ⟨lx, hlx⟩ : ∃ k, x.length = k := ⟨_, rfl⟩
      rw [hlx] at cX hgx1 hcx1 hxl2 ⊢
      obtain ⟨lr, hlr⟩ : ∃ k, r.length = k := ⟨_, rfl⟩
      rw [hlr] at cR ⊢
      obtain ⟨lq, hlq⟩ : ∃ k, q.length = k := ⟨_, rfl⟩
      rw [hlq] at hcase hql ⊢
      have t1 : IntKind.i64.wrap ((gx : Int) - 1 + 1) = (gx : Int) := by rw [IntWalk.i64_in _ (by omega)]; omega
      have t2 : IntKind.i64.wrap ((ga : Int) - 1 + 1) = (ga : Int) := by rw [IntWalk.i64_in _ (by omega)]; omega
      have t3 : decide ((gr : Int) - 1 < (n : Int)) = true := decide_eq_true (by omega)
      clear hgr hgx hga hlx hlr hlq hIa2 hIx2 HIA9 HIB9 HQ9 HR9 HX9 HXS HXL hn hgr1 HDB HMG HAE HBE
      rcases hcase with rfl | ⟨k, g, o, rfl, rfl, hcl, hne⟩
      all_goals
        first
          | (have hne' : (q.getD k 0 == 0) = false := by simpa using hne
             have u0 : ((k + 1 : Nat) : Int) - 1 = (k : Int) := by omega
             have u1 : ((k : Int) + 1 == 0) = false := by simp; omega
             have u2 : IntKind.i64.wrap ((k : Int) + 1 - 1) = (k : Int) := by rw [IntWalk.i64_in _ (by omega)]; omega
             have cC := cell_regrown hcl
             clear hcl
             generalize q.getD k 0 = qv at *
             have u3 : decide (qv = 0) = false := decide_eq_false hne
             have u4 : (qv != 0) = true := by simpa using hne)
          | skip
        go_wp2
        refine wp_region_quiet_below (by kernel_rfl) (by kernel_rfl) ?_
        repeat (go_big_quiet_step (first | with_reducible exact cR _ _ | with_reducible exact cB _ _ | with_reducible exact cX _ _ | with_reducible exact cA _ _ | with_reducible exact cS _ _ | with_reducible exact cW _ _))
        refine wpQuiet_nil ?_
        intro _ hw'
        obtain ⟨⟨dq, osq⟩, hw''⟩ := hw'
        subst hw''
        have hbq := below_regrown w9 dq osq
        have HBQ := Lib.hid (HB9.out.trans (hbq.mono HB9.out.size))
        clear cR cB cX cA cS cW hbq
        generalize grow (redrawn w9 dq) osq = w10 at *
        go_wp2
        go_ret
        exact ⟨rfl, HBQ.out⟩
  · have hl' := long_len hl
    clear hl
    go_enter Try.func7, Try.ntmps7
    go_wp2_with (first
      | (go_at_call 8; refine (light_any _ _ _ hs).mono ?_; rintro e w' ⟨rfl, rfl⟩)
      | (go_at_call 9; refine (awake_any _).mono ?_; rintro e w' ⟨rfl, hbe⟩))
    go_ret
    exact ⟨rfl, hbe⟩
end Go.Proofs.Ytdanpnjfcajfnaa
