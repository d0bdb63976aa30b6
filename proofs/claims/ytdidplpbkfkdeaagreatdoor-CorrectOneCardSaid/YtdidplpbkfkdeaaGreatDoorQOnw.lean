
/- The walk through CorrectOne. -/
import Derived.Test.YtdidplpbkfkdeaaGreatDoorQLid
import Derived.Test.YtdidplpbkfkdeaaGreatDoorHDlt
import Derived.Test.YtdidplpbkfkdeaaGreatDoorQAwk
import Derived.Test.YtdidplpbkfkdeaaGreatDoorQOnE
import Derived.Deep.RegionHeld3
import Derived.BigQuiet
import Derived.Lib.QuietBelow
namespace Go.Proofs.YtdidplpbkfkdeaaGreatDoor
open Go.RowKit Go.Sort
open Num
set_option linter.unusedVariables false

set_option maxRecDepth 100000 in
set_option maxHeartbeats 4000000 in
theorem ref7_room (p k n s : Int) (w : World) (hk1 : 1 ≤ k) (hk : (Lit.int .i64 k).wf = true) (hs : (Lit.int .i64 s).wf = true) :
    Calls Tryz.prog 18 #[planV p k n, .int .i64 s] w fun e w' => e = .returned (.int .i64 (roomV k s)) ∧ Below w.heap.size w w' := by
  unfold planV
  have HB : Hid (Below w.heap.size w (w.alloc (Obj.cells #[Value.int IntKind.i64 p, Value.int IntKind.i64 k, Value.int IntKind.i64 n] 29))) := (Below.refl _ _).alloc (Nat.le_refl _) _
  have hk2 := wf_range hk
  have hs2 := wf_range hs
  by_cases hlt : s < k
  · have HR : Hid (roomV k s = -1) := by show _ = _; unfold roomV; rw [if_pos hlt]
    rw [HR.out]
    clear hk hs hk2 hs2
    go_enter Tryz.func18, Tryz.ntmps18
    go_wp2
    go_ret
    exact ⟨rfl, HB.out⟩
  · have HR : Hid (roomV k s = (s - k) / 2) := by show _ = _; unfold roomV; rw [if_neg hlt]
    rw [HR.out]
    have u5 : 0 ≤ s - k := by omega
    obtain ⟨r, hr⟩ : ∃ r, (s - k) / 2 = r := ⟨_, rfl⟩
    have u3 : IntKind.i64.wrap (s - k) = s - k := by rw [IntKind.wrap_i64]; omega
    have u4 : IntKind.i64.wrap r = r := by rw [IntKind.wrap_i64]; omega
    have u7 : (s - k).tdiv 2 = r := by rw [Int.tdiv_eq_ediv_of_nonneg u5]; exact hr
    have HRR := Lib.hid hr
    clear hk hs hr
    go_enter Tryz.func18, Tryz.ntmps18
    go_wp2
    go_ret
    exact ⟨by rw [HRR.out]; rfl, HB.out⟩
theorem oneA_unique {p need lies : Int} {xs ys f g : List Int} {c d : Int} (hf : OneA p need lies xs ys f c) (hg : OneA p need lies xs ys g d) : f = g ∧ c = d := by
  by_cases h : oneC p need lies xs ys = 0
  · obtain ⟨hc, hf⟩ := hf.2 h
    obtain ⟨hd, hg⟩ := hg.2 h
    have hall : vB p = true ∧ 1 ≤ need ∧ 0 ≤ lies ∧ xs.length = ys.length ∧ xs.length ≤ 16 ∧ Els p xs ∧ Els p ys ∧ xs.Nodup := by
      apply Classical.byContradiction
      intro hn
      rw [oneC_bad hn] at h
      omega
    have hfew : ¬ (xs.length : Int) < need + 2 * lies := fun hn => by
      rw [oneC_few hall hn] at h
      omega
    exact OneR.unique (vB_out hall.1).1 hc hd hall.2.2.2.1 hall.2.2.2.2.2.2.2 hall.2.2.2.2.2.1 (by have := hall.2.1; have := hall.2.2.1; omega) hf hg
  · obtain ⟨rfl, rfl⟩ := hf.1 h
    obtain ⟨rfl, rfl⟩ := hg.1 h
    exact ⟨rfl, rfl⟩
theorem lit4 (w : World) (z : Int) (t : TypeId) (k : Nat) (hk : k < 4) : (w.alloc (.cells #[.int .i64 0, .int .i64 1, .int .i64 2, .int .i64 z] t)).cell? ⟨w.heap.size, k, none⟩ = some (.int .i64 ([0, 1, 2, z].getD k 0)) := by
  have : k = 0 ∨ k = 1 ∨ k = 2 ∨ k = 3 := by omega
  rcases this with rfl | rfl | rfl | rfl <;> (rw [World.cell?_alloc_at _ _ _ _ (by simp)]; rfl)
theorem neq_self7 (x : Int) : (x != x) = false := by simp
theorem eq_self7 (x : Int) : (x == x) = true := by simp

set_option maxRecDepth 100000 in
set_option maxHeartbeats 16000000 in
theorem correctOne_walk (s : Value) (l : List Int) (pp need lies : Int) (vx : Value) (xl : List Int) (vy : Value) (yl : List Int) (w : World) (hw : Wheel w) (hs : Ints w s l) (hpw : (Lit.int .i64 pp).wf = true) (hnw : (Lit.int .i64 need).wf = true) (hlw : (Lit.int .i64 lies).wf = true) (hx : Slc w vx xl) (hy : Slc w vy yl) (bx : ∀ q, vx.ownBlock = some q → q < w.heap.size) (by' : ∀ q, vy.ownBlock = some q → q < w.heap.size) :
    Calls Tryz.prog 3 #[s, .int .i64 pp, .int .i64 need, .int .i64 lies, vx, vy] w fun e w' => e = .returned (.bool true) ∧ Below w.heap.size w w' := by
  have HL := Lib.hid (light_any s l w hs)
  have HAW := Lib.hid (awake7_any w hw)
  obtain ⟨g, hg⟩ : ∃ g, w.heap.size = g := ⟨_, rfl⟩
  have hd0 := dice_new hs
  have hta : 1 < g := by rw [← hg]; exact hw.size
  obtain ⟨bl, hbl⟩ : ∃ b, decide ((l.length : Int) ≤ 500) = b := ⟨_, rfl⟩
  rw [hbl] at HL
  have HR := Lib.hid (roll_any s w (by obtain ⟨a, c, h, _⟩ := hs; exact ⟨a, _, c, h⟩))
  rw [hg] at HR hd0
  rw [hg]
  have HW0 := Lib.hid (hw.below hw.size ((Below.refl w.heap.size w).alloc (Nat.le_refl _) (.cells #[s, .int .i64 0] 61)))
  have HB0 : Hid (Below g w (w.alloc (.cells #[s, .int .i64 0] 61))) := by rw [← hg]; exact (Below.refl _ _).alloc (Nat.le_refl _) _
  have HD0 := Lib.hid hd0
  have HPW := Lib.hid hpw
  have HNW := Lib.hid hnw
  have HLW := Lib.hid hlw
  obtain ⟨ax, cx, rfl, hx1, hx2, hx3⟩ := hx
  obtain ⟨ay, cy, rfl, hy1, hy2, hy3⟩ := hy
  obtain ⟨nx, hnx⟩ : ∃ n, xl.length = n := ⟨_, rfl⟩
  obtain ⟨ny, hny⟩ : ∃ n, yl.length = n := ⟨_, rfl⟩
  rw [hnx] at hx1 hx3 ⊢
  rw [hny] at hy1 hy3 ⊢
  have HNX := Lib.hid hnx
  have HNY := Lib.hid hny
  have HIX := Lib.hid hx3
  have HIY := Lib.hid hy3
  have HXC : Hid (nx ≤ cx ∧ cx ≤ 9223372036854775807) := ⟨hx1, hx2⟩
  have HYC : Hid (ny ≤ cy ∧ cy ≤ 9223372036854775807) := ⟨hy1, hy2⟩
  have HWG := Lib.hid hg
  clear hd0 hw hs hbl hpw hnw hlw bx by' hx1 hx2 hx3 hy1 hy2 hy3 hnx hny
  cases bl with
  | false =>
    go_enter Tryz.func3, Tryz.ntmps3
    go_wp2_with fail
    refine HL.out.mono ?_
    rintro e w' ⟨rfl, rfl⟩
    go_wp2_with fail
    refine HAW.out.mono ?_
    rintro e w' ⟨rfl, hb⟩
    rw [hg] at hb
    have HB := Lib.hid hb
    clear hb
    go_wp2
    go_ret
    exact ⟨rfl, HB.out⟩
  | true =>
    by_cases h20 : 20 < nx
    · have x1 : (20 : Int) < (nx : Int) := by omega
      go_enter Tryz.func3, Tryz.ntmps3
      go_wp2_with fail
      refine HL.out.mono ?_
      rintro e w' ⟨rfl, rfl⟩
      go_wp2_with fail
      refine HAW.out.mono ?_
      rintro e w' ⟨rfl, hb⟩
      rw [hg] at hb
      have HB := Lib.hid hb
      clear hb
      go_wp2
      go_ret
      exact ⟨rfl, HB.out⟩
    have x1 : decide ((20 : Int) < (nx : Int)) = false := by simp; omega
    by_cases h21 : 20 < ny
    · have x2 : (20 : Int) < (ny : Int) := by omega
      go_enter Tryz.func3, Tryz.ntmps3
      go_wp2_with fail
      refine HL.out.mono ?_
      rintro e w' ⟨rfl, rfl⟩
      go_wp2_with fail
      refine HAW.out.mono ?_
      rintro e w' ⟨rfl, hb⟩
      rw [hg] at hb
      have HB := Lib.hid hb
      clear hb
      go_wp2
      go_ret
      exact ⟨rfl, HB.out⟩
    have x2 : decide ((20 : Int) < (ny : Int)) = false := by simp; omega
    have HL20 : Hid (nx ≤ 20 ∧ ny ≤ 20) := ⟨by omega, by omega⟩
    go_enter Tryz.func3, Tryz.ntmps3
    go_wp2_with fail
    refine HL.out.mono ?_
    rintro e w' ⟨rfl, rfl⟩
    go_wp2_with fail
    refine HR.out.mono ?_
    rintro e w1 ⟨rfl, rfl⟩
    generalize w.alloc (.cells #[s, .int .i64 0] 61) = w1 at *
    go_wp2_with fail
    refine (prime_any g s l w1 HD0.out).mono ?_
    rintro e w2 ⟨p, hprm, hp2, rfl, hd2, hb2⟩
    have HPRM := Lib.hid hprm
    have hpp : 2 ≤ p := by have := hprm.1; omega
    have HP2 := Lib.hid hp2
    have HD2 := Lib.hid hd2
    have HB2 := Lib.hid (HB0.out.trans (hb2.below (Nat.le_refl _) (Nat.le_of_lt HD0.out.size)))
    have HW2 := Lib.hid (HW0.out.below hta (hb2.below (Nat.le_refl _) (Nat.le_of_lt HD0.out.size)))
    clear hb2 hd2 hprm HD0 HB0 HW0 HL HR x1 x2 h20 h21
    go_wp2_with fail
    refine (plan_any g s l p w2 HD2.out hpp (by omega)).mono ?_
    rintro e w3 ⟨k, n, rfl, hk1, hkn, hn7, hnp, hd3, hb3⟩
    have HPB : Hid (planB p k n = true) := planB_of HPRM.out (by have := HP2.out; omega) hk1 hkn (by omega) hnp
    obtain ⟨K, hK⟩ := Int.eq_ofNat_of_zero_le (show 0 ≤ k - 1 by omega)
    obtain ⟨N, rfl⟩ := Int.eq_ofNat_of_zero_le (show 0 ≤ n by omega)
    obtain rfl : k = (K : Int) + 1 := by omega
    have HKN : Hid (K + 1 ≤ N ∧ N ≤ 7) := ⟨by omega, by omega⟩
    have HNP := Lib.hid hnp
    have hb3' := hb3.below (Nat.le_refl _) (Nat.le_of_lt HD2.out.size)
    have hg3 : g < w3.heap.size := hd3.size
    have hST : StL w (w3.alloc (.cells #[.int .i64 p, .int .i64 ((K : Int) + 1), .int .i64 (N : Int)] 29)) g w3.heap.size s l p ((K : Int) + 1) (N : Int) := by
      have hal : Below w3.heap.size w3 (w3.alloc (.cells #[.int .i64 p, .int .i64 ((K : Int) + 1), .int .i64 (N : Int)] 29)) := (Below.refl _ _).alloc (Nat.le_refl _) _
      exact ⟨hd3.below hal hg3, planAt_new _ _ _ _ _, (HW2.out.below hta hb3').below (by omega) hal, (HB2.out.trans hb3').trans (hal.mono (by omega)), hg3, by simp, hta⟩
    have HST := Lib.hid hST
    clear hST hb3 hb3' hg3 hd3 HB2 HW2 HD2 hK hk1 hkn hn7 hnp hp2
    unfold planV
    go_wp2_with fail
    obtain ⟨gp, hgp⟩ : ∃ gp, w3.heap.size = gp := ⟨_, rfl⟩
    rw [hgp] at HST ⊢
    generalize w3.alloc (.cells #[.int .i64 p, .int .i64 ((K : Int) + 1), .int .i64 (N : Int)] 29) = w4 at *
    clear hgp
    have hpm : p ≤ 1073741824 := by have := HP2.out; omega
    have hp1 : 1 ≤ p := by omega
    have HDE : Hid (Calls Tryz.prog 10 #[.pointer (some ⟨g, 0, none⟩), .agg #[.int .i64 p, .int .i64 ((K : Int) + 1), .int .i64 (N : Int)], .int .i64 1] w4 fun e w' => ∃ v1 v2 S R, e = .returned (.tuple #[v1, v2]) ∧ 1 ≤ S.length ∧ S.length ≤ 1 ∧ Els p S ∧ Gath w' w4.heap.size v1 S ∧ SharesN w' w4.heap.size v2 (dealF p K N S R) ∧ DiceAt w' g s l ∧ But g w4 w') :=
      dealt_all g s l p K N 1 w4 HST.out.di HPRM.out hpm HPB.out HKN.out ⟨by omega, by omega⟩
    have c0 := HST.out.pl.c0
    have c1 := HST.out.pl.c1
    have c2 := HST.out.pl.c2
    go_wp2_with fail
    refine HDE.out.mono ?_
    rintro e w5 ⟨v5, v6, S, R, rfl, hS1, hS3, hSE, hSG, hSN, hd5, hb5⟩
    have HG4 : Hid (g < w4.heap.size) := Nat.lt_trans HST.out.lt HST.out.sz
    have HS5 := Lib.hid (HST.out.but hb5 hd5)
    have HSS : Hid (1 ≤ S.length ∧ S.length ≤ 1) := ⟨hS1, hS3⟩
    have HSE := Lib.hid hSE
    have HSG := Lib.hid (hSG.mono HG4.out)
    have HSN := Lib.hid (hSN.mono HG4.out)
    have HON := Lib.hid (dealF_on p K N S R)
    have HGD := Lib.hid (dealF_gd hp1 K N S R)
    obtain ⟨a5, c5, rfl⟩ := HSG.out.shape
    obtain ⟨a6, c6, rfl, hc6, hc6b⟩ := HSN.out.shape
    rw [dealF_len] at HSN hc6 ⊢
    obtain ⟨L, hL⟩ : ∃ L, dealF p K N S R = L := ⟨_, rfl⟩
    rw [hL] at HSN HON HGD
    have hl2 : L.length = N := by rw [← hL, dealF_len]
    have HGL := HGD
    have HOL := HON
    have HLL := Lib.hid hl2
    have HN6 := HSN
    have HS6 := HS5
    have HSG6 := HSG
    obtain ⟨m2, hm2⟩ : ∃ m2, m2 = N := ⟨_, rfl⟩
    have HM2 : Hid (K + 1 ≤ N ∧ N ≤ 7) := HKN.out
    clear hm2 hb5 hd5 hSE hSG hSN hS1 hS3 HDE HST hl2 hL HSN HS5 HSG HON HGD
    go_wp2_with fail
    refine (next_any g s l 3 w5 HS6.out.di (by omega) (by omega)).mono ?_
    rintro e w6 ⟨r, r0, r1, rfl, hd6, hb6⟩
    obtain ⟨T0, rfl⟩ := Int.eq_ofNat_of_zero_le r0
    have HS7 := Lib.hid (HS6.out.but hb6 hd6)
    have HN7 := Lib.hid (HN6.out.but hb6 (Nat.lt_succ_self g))
    have HT0 : Hid (T0 ≤ 2) := by show _ ≤ _; omega
    obtain ⟨T, hT1, hT2, hT3⟩ : ∃ T, T ≤ N ∧ T ≤ T0 ∧ (T = T0 ∨ T = N) := ⟨min T0 N, by omega, by omega, by omega⟩
    have HLI := Lib.hid (lie_anyM g s l p T0 T S.length (.slice a6 N c6) L w6 HS7.out.di hpp hpm HN7.out.shares HSS.out.1 (by have := HSS.out; omega) HGL.out.len HGL.out.els (fun x hx => by have := HGL.out.hold x hx; have := HKN.out; omega) (by rw [HLL.out]; exact hT1) hT2 (by rw [HLL.out]; exact hT3) (by have := HT0.out; omega) (by rw [HLL.out]; have := HM2.out; omega) (by rw [HLL.out]; have := HM2.out; omega))
    clear hb6 hd6 HS6 HSG6 HN6 c0 c1 c2 r0 r1 hT1 hT2 hT3
    go_wp2_with fail
    refine HLI.out.mono ?_
    rintro e w7 ⟨v9, o9, L', rfl, hn9, ho9, hlp, hd, hb⟩
    have HS9 := Lib.hid (HS7.out.but hb hd)
    have HN9 := Lib.hid hn9.shares
    have HLP := Lib.hid hlp
    have HGL' := Lib.hid (lie_gd HLP.out HGL.out)
    have hll' : L'.length = N := by rw [HLP.out.len, HLL.out]
    have HLL' := Lib.hid hll'
    obtain ⟨a9, c9, rfl, hc9, hc9b⟩ := hn9.shape
    rw [hll'] at HN9 ⊢
    clear hd hb hn9 ho9 hlp HLI HS7 HN7
    have HPT := Lib.hid (ref6_points (.slice a9 N c9) L' 0 w7 HN9.out (fun x hx => by
      have h1 := HGL'.out.len x hx
      have := HSS.out
      omega) (by omega))
    go_wp2_with fail
    refine HPT.out.mono ?_
    rintro e w8 ⟨ux, uy, rfl, htg⟩
    have HS10 := Lib.hid (HS9.out.below (htg.be))
    obtain ⟨X, hX⟩ : ∃ X, L'.map (fun s : Shr => s.1) = X := ⟨_, rfl⟩
    obtain ⟨Y, hY⟩ : ∃ Y, L'.map (fun s : Shr => s.2.getD 0 0) = Y := ⟨_, rfl⟩
    rw [hX, hY] at htg
    have hXl : X.length = N := by rw [← hX, List.length_map, hll']
    have hYl : Y.length = N := by rw [← hY, List.length_map, hll']
    obtain ⟨bx, ex, rfl, ex1, ex2, ex3⟩ := htg.gx.slc (by have := HKN.out; omega)
    obtain ⟨by0, ey, rfl, ey1, ey2, ey3⟩ := htg.gy.slc (by have := HKN.out; omega)
    rw [hXl] at ex1 ex3 ⊢
    rw [hYl] at ey1 ey3 ⊢
    have HEX : Hid (N ≤ ex ∧ ex ≤ 9223372036854775807 ∧ N ≤ ey ∧ ey ≤ 9223372036854775807) := ⟨ex1, ex2, ey1, ey2⟩
    have HXY : Hid (X.length = N ∧ Y.length = N) := ⟨hXl, hYl⟩
    have HI3 := Lib.hid ex3
    have HI4 := Lib.hid ey3
    clear htg ex1 ex2 ex3 ey1 ey2 ey3 hX hY hXl hYl HPT HS9 HN9 hc9 hc9b hll' hg hc6 hc6b
    go_wp2
    obtain ⟨gl, hgl⟩ : ∃ gl, w8.heap.size = gl := ⟨_, rfl⟩
    have hal := (Below.refl w8.heap.size w8).alloc (Nat.le_refl _) (.cells #[.int .i64 0, .int .i64 1, .int .i64 2, .int .i64 lies] 3)
    have HLC : Hid (∀ k, k < 4 → (w8.alloc (.cells #[.int .i64 0, .int .i64 1, .int .i64 2, .int .i64 lies] 3)).cell? ⟨gl, k, none⟩ = some (.int .i64 ([0, 1, 2, lies].getD k 0))) := fun k hk => by rw [← hgl]; exact lit4 w8 lies _ k hk
    have HLZ : Hid (gl < (w8.alloc (.cells #[.int .i64 0, .int .i64 1, .int .i64 2, .int .i64 lies] 3)).heap.size) := by rw [← hgl]; show _ < _; simp
    have HS11 := Lib.hid (HS10.out.below hal)
    have HI5 := Lib.hid (HI3.out.below (Nat.le_refl _) hal)
    have HI6 := Lib.hid (HI4.out.below (Nat.le_refl _) hal)
    rw [hgl]
    clear hal hgl HS10 HI3 HI4
    generalize w8.alloc (.cells #[.int .i64 0, .int .i64 1, .int .i64 2, .int .i64 lies] 3) = w9 at *
    have HKW : Hid (∀ k, k < 4 → (Lit.int .i64 ([0, 1, 2, lies].getD k 0)).wf = true) := fun k hk => by
      have : k = 0 ∨ k = 1 ∨ k = 2 ∨ k = 3 := by omega
      rcases this with rfl | rfl | rfl | rfl
      · show (Lit.int .i64 0).wf = true; decide
      · show (Lit.int .i64 1).wf = true; decide
      · show (Lit.int .i64 2).wf = true; decide
      · exact HLW.out
    have HPF := Lib.hid (wf_small hp1 hpm)
    have HKF : Hid ((Lit.int .i64 ((K : Int) + 1)).wf = true) := wf64 (by omega) (by have := HKN.out; omega)
    go_loopw [74] (fun i wr => ∃ j : Nat, j ≤ 4 ∧ i = .int .i64 j ∧ Hid (Below w9.heap.size w9 wr)) (fun i _ => 4 - (intOf i).toNat)
    case atStart => exact ⟨0, by omega, rfl, Below.refl _ _⟩
    case round =>
      obtain ⟨j, hj, rfl, HR⟩ := hrel
      obtain ⟨wo, hwo⟩ : ∃ wo, wo = wr := ⟨_, rfl⟩
      subst hwo
      have HSr := Lib.hid (HS11.out.below HR.out)
      by_cases hlt : j < 4
      · have i1 : (j : Int) < 4 := by omega
        have i2 : decide ((j : Int) < 4) = true := decide_eq_true i1
        have i3 : decide (j < 4) = true := decide_eq_true hlt
        have hc : wo.cell? ⟨gl, j, none⟩ = some (.int .i64 ([0, 1, 2, lies].getD j 0)) := by rw [HR.out.cell (p := ⟨gl, j, none⟩) HLZ.out]; exact HLC.out j hlt
        have HKJ := Lib.hid (HKW.out j hlt)
        generalize [0, 1, 2, lies].getD j 0 = kk at hc HKJ
        have HO1 := Lib.hid (one_any p ((K : Int) + 1) kk (.slice bx N ex) (.slice by0 N ey) X Y wo HSr.out.wh HPF.out HKF.out HKJ.out (HI5.out.below (Nat.le_refl _) HR.out) (HI6.out.below (Nat.le_refl _) HR.out))
        have c1 := HSr.out.pl.c1
        go_wp2_with fail
        refine HO1.out.mono ?_
        rintro e w10 ⟨v1, f1, cc1, rfl, hA1, hI1, hb⟩
        have HB10 := Lib.hid (HR.out.trans (hb.mono HR.out.size))
        have HS12 := Lib.hid (HS11.out.below HB10.out)
        have HA1 := Lib.hid hA1
        have HI1 := Lib.hid hI1
        obtain ⟨a1, d1, rfl⟩ := hI1.shape
        have HO2 := Lib.hid (ref7_one_any p ((K : Int) + 1) kk bx by0 N N ex ey X Y w10 HPF.out HKF.out HKJ.out (HI5.out.below (Nat.le_refl _) HB10.out) HEX.out.1 HEX.out.2.1 (HI6.out.below (Nat.le_refl _) HB10.out) HXY.out.1 HXY.out.2 (by have := HKN.out; omega) (by have := HKN.out; omega))
        have c1 := HS12.out.pl.c1
        clear hb hA1 hI1 hc HO1
        go_wp2_with fail
        refine HO2.out.mono ?_
        rintro e w11 ⟨v2, f2, cc2, rfl, hA2, hI2, hb⟩
        have HB11 := Lib.hid (HB10.out.trans (hb.mono HB10.out.size))
        have HI7 := Lib.hid (HI1.out.below (Nat.le_refl _) hb)
        obtain ⟨rfl, rfl⟩ := oneA_unique HA1.out hA2
        have HI8 := Lib.hid hI2
        obtain ⟨a2, d2, rfl⟩ := hI2.shape
        have HSM := Lib.hid (same_yes _ _ f1 w11 HI7.out HI8.out)
        have q1 := neq_self7 cc1
        obtain ⟨lf, hlf⟩ : ∃ lf, f1.length = lf := ⟨_, rfl⟩
        rw [hlf] at HSM ⊢
        clear hb hA2 hI2 HO2 c1 hlf
        go_wp2_with fail
        refine HSM.out.mono ?_
        rintro e w' ⟨rfl, rfl⟩
        go_wp2
        go_roundw
        case rel => exact ⟨j + 1, by omega, by go_num, HB11.out⟩
        case measure => simp [intOf]; omega
      · obtain rfl : j = 4 := by omega
        have hgw : w.heap.size ≤ g := Nat.le_of_eq HWG.out
        have HO1 := Lib.hid (one_any pp need lies (.slice ax nx cx) (.slice ay ny cy) xl yl wo HSr.out.wh HPW.out HNW.out HLW.out (HIX.out.below hgw HSr.out.be) (HIY.out.below hgw HSr.out.be))
        go_wp2_with fail
        refine HO1.out.mono ?_
        rintro e w10 ⟨v1, f1, cc1, rfl, hA1, hI1, hb⟩
        have HB10 := Lib.hid (HR.out.trans (hb.mono HR.out.size))
        have HS12 := Lib.hid (HS11.out.below HB10.out)
        have HA1 := Lib.hid hA1
        have HI1 := Lib.hid hI1
        obtain ⟨a1, d1, rfl⟩ := hI1.shape
        have HO2 := Lib.hid (ref7_one_any pp need lies ax ay nx ny cx cy xl yl w10 HPW.out HNW.out HLW.out (HIX.out.below hgw HS12.out.be) HXC.out.1 HXC.out.2 (HIY.out.below hgw HS12.out.be) HNX.out HNY.out (by have := HL20.out; omega) (by have := HL20.out; omega))
        clear hb hA1 hI1 HO1
        go_wp2_with fail
        refine HO2.out.mono ?_
        rintro e w11 ⟨v2, f2, cc2, rfl, hA2, hI2, hb⟩
        have HB11 := Lib.hid (HB10.out.trans (hb.mono HB10.out.size))
        have HI7 := Lib.hid (HI1.out.below (Nat.le_refl _) hb)
        have HS13 := Lib.hid (HS11.out.below HB11.out)
        obtain ⟨rfl, rfl⟩ := oneA_unique HA1.out hA2
        have HI8 := Lib.hid hI2
        obtain ⟨a2, d2, rfl⟩ := hI2.shape
        obtain ⟨lf, hlf⟩ : ∃ lf, f1.length = lf := ⟨_, rfl⟩
        rw [hlf] at HI7 HI8 ⊢
        have q1 := eq_self7 cc1
        have p0 := cell_regrown HS13.out.pl.c0
        have p1 := cell_regrown HS13.out.pl.c1
        have p2 := cell_regrown HS13.out.pl.c2
        have cS : ∀ d os, Calls Tryz.prog 16 #[.slice a1 lf d1, .slice a2 lf d2] (grow (redrawn w11 d) os) fun e w'' => e = .returned (.bool true) ∧ ∃ p : Regrown, w'' = grow (redrawn w11 p.d) p.os := fun d os =>
          Calls.regrown_of (pure_below (same_yes _ _ f1 _ (HI7.out.below (Nat.le_refl _) (below_regrown w11 d os)) (HI8.out.below (Nat.le_refl _) (below_regrown w11 d os))))
        have cR1 : ∀ d os, Calls Tryz.prog 17 #[.agg #[.int .i64 p, .int .i64 ((K : Int) + 1), .int .i64 (N : Int)], .int .i64 (N : Int)] (grow (redrawn w11 d) os) fun e w'' => e = .returned (.int .i64 (roomV ((K : Int) + 1) (N : Int))) ∧ ∃ p : Regrown, w'' = grow (redrawn w11 p.d) p.os := fun d os => by
          have h := room_any p ((K : Int) + 1) (N : Int) (N : Int) (grow (redrawn w11 d) os) (by omega) HKF.out (wf64 (by omega) (by have := HKN.out; omega))
          unfold planV at h
          exact Calls.regrown_of h
        have cR2 : ∀ d os, Calls Tryz.prog 18 #[.agg #[.int .i64 p, .int .i64 ((K : Int) + 1), .int .i64 (N : Int)], .int .i64 (N : Int)] (grow (redrawn w11 d) os) fun e w'' => e = .returned (.int .i64 (roomV ((K : Int) + 1) (N : Int))) ∧ ∃ p : Regrown, w'' = grow (redrawn w11 p.d) p.os := fun d os => by
          have h := ref7_room p ((K : Int) + 1) (N : Int) (N : Int) (grow (redrawn w11 d) os) (by omega) HKF.out (wf64 (by omega) (by have := HKN.out; omega))
          unfold planV at h
          exact Calls.regrown_of h
        have cR3 : ∀ d os, Calls Tryz.prog 17 #[.agg #[.int .i64 p, .int .i64 ((K : Int) + 1), .int .i64 (N : Int)], .int .i64 need] (grow (redrawn w11 d) os) fun e w'' => e = .returned (.int .i64 (roomV ((K : Int) + 1) need)) ∧ ∃ p : Regrown, w'' = grow (redrawn w11 p.d) p.os := fun d os => by
          have h := room_any p ((K : Int) + 1) (N : Int) need (grow (redrawn w11 d) os) (by omega) HKF.out HNW.out
          unfold planV at h
          exact Calls.regrown_of h
        have cR4 : ∀ d os, Calls Tryz.prog 18 #[.agg #[.int .i64 p, .int .i64 ((K : Int) + 1), .int .i64 (N : Int)], .int .i64 need] (grow (redrawn w11 d) os) fun e w'' => e = .returned (.int .i64 (roomV ((K : Int) + 1) need)) ∧ ∃ p : Regrown, w'' = grow (redrawn w11 p.d) p.os := fun d os => by
          have h := ref7_room p ((K : Int) + 1) (N : Int) need (grow (redrawn w11 d) os) (by omega) HKF.out HNW.out
          unfold planV at h
          exact Calls.regrown_of h
        have cAW : ∀ d os, Calls Tryz.prog 6 #[] (grow (redrawn w11 d) os) fun e w'' => e = .returned (.bool true) ∧ ∃ p : Regrown, w'' = grow (redrawn w11 p.d) p.os := fun d os =>
          Calls.regrown_of (awake7_any _ (HS13.out.wh.below HS13.out.wh.size (below_regrown w11 d os)))
        generalize roomV ((K : Int) + 1) (N : Int) = r1 at *
        generalize roomV ((K : Int) + 1) need = r2 at *
        have q2 := eq_self7 r1
        have q3 := eq_self7 r2
        have HBF := Lib.hid HS13.out.be
        clear hb hA2 hI2 HO2 hlf HS13 HB11 HI7 HI8
        go_wp2
        refine wp_region_quiet_below (by kernel_rfl) (by kernel_rfl) ?_
        repeat (go_big_quiet_step (first | (with_reducible exact cS _ _) | (with_reducible exact cR1 _ _) | (with_reducible exact cR2 _ _) | (with_reducible exact cR3 _ _) | (with_reducible exact cR4 _ _) | (with_reducible exact cAW _ _)))
        refine wpQuiet_nil ?_
        intro _ hw'
        obtain ⟨⟨dq, osq⟩, hw''⟩ := hw'
        subst hw''
        have hbq := below_regrown w11 dq osq
        have HBQ := Lib.hid (HBF.out.trans (hbq.mono (by rw [← HWG.out]; exact HBF.out.size)))
        clear hbq cS cR1 cR2 cR3 cR4 cAW p0 p1 p2
        generalize grow (redrawn w11 dq) osq = W at *
        go_wp2
        go_ret
        exact ⟨by first | rfl | exact ret_bool (by simp), HBQ.out⟩
end Go.Proofs.YtdidplpbkfkdeaaGreatDoor
