
/- The document's One: the walk. -/
import Derived.Test.YtpgbjnenllfmlaaGreatDoorQOn4
import Derived.Test.YtpgbjnenllfmlaaGreatDoorQSol
import Derived.Deep.RegionLaw
import Derived.Deep.RegionHeld3
import Derived.Test.YtpgbjnenllfmlaaGreatDoorAnyG
namespace Go.Proofs.YtpgbjnenllfmlaaGreatDoor
open Go.RowKit Go.Sort
open Num
set_option linter.unusedVariables false

set_option maxRecDepth 100000 in
set_option maxHeartbeats 16000000 in
theorem ref7_one_good (p : Int) (k t n : Nat) (ax ay : Option Addr) (cx cy : Nat) (xs ys : List Int) (w : World) (hp : PrmI p) (hp2 : p ≤ 1073741824) (hk : 1 ≤ k) (ht : k + 2 * t ≤ n) (hn : n ≤ 16) (hx : Els p xs) (hy : Els p ys) (hsx : Ints w (.slice ax n cx) xs) (hcx : n ≤ cx) (hcx2 : cx ≤ 9223372036854775807) (hsy : Ints w (.slice ay n cy) ys) (hnx : xs.length = n) (hny : ys.length = n) (hd : dupB xs = false) (hpw : (Lit.int .i64 p).wf = true) (h0 : oneC p k t xs ys = 0) :
    Calls Tryz.prog 42 #[.int .i64 p, .int .i64 (k : Int), .int .i64 (t : Int), .slice ax n cx, .slice ay n cy] w (OneW p k t xs ys w) := by
  obtain ⟨g, hg⟩ : ∃ g, w.heap.size = g := ⟨_, rfl⟩
  have hp2' : 2 ≤ p := hp.1
  have hp1 : 1 ≤ p := by omega
  have hp0 : ¬ p = 0 := by omega
  obtain ⟨T2, hT2⟩ : ∃ T2, 2 * t = T2 := ⟨_, rfl⟩
  obtain ⟨KT, hKT⟩ : ∃ KT, k + t = KT := ⟨_, rfl⟩
  obtain ⟨U, hU⟩ : ∃ U, KT + t = U := ⟨_, rfl⟩
  obtain ⟨D, hD⟩ : ∃ D, n - T2 = D := ⟨_, rfl⟩
  have i1 : ¬ ((k : Int) < 1) := by omega
  have hU1 : 0 < U := by omega
  have i2 : ¬ ((t : Int) < 0) := by omega
  have i3 : (n : Int) ≤ 16 := by omega
  have i4 : (0 : Int) < (n : Int) := by omega
  have i5 : 0 < n := by omega
  have i6 : (t : Int) ≤ (n : Int) := by omega
  have i7 : (k : Int) ≤ (D : Int) := by omega
  have d1 : decide ((k : Int) < 1) = false := by simp; omega
  have d2 : decide ((t : Int) < 0) = false := by simp
  have d3 : decide ((16 : Int) < (n : Int)) = false := by simp; omega
  have d4 : decide ((0 : Int) < (n : Int)) = true := by simp; omega
  have d5 : decide ((n : Int) < (t : Int)) = false := by simp; omega
  have d6 : decide ((D : Int) < (k : Int)) = false := by simp; omega
  have e1 : decide (k < 1) = false := by simp; omega
  have e3 : decide (16 < n) = false := by simp; omega
  have e4 : decide (0 < n) = true := by simp; omega
  have e5 : decide (n < t) = false := by simp; omega
  have e6 : decide (D < k) = false := by simp; omega
  have u1 : IntKind.i64.wrap (2 * (t : Int)) = (T2 : Int) := by rw [IntKind.wrap_i64]; omega
  have u2 : IntKind.i64.wrap ((n : Int) - (T2 : Int)) = (D : Int) := by rw [IntKind.wrap_i64]; omega
  have u3 : IntKind.i64.wrap ((k : Int) + (t : Int)) = (KT : Int) := by rw [IntKind.wrap_i64]; omega
  have u4 : IntKind.i64.wrap ((k : Int) + (T2 : Int)) = (U : Int) := by rw [IntKind.wrap_i64]; omega
  have u5 : (1 : Int).tmod p = 1 := by rw [Int.tmod_eq_emod_of_nonneg (by omega)]; exact Int.emod_eq_of_lt (by omega) (by omega)
  have HP := Lib.hid hp
  have HPP := Lib.hid hp2'
  have HX := Lib.hid hx
  have HY := Lib.hid hy
  have HNX := Lib.hid hnx
  have HNY := Lib.hid hny
  have HC0 := Lib.hid h0
  have HND := Lib.hid (nodup_of hd)
  have HSX := Lib.hid hsx
  have HSY := Lib.hid hsy
  have HGG := Lib.hid hg
  have HKT : Hid (k + t = KT ∧ KT + t = U) := ⟨hKT, hU⟩
  have HNU : Hid (k + 2 * t ≤ n) := ht
  have HE1 := Lib.hid (ref_elements p (.slice ax n cx) xs w hpw hsx)
  have HE2 := Lib.hid (ref_elements p (.slice ay n cy) ys w hpw hsy)
  rw [elB_of7 hp hp2 hx] at HE1
  rw [elB_of7 hp hp2 hy] at HE2
  have HTW := Lib.hid (twice_any ax n cx xs w hsx hnx (by omega) hcx hcx2)
  rw [hd] at HTW
  have hkt : KT ≤ 16 := by omega
  have HTB : Hid (t ≤ 16 ∧ k + t ≤ 16) := ⟨by omega, by omega⟩
  have htt : t ≤ 16 := by omega
  have hUU : U ≤ 16 := by omega
  have HB0 : Hid (Below g w w) := Below.refl _ _
  have HR0 : Hid (RowsG w g (.slice none 0 0) (U + 1) [] (fun _ => 0) (fun _ => 0)) := rowsG_nil _ _ _ _ (Nat.le_of_eq hg.symm)
  have HO0 := Lib.hid (rowsOk_nil p k t xs ys)
  clear hp hp2' hx hy hnx hny hd hpw h0 hsx hsy hg hKT hU hD hT2 ht hk
  go_enter Tryz.func42, Tryz.ntmps42
  go_wp2_with fail
  refine HE1.out.mono ?_
  rintro e w1 ⟨rfl, rfl⟩
  go_wp2_with fail
  refine HE2.out.mono ?_
  rintro e w2 ⟨rfl, rfl⟩
  go_wp2_with fail
  refine HTW.out.mono ?_
  rintro e w3 ⟨rfl, rfl⟩
  clear HE1 HE2 HTW
  go_wp2_with fail
  go_loopw [13, 14, 15, 16, 17, 80, 90, 105] (fun v _ _ _ _ i _ _ wr => ∃ (ii : Nat) (RR : List (List Int)) (b cap : Nat → Nat), ii ≤ n ∧ i = .int .i64 ii ∧ Hid (RowsG wr g v (U + 1) RR b cap) ∧ Hid (RowsOk p k t ii xs ys RR) ∧ Hid (Below g w wr)) (fun _ _ _ _ _ i _ _ _ => n - (intOf i).toNat)
  case atStart => exact ⟨0, [], _, _, Nat.zero_le _, rfl, HR0, HO0, HB0⟩
  case round =>
    obtain ⟨ii, RR, b, cap, hii, rfl, HRG, HRO, HB⟩ := hrel
    clear HR0 HO0 HB0
    obtain ⟨wo, hwo⟩ : ∃ wo, wo = wr := ⟨_, rfl⟩
    subst hwo
    obtain ⟨vR, hvR⟩ : ∃ vl, vl = u13 := ⟨_, rfl⟩
    subst hvR
    by_cases hlt : ii < n
    · have i8 : (ii : Int) < (n : Int) := by omega
      obtain ⟨bx, ox, hax, cx0⟩ := (HSX.out.below (Nat.le_of_eq HGG.out) HB.out).pos hlt
      obtain ⟨by0, oy, hay, cy0⟩ := (HSY.out.below (Nat.le_of_eq HGG.out) HB.out).pos hlt
      subst hax
      subst hay
      have HHY := Lib.hid (fun W (hW : Below wo.heap.size wo W) => (hW.cell (p := ⟨by0, oy + ii, none⟩) (cell_lt cy0)).trans cy0)
      have hxe : El p (xs.getD ii 0) := els_getD hp1 HX.out ii
      have hye : El p (ys.getD ii 0) := els_getD hp1 HY.out ii
      have HSTP := Lib.hid (fun R (h : RowOk p (xs.getD ii 0) (ys.getD ii 0) (k + t) t R) => HRO.out.step h)
      obtain ⟨x, hxv⟩ : ∃ x, xs.getD ii 0 = x := ⟨_, rfl⟩
      obtain ⟨y, hyv⟩ : ∃ y, ys.getD ii 0 = y := ⟨_, rfl⟩
      rw [hxv] at cx0 hxe HSTP
      rw [hyv] at cy0 hye HHY HSTP
      rw [HKT.out.1] at HSTP
      have HXE := Lib.hid hxe
      have HYE := Lib.hid hye
      have HQ0 := Lib.hid (rowQ_start HPP.out x)
      have HG0 : Hid (Gath wo wo.heap.size (.slice none 0 0) []) := gath_nil _ _
      have HW0 : Hid (Below wo.heap.size wo wo) := Below.refl _ _
      clear hxv hyv hxe hye
      go_wp2_with fail
      go_loopw [16, 17, 90] (fun v pw c wr => ∃ (cc : Nat) (R : List Int) (q : Int), cc ≤ KT ∧ c = .int .i64 cc ∧ pw = .int .i64 q ∧ Hid (Gath wr wo.heap.size v R) ∧ Hid (RowQ p x cc R q) ∧ Hid (Below wo.heap.size wo wr)) (fun _ _ c _ => KT - (intOf c).toNat)
      case atStart => exact ⟨0, [], 1, Nat.zero_le _, rfl, rfl, HG0, HQ0, HW0⟩
      case round =>
        obtain ⟨cc, R, q, hcc, rfl, rfl, HG, HQ, HW⟩ := hrel
        clear HG0 HQ0 HW0
        by_cases hlt2 : cc < KT
        · have i9 : (cc : Int) < (KT : Int) := by omega
          have HQN := Lib.hid (HQ.out.step hp1)
          have h1 := mul_wrap hp2 HQ.out.pe HXE.out
          have h2 := mul_tmod HQ.out.pe HXE.out
          have HAP : Hid (∃ v' W', (Builtin.append_ #[22, 22] 22 #[u16, .slice (some ⟨wr.drew.heap.size, 0, none⟩) 1 1]).run Tryz.prog (wr.drew.alloc (.cells #[.int .i64 q] 3)) = .ok v' W' ∧ (Gath W' wo.heap.size v' (R ++ [q]) ∧ Below wo.heap.size wo W')) := by
            have hgd : Gath (wr.drew.alloc (.cells #[.int .i64 q] 3)) wo.heap.size u16 R := Gath.alloc (Gath.drewN HG.out 1) _
            have hz : wo.heap.size ≤ wr.heap.size := HW.out.size
            obtain ⟨v', W', z1, z2, z3⟩ := run_append_gath hgd wr.drew.heap.size q (by rw [cell_new]; rfl) (by rw [HQ.out.len]; omega) (by show _ ≤ (wr.drew.alloc _).heap.size; simp; omega) 22
            exact ⟨v', W', z1, z2, (HW.out.drew.alloc hz _).grown z3 (by show _ ≤ (wr.drew.alloc _).heap.size; simp; omega) (fun kk hkk => (World.ownsRow.lt HG.out kk hkk).1)⟩
          clear HG HQ HW
          go_wp2_with fail
          apply region_oneV (fun vn W => Hid (Gath W wo.heap.size vn (R ++ [q])) ∧ Hid (Below wo.heap.size wo W))
          case hr =>
            refine wp_region_noPanic ?_
            go_region_law (refine step_appendV rfl _ _ _ _ rfl _ _ rfl rfl _ HAP.out ?_; rintro v' W' ⟨h8, h9⟩; have H1 := Lib.hid h8; have H2 := Lib.hid h9; clear h8 h9)
            all_goals
              refine NoPanic.normal ?_
              exact ⟨rfl, v', rfl, H1, H2⟩
          rintro vn W ⟨HG9, HW9⟩
          clear HAP h1 h2
          go_wp2_with fail
          go_roundw
          case rel => exact ⟨cc + 1, R ++ [q], q * x % p, by omega, by go_num, rfl, HG9, HQN, HW9⟩
          case measure => simp [intOf]; omega
        · obtain rfl : cc = KT := by omega
          have HE0 := Lib.hid (rowE_start (y := y) HPP.out HQ.out)
          clear HQ
          go_wp2_with fail
          go_loopw [16, 17, 105] (fun v pw c wr => ∃ (tt : Nat) (R : List Int) (q : Int), tt ≤ t ∧ c = .int .i64 tt ∧ pw = .int .i64 q ∧ Hid (Gath wr wo.heap.size v R) ∧ Hid (RowE p x y cc tt R q) ∧ Hid (Below wo.heap.size wo wr)) (fun _ _ c _ => t - (intOf c).toNat)
          case atStart => exact ⟨0, R, 1, Nat.zero_le _, rfl, rfl, HG, HE0, HW⟩
          case round =>
            obtain ⟨tt, R, q, htt2, rfl, rfl, HG, HE, HW⟩ := hrel
            clear HE0
            by_cases hlt3 : tt < t
            · have i10 : (tt : Int) < (t : Int) := by omega
              have HEN := Lib.hid (HE.out.step hp1)
              have h1 := mul_wrap hp2 HE.out.pe HXE.out
              have h2 := mul_tmod HE.out.pe HXE.out
              have h3 := mul_wrap hp2 HE.out.pe HYE.out
              have h4 := mul_tmod HE.out.pe HYE.out
              have c1 := HHY.out wr HW.out
              have HSUB := Lib.hid (fun W => ref_sub_el (p := p) (a := 0) (b := q * y % p) W hp1 hp2 (el_zero hp1) (el_mod hp1 _))
              obtain ⟨z, hz9⟩ : ∃ z, subF p 0 (q * y % p) = z := ⟨_, rfl⟩
              rw [hz9] at HSUB HEN
              have HAP : Hid (∃ v' W', (Builtin.append_ #[22, 22] 22 #[u16, .slice (some ⟨wr.drew.heap.size, 0, none⟩) 1 1]).run Tryz.prog (wr.drew.alloc (.cells #[.int .i64 z] 3)) = .ok v' W' ∧ (Gath W' wo.heap.size v' (R ++ [z]) ∧ Below wo.heap.size wo W')) := by
                have hgd : Gath (wr.drew.alloc (.cells #[.int .i64 z] 3)) wo.heap.size u16 R := Gath.alloc (Gath.drewN HG.out 1) _
                have hz : wo.heap.size ≤ wr.heap.size := HW.out.size
                obtain ⟨v', W', z1, z2, z3⟩ := run_append_gath hgd wr.drew.heap.size z (by rw [cell_new]; rfl) (by rw [HE.out.len]; omega) (by show _ ≤ (wr.drew.alloc _).heap.size; simp; omega) 22
                exact ⟨v', W', z1, z2, (HW.out.drew.alloc hz _).grown z3 (by show _ ≤ (wr.drew.alloc _).heap.size; simp; omega) (fun kk hkk => (World.ownsRow.lt HG.out kk hkk).1)⟩
              clear HG HE HW hz9
              go_wp2_with fail
              apply region_oneV (fun vn W => Hid (Gath W wo.heap.size vn (R ++ [z])) ∧ Hid (Below wo.heap.size wo W))
              case hr =>
                refine wp_region_noPanic ?_
                go_region_law (first
                  | (refine step_appendV rfl _ _ _ _ rfl _ _ rfl rfl _ HAP.out ?_; rintro v' W' ⟨h8, h9⟩; have H1 := Lib.hid h8; have H2 := Lib.hid h9; clear h8 h9)
                  | (go_simp; go_at_call 67; with_reducible refine (HSUB.out _).mono ?_; rintro e w' ⟨rfl, rfl⟩))
                all_goals
                  refine NoPanic.normal ?_
                  exact ⟨rfl, v', rfl, H1, H2⟩
              rintro vn W ⟨HG9, HW9⟩
              clear HAP h1 h2 h3 h4 c1 HSUB
              go_wp2_with fail
              go_roundw
              case rel => exact ⟨tt + 1, R ++ [z], q * x % p, by omega, by go_num, rfl, HG9, HEN, HW9⟩
              case measure => simp [intOf]; omega
            · obtain rfl : tt = t := by omega
              have h3 := mul_wrap hp2 HE.out.pe HYE.out
              have h4 := mul_tmod HE.out.pe HYE.out
              have c1 := HHY.out wr HW.out
              have HROW := Lib.hid (HE.out.done hp1)
              obtain ⟨z, hz9⟩ : ∃ z, q * y % p = z := ⟨_, rfl⟩
              rw [hz9] at HROW h4
              have HRL : Hid (R.length < 17592186044416) := by show _ < _; rw [HE.out.len]; omega
              have HRLN : Hid ((R ++ [z]).length = U + 1) := by show _ = _; rw [List.length_append, HE.out.len, ← HKT.out.2]; rfl
              have hzz : wo.heap.size ≤ wr.heap.size := HW.out.size
              have HA1 : Hid (Gath (wr.alloc (.cells #[.int .i64 z] 3)) wo.heap.size u16 R) := Gath.alloc HG.out _
              have HC1 := Lib.hid (cell_alloc_new wr (.int .i64 z) 3 _ rfl)
              have HZ1 : Hid (wo.heap.size ≤ (wr.alloc (.cells #[.int .i64 z] 3)).heap.size) := by show _ ≤ _; simp; omega
              have HW1 := Lib.hid (HW.out.alloc hzz (.cells #[.int .i64 z] 3))
              clear hz9 HE HG HW hzz
              go_wp2_with (at_builtin; refine append_one _ rfl _ _ rfl wo.heap.size u16 R z rfl HA1.out ⟨wr.heap.size, 0, none⟩ rfl HC1.out HRL.out HZ1.out ?_)
              intro v7 w7 hg7 hgr7
              have HW7 : Hid (Below wo.heap.size wo w7) := HW1.out.grown hgr7 HZ1.out (fun qq hqq => (World.ownsRow.lt HA1.out qq hqq).1)
              obtain ⟨bn, cn, rfl, hbn1, hbn2⟩ := hg7.head (by rw [HRLN.out]; omega)
              have HG7 := Lib.hid hg7
              rw [HRLN.out] at HG7 ⊢
              have HLT := Lib.hid HRG.out.lt
              have HBJ := Lib.hid HRG.out.lob
              have HR8 := Lib.hid (HRG.out.below (HW7.out.alloc HW7.out.size (.cells #[.slice (some ⟨bn, 0, none⟩) (U + 1) cn] 22)))
              have HC8 := Lib.hid (cell_alloc_new w7 (.slice (some ⟨bn, 0, none⟩) (U + 1) cn) 22 _ rfl)
              have HG8 := Lib.hid (Gath.alloc HG7.out (.cells #[.slice (some ⟨bn, 0, none⟩) (U + 1) cn] 22))
              have HWB : Hid (g ≤ wo.heap.size) := by show _ ≤ _; rw [← HGG.out]; exact HB.out.size
              have HN1 : Hid (g ≤ bn ∧ bn < (w7.alloc (.cells #[.slice (some ⟨bn, 0, none⟩) (U + 1) cn] 22)).heap.size) := ⟨Nat.le_trans HWB.out hbn1, by simp; omega⟩
              have HN2 : Hid (vR.ownBlock ≠ some bn) := fun e => by have := (HLT.out bn e).2; omega
              have HN3 : Hid (∀ j, j < RR.length → b j ≠ bn) := fun j hj e => by have := (HBJ.out j hj).2; omega
              have HN4 : Hid (∀ kk, kk < U + 1 → (w7.alloc (.cells #[.slice (some ⟨bn, 0, none⟩) (U + 1) cn] 22)).cell? ⟨bn, kk, none⟩ = some (.int .i64 ((R ++ [z]).getD kk 0)) ∧ (w7.alloc (.cells #[.slice (some ⟨bn, 0, none⟩) (U + 1) cn] 22)).frozen? ⟨bn, kk, none⟩ = false) := fun kk hkk => ⟨HG8.out.cell (by rw [HRLN.out]; exact hkk), HG8.out.frozen kk⟩
              have HN5 : Hid (RR.length ≤ 1000) := by show _ ≤ _; rw [HRO.out.len]; omega
              have HBN : Hid (Below g w w7) := HB.out.trans (HW7.out.mono HWB.out)
              have HZN : Hid (g ≤ w7.heap.size) := by show _ ≤ _; have := HWB.out; omega
              have HON := Lib.hid (HSTP.out _ HROW.out)
              clear hg7 hgr7 HA1 HC1 HRL HZ1 HW1 HG7 h3 h4 c1 HROW HSTP hbn1 hbn2 HLT HBJ HG8
              go_wp2_with (at_builtin; refine append_rows _ rfl _ _ rfl g vR (U + 1) RR b cap bn cn (R ++ [z]) rfl HR8.out w7.heap.size rfl HC8.out HN1.out HN2.out HN3.out HN4.out HN5.out ?_)
              intro v9 w9 hr9 hb9
              have HR9 := Lib.hid hr9
              have HB9 : Hid (Below g w w9) := (HBN.out.alloc HZN.out _).trans hb9
              clear hr9 hb9 HR8 HC8 HN1 HN2 HN3 HN4 HN5 HBN HZN
              go_wp2
              go_roundw
              case rel => exact ⟨ii + 1, RR ++ [R ++ [z]], _, _, by omega, by go_num, HR9, HON, HB9⟩
              case measure => simp [intOf]; omega
    · obtain rfl : ii = n := by omega
      have HLR : Hid (RR.length = ii) := HRO.out.len
      obtain ⟨bx, ox, hax, _⟩ := HSX.out.pos (k := 0) (by omega)
      obtain ⟨by0, oy, hay, _⟩ := HSY.out.pos (k := 0) (by omega)
      subst hax
      subst hay
      obtain ⟨q, cr, rfl, hcr1, hcr2, hmat⟩ := HRG.out.mat (by rw [HLR.out]; omega)
      rw [HLR.out] at hcr1 hmat ⊢
      have hU9 : k + t + t = U := by rw [HKT.out.1, HKT.out.2]
      have hel := HRO.out.elm hp1
      rw [hU9] at hel
      have HSV := Lib.hid (solve_any p U (U + 1) ii g q b cap cr _ wo HP.out hp2 rfl (by omega) (by omega) (by omega) hcr1 hcr2 hmat hel)
      have HUU := Lib.hid hU9
      clear HRG hcr1 hcr2 hmat hel hU9
      go_wp2_with fail
      refine HSV.out.mono ?_
      rintro e w8 ⟨v, ok, rfl, hno, hyes, hb⟩
      have HB8 := Lib.hid (HB.out.trans hb)
      have hgw8 : g ≤ w8.heap.size := by rw [← HGG.out]; exact HB8.out.size
      clear HSV HB hb
      cases ok with
      | false =>
        have HNO := Lib.hid (iff_no_sol HP.out HNX.out HNY.out HY.out HRO.out (by rw [HUU.out]; exact hno rfl))
        clear hno hyes
        go_wp2_with fail
        go_ret2
        exact oneW_lies HC0.out HNO.out (by rw [HGG.out]; exact HB8.out)
      | true =>
        obtain ⟨gq, out, rfl, hol, hoe, hoi, hos⟩ := hyes rfl
        clear hno hyes
        obtain ⟨X, hX⟩ : ∃ X : Nat → Int, X = fun kk => out.getD kk 0 := ⟨_, rfl⟩
        have hXe : ∀ c, El p (X c) := fun c => by rw [hX]; exact els_getD hp1 hoe c
        have HQI : Hid (Ints w8 (.slice (some ⟨gq, 0, none⟩) KT U) (qL X k t)) := ints_sub7 hoi (by rw [qL_len]; exact HKT.out.1) (by have := HKT.out.2; omega) (by omega) fun i hi => by
          have h9 : i < k + t := by rw [HKT.out.1]; exact hi
          simp [qL, List.getD, h9, hX]
        have HQE : Hid (Els p (qL X k t)) := fun z hz => by
          obtain ⟨c, _, rfl⟩ := List.mem_map.1 hz; exact hXe c
        obtain ⟨E0, hE0⟩ : ∃ E0, (List.range t).map (fun c => X (k + t + c)) = E0 := ⟨_, rfl⟩
        have hE0l : E0.length = t := by rw [← hE0]; simp
        have HEL : Hid (E0 ++ [1] = eL X k t) := by show _ = _; rw [← hE0]; rfl
        have HEE : Hid (Els p (eL X k t)) := fun z hz => by
          rw [← HEL.out] at hz
          rcases List.mem_append.1 hz with h | h
          · rw [← hE0] at h; obtain ⟨c, _, rfl⟩ := List.mem_map.1 h; exact hXe _
          · rw [List.mem_singleton.1 h]; exact ⟨by omega, by have := HPP.out; omega⟩
        have HSOL : Hid (∀ i, i < ii → Cg p (E (qL X k t) (xs.getD i 0)) (E (eL X k t) (xs.getD i 0) * ys.getD i 0)) := (bw_fit HRO.out.bw X).1 (by rw [HUU.out, hX]; exact hos)
        obtain ⟨x0, hx0⟩ : ∃ x0, w8.cell? ⟨gq, 0, none⟩ = some (.int .i64 x0) := by
          obtain ⟨b9, o9, e9, c9⟩ := hoi.pos (k := 0) hU1
          injection e9 with e9
          injection e9 with e1 e2
          subst e1 e2
          exact ⟨_, c9⟩
        have HX0 : Hid (∀ W, Below w8.heap.size w8 W → W.cell? ⟨gq, 0, none⟩ = some (.int .i64 x0)) := fun W hW => (hW.cell (p := ⟨gq, 0, none⟩) (cell_lt hx0)).trans hx0
        have hKU : KT ≤ U := by have := HKT.out.2; omega
        have i11 : (KT : Int) ≤ (U : Int) := by omega
        rcases Nat.eq_zero_or_pos t with ht0 | ht0
        · have hs : Ints w8 (.slice (some ⟨gq, 0, none⟩) 0 0) E0 := by
            have : E0 = [] := List.length_eq_zero_iff.1 (by omega)
            rw [this]; exact ints_zero _ _ _
          obtain rfl : KT = U := by have := HKT.out.2; omega
          have HT0 : Hid (t = 0 ∧ E0.length = t) := ⟨ht0, hE0l⟩
          clear hol hoe hoi hos hX hXe hE0 ht0
          · skip
            have HE00 : Hid ([1] = eL X k t) := by
              show _ = _
              rw [← HEL.out, show E0 = [] from List.length_eq_zero_iff.1 (by have h1 := HT0.out.1; have h2 := HT0.out.2; omega)]; rfl
            clear hs hE0l
            go_wp2_with fail
            apply region_oneV (fun vn W => Hid (Ints W vn [1]) ∧ Hid (Below w8.heap.size w8 W))
            case hr =>
              refine wp_region_noPanic ?_
              go_region_held3 (fun W' => W'.cell? ⟨gq, 0, none⟩ = some (.int .i64 x0)) (first | go_keep | exact HSK) (fail "NOARM")
              all_goals
                refine NoPanic.normal ?_
                obtain ⟨v9, hv9⟩ : ∃ v9, Value.slice (some ⟨w8.heap.size + 1, 0, none⟩) 1 ((Question.appendCap 1 0 3).cut (w8.tape (w8.drawn + 1) (Question.appendCap 1 0 3))) = v9 := ⟨_, rfl⟩
                rw [hv9]
                exact ⟨rfl, v9, rfl, by rw [← hv9]; exact ints_one9 _ _ _ _ _, ((((Below.refl w8.heap.size w8).alloc (Nat.le_refl _) _).alloc (by simp) _).drew).drew⟩
            rintro vn W ⟨hI8, hB8⟩
            have hI9 := hI8.out
            have hB9 := hB8.out
            rw [HE00.out] at hI9
            clear hI8 hB8 HX0 hx0
            have HGW := Lib.hid hgw8
            have HB9 : Hid (Below g w W) := HB8.out.trans (hB9.mono HGW.out)
            have HDV := Lib.hid (ref_divide_own p (.slice (some ⟨gq, 0, none⟩) KT KT) vn t (qL X k t) (eL X k t) W HP.out hp2 HQE.out HEE.out (HQI.out.below (Nat.le_refl _) hB9) hI9 (eL_dg (p := p) X k t) (by rw [qL_len]; have := HTB.out; omega) (by rw [eL_len]; have := HTB.out; omega))
            clear hI9 hB9
            go_wp2_with fail
            refine HDV.out.mono ?_
            rintro e wA ⟨vq, vr, Q, R9, rfl, hqg, hql, hr, hds, hb⟩
            have hq := hqg.reads (by omega)
            have HQL := Lib.hid hql
            have hln := divS_qlen HP.out hds HQE.out HEE.out (eL_dg (p := p) X k t)
            rw [qL_len] at hln
            have hTB := HTB.out
            have hgW : g ≤ W.heap.size := by rw [← HGG.out]; exact HB9.out.size
            have HBA : Hid (Below g w wA) := HB9.out.trans (hb.mono hgW)
            have HDS := Lib.hid hds
            have HIQ := Lib.hid hq
            have HGQ := Lib.hid (hqg.mono hgW)
            clear hqg hql
            have HDR := Lib.hid (ref_degree_any vr R9 wA hr (by omega))
            have HDQ := Lib.hid (ref_degree_any vq Q wA hq (by omega))
            have HAG := Lib.hid (agree_any p vq (some ⟨bx, ox, none⟩) (some ⟨by0, oy, none⟩) ii cx cy Q xs ys wA hp1 hp2 hds.elQ HX.out hq (by omega) (HSX.out.below (Nat.le_of_eq HGG.out) HBA.out) (HSY.out.below (Nat.le_of_eq HGG.out) HBA.out) HNX.out HNY.out (by omega))
            have HBW := Lib.hid (fun f (hf : OneB p k t xs ys f) => bw_end HP.out (HNX.out.trans HNY.out.symm) HND.out HX.out (by rw [HNX.out]; exact HNU.out) hf HEE.out (qL_len X k t) (eL_len X k t) (eL_dg (p := p) X k t) (by rw [HNX.out]; exact HSOL.out) HDS.out)
            obtain ⟨z, hz⟩ : ∃ z, (dg R9 : Int) - 1 = z := ⟨_, rfl⟩
            obtain ⟨y, hy⟩ : ∃ y, (dg Q : Int) - 1 = y := ⟨_, rfl⟩
            rw [hz] at HDR
            rw [hy] at HDQ
            have HY9 := Lib.hid hy
            clear hq hr hds hb hln hgW HDV HSOL HQI HSX HSY
            by_cases h1 : 0 ≤ z
            · have HNO : Hid (∀ f, ¬ OneB p k t xs ys f) := fun f hf => by
                have h9 := (HBW.out f hf).2
                rw [h9] at hz
                have : dg ([] : List Int) = 0 := rfl
                omega
              have h2 : decide (0 ≤ z) = true := by simpa using h1
              clear hz hy
              go_wp2_with fail
              refine HDR.out.mono ?_
              rintro e w' ⟨rfl, rfl⟩
              go_wp2_with fail
              go_ret2
              exact oneW_lies HC0.out HNO.out (by rw [HGG.out]; exact HBA.out)
            · have h2 : decide (0 ≤ z) = false := by simp; omega
              clear hz
              by_cases h3 : (k : Int) ≤ y
              · have HNO : Hid (∀ f, ¬ OneB p k t xs ys f) := fun f hf => by
                  have h9 := (HBW.out f hf).1
                  have h10 := hf.len
                  have h11 := dg_le f
                  rw [h9] at hy
                  omega
                have h4 : decide ((k : Int) ≤ y) = true := by simpa using h3
                clear hy
                go_wp2_with fail
                refine HDR.out.mono ?_
                rintro e w' ⟨rfl, rfl⟩
                go_wp2_with fail
                refine HDQ.out.mono ?_
                rintro e w' ⟨rfl, rfl⟩
                go_wp2_with fail
                go_ret2
                exact oneW_lies HC0.out HNO.out (by rw [HGG.out]; exact HBA.out)
              · have h4 : decide ((k : Int) ≤ y) = false := by simp; omega
                obtain ⟨D2, hD2⟩ : ∃ D2, ii - t = D2 := ⟨_, rfl⟩
                have u6 : IntKind.i64.wrap ((ii : Int) - (t : Int)) = (D2 : Int) := by rw [IntKind.wrap_i64]; omega
                have HD2 : Hid (D2 + t = ii) := by show _ = _; omega
                have HQK : Hid (dg Q ≤ k) := by show _ ≤ _; omega
                clear hy hD2
                go_wp2_with fail
                refine HDR.out.mono ?_
                rintro e w' ⟨rfl, rfl⟩
                go_wp2_with fail
                refine HDQ.out.mono ?_
                rintro e w' ⟨rfl, rfl⟩
                go_wp2_with fail
                refine HAG.out.mono ?_
                rintro e wB ⟨c, rfl, hc, hb⟩
                have HBB : Hid (Below g w wB) := HBA.out.trans (hb.mono (by rw [← HGG.out]; exact HBA.out.size))
                have HIB := Lib.hid (HGQ.out.kept hb (Nat.le_refl _))
                have HCC := Lib.hid hc
                clear hb hc
                by_cases h5 : c < D2
                · have h6 : (c : Int) < (D2 : Int) := by omega
                  have h7 : decide (c < D2) = true := by simpa using h5
                  have h8 : decide ((c : Int) < (D2 : Int)) = true := by simpa using h6
                  have HNO : Hid (∀ f, ¬ OneB p k t xs ys f) := fun f hf => by
                    have h9 := (HBW.out f hf).1
                    have h10 := hf.few
                    rw [← h9] at h10
                    have h11 := HCC.out
                    have h12 := HD2.out
                    omega
                  go_wp2_with fail
                  go_ret2
                  exact oneW_lies HC0.out HNO.out (by rw [HGG.out]; exact HBB.out)
                · have h6 : ¬ ((c : Int) < (D2 : Int)) := by omega
                  have h7 : decide (c < D2) = false := by simpa using h5
                  have h8 : decide ((c : Int) < (D2 : Int)) = false := by simpa using h6
                  have HOB : Hid (OneB p k t xs ys Q) := ⟨HDS.out.elQ, HDS.out.shQ, by rw [← HDS.out.shQ, sh_len]; exact HQK.out, by
                    have h11 := HCC.out
                    have h12 := HD2.out
                    omega⟩
                  go_wp2_with fail
                  go_ret2
                  exact oneW_ok HC0.out HOB.out (by rw [HGG.out]; exact HIB.out) HQL.out (by rw [HGG.out]; exact HBB.out)
        · have hs : Ints w8 (.slice (some ⟨gq, KT, none⟩) t t) E0 := ints_sub7 hoi hE0l (by have := HKT.out.2; omega) (by omega) fun i hi => by
            rw [← hE0, ← HKT.out.1]
            simp [List.getD, hi, hX]
          have hUK : U - KT = t := by have := HKT.out.2; omega
          have ht1 : ¬ t = 0 := by omega
          have hUK2 : ¬ U = KT := by have := HKT.out.2; omega
          clear hol hoe hoi hos hX hXe hE0
          · skip
            obtain ⟨RA, RB, RZ, HA1, HA2, HB1, HB2, HZ, HRA, HRB⟩ := two_appends (w8 := w8) rfl hs (by omega)
            clear hs hE0l
            go_wp2_with fail
            apply region_oneV3 (fun vn W => RZ vn W)
            case hr =>
              refine wp_region_noPanic ?_
              refine region_G (fun _ => True) (fun _ => false) (by kernel_rfl) ?_
              refine anyG_pure (i := 0) (v := ?_) rfl (by kernel_rfl) (by kernel_rfl) (by kernel_rfl) (by kernel_rfl) (by rfl) (fun _ _ _ h => h) (Or.inl ⟨by rfl, ?_⟩) ?_
              rotate_left
              · (intro w hSw; go_simp; (try with_reducible rfl))
              go_simp
              refine anyG_pure (i := 1) (v := ?_) rfl (by kernel_rfl) (by kernel_rfl) (by kernel_rfl) (by kernel_rfl) (by rfl) (fun _ _ _ h => h) (Or.inl ⟨by rfl, ?_⟩) ?_
              rotate_left
              · (intro w hSw; go_simp; (try with_reducible rfl))
              go_simp
              refine anyG_pure (i := 2) (v := ?_) rfl (by kernel_rfl) (by kernel_rfl) (by kernel_rfl) (by kernel_rfl) (by rfl) (fun _ _ _ h => h) (Or.inl ⟨by rfl, ?_⟩) ?_
              rotate_left
              · (intro w hSw; go_simp; (try with_reducible rfl))
              go_simp
              refine anyG_pure (i := 3) (v := ?_) rfl (by kernel_rfl) (by kernel_rfl) (by kernel_rfl) (by kernel_rfl) (by rfl) (fun _ _ _ h => h) (Or.inl ⟨by rfl, ?_⟩) ?_
              rotate_left
              · (intro w hSw; go_simp; (try with_reducible rfl))
              go_simp
              refine anyG_pure (i := 4) (v := ?_) rfl (by kernel_rfl) (by kernel_rfl) (by kernel_rfl) (by kernel_rfl) (by rfl) (fun _ _ _ h => h) (Or.inl ⟨by rfl, ?_⟩) ?_
              rotate_left
              · (intro w hSw; go_simp; (try with_reducible rfl))
              go_simp
              refine anyG_pure (i := 5) (v := ?_) rfl (by kernel_rfl) (by kernel_rfl) (by kernel_rfl) (by kernel_rfl) (by rfl) (fun _ _ _ h => h) (Or.inl ⟨by rfl, ?_⟩) ?_
              rotate_left
              · (intro w hSw; go_simp; (try with_reducible rfl))
              go_simp
              refine anyG_pure (i := 6) (v := ?_) rfl (by kernel_rfl) (by kernel_rfl) (by kernel_rfl) (by kernel_rfl) (by rfl) (fun _ _ _ h => h) (Or.inl ⟨by rfl, ?_⟩) ?_
              rotate_left
              · (intro w hSw; go_simp; (try with_reducible rfl))
              go_simp
              refine anyG_pure (i := 7) (v := ?_) rfl (by kernel_rfl) (by kernel_rfl) (by kernel_rfl) (by kernel_rfl) (by rfl) (fun _ _ _ h => h) (Or.inl ⟨by rfl, ?_⟩) ?_
              rotate_left
              · (intro w hSw; go_simp; (try with_reducible rfl))
              go_simp
              refine anyG_pure (i := 8) (v := ?_) rfl (by kernel_rfl) (by kernel_rfl) (by kernel_rfl) (by kernel_rfl) (by rfl) (fun _ _ _ h => h) (Or.inl ⟨by rfl, ?_⟩) ?_
              rotate_left
              · (intro w hSw; go_simp; (try with_reducible rfl))
              go_simp
              refine anyG_pure (i := 9) (v := ?_) rfl (by kernel_rfl) (by kernel_rfl) (by kernel_rfl) (by kernel_rfl) (by rfl) (fun _ _ _ h => h) (Or.inl ⟨by rfl, ?_⟩) ?_
              rotate_left
              · (intro w hSw; go_simp; (try with_reducible rfl))
              go_simp
              refine anyG_pure (i := 11) (v := ?_) rfl (by kernel_rfl) (by kernel_rfl) (by kernel_rfl) (by kernel_rfl) (by rfl) (fun _ _ _ h => h) (Or.inl ⟨by rfl, ?_⟩) ?_
              rotate_left
              · (intro w hSw; go_simp; (try with_reducible rfl))
              go_simp
              refine anyG_pure (i := 12) (v := ?_) rfl (by kernel_rfl) (by kernel_rfl) (by kernel_rfl) (by kernel_rfl) (by rfl) (fun _ _ _ h => h) (Or.inl ⟨by rfl, ?_⟩) ?_
              rotate_left
              · (intro w hSw; go_simp; (try with_reducible rfl))
              go_simp
              refine anyG_two (i := 10) (k := 13) (by kernel_rfl) rfl rfl (by rfl) (by rfl) (fun K hK => ?_) (fun K hK => ?_)
              · refine wp_appendV _ _ _ _ rfl (.slice none 0 0) (.slice (some ⟨gq, KT, none⟩) t t) rfl rfl RA ?_ ?_
                · exact HA1.out
                rintro v' W' hr1
                have HR1 := Lib.hid hr1
                obtain ⟨_, av, cv, rfl⟩ := HRA.out _ _ hr1
                clear hr1
                refine hK _ _ (fun h => by cases h) ?_
                go_simp
                refine anyG_one (i := 13) (by kernel_rfl) rfl (by rfl) (fun K hK => ?_)
                go_simp
                refine hK _ _ (fun h => by cases h) ?_
                go_simp
                refine anyG_one (i := 14) (by kernel_rfl) rfl (by rfl) (fun K hK => ?_)
                refine wp_appendV _ _ _ _ rfl (.slice av E0.length cv) (.slice (some ⟨W'.heap.size, 0, none⟩) 1 1) rfl rfl RZ ?_ ?_
                · exact HA2.out _ _ HR1.out
                obtain ⟨nq, hnq⟩ : ∃ nq, W'.heap.size = nq := ⟨_, rfl⟩
                obtain ⟨vq, hvq⟩ : ∃ vq, Value.slice av E0.length cv = vq := ⟨_, rfl⟩
                rintro v'' W'' H1
                refine hK _ _ (fun h => by cases h) ?_
                go_simp
                refine anyG_pure (i := 15) (v := ?_) rfl (by kernel_rfl) (by kernel_rfl) (by kernel_rfl) (by kernel_rfl) (by rfl) (fun _ _ _ h => h) (Or.inl ⟨by rfl, ?_⟩) ?_
                rotate_left
                · (intro w hSw; go_simp; (try with_reducible rfl))
                go_simp
                refine anyG_pure (i := 16) (v := ?_) rfl (by kernel_rfl) (by kernel_rfl) (by kernel_rfl) (by kernel_rfl) (by rfl) (fun _ _ _ h => h) (Or.inl ⟨by rfl, ?_⟩) ?_
                rotate_left
                · (intro w hSw; go_simp; (try with_reducible rfl))
                go_simp
                refine anyG_done (by kernel_rfl) ?_
                refine NoPanic.normal ?_
                exact ⟨rfl, v'', ⟨vq, nq, rfl⟩, H1⟩
              · go_simp
                refine hK _ _ (fun h => by cases h) ?_
                go_simp
                refine anyG_one (i := 10) (by kernel_rfl) rfl (by rfl) (fun K hK => ?_)
                refine wp_appendV _ _ _ _ rfl (.slice none 0 0) (.slice (some ⟨gq, KT, none⟩) t t) rfl rfl RB ?_ ?_
                · exact HB1.out
                rintro v' W' hr1
                have HR2 := Lib.hid hr1
                obtain ⟨_, av, cv, rfl⟩ := HRB.out _ _ hr1
                clear hr1
                refine hK _ _ (fun h => by cases h) ?_
                go_simp
                refine anyG_one (i := 14) (by kernel_rfl) rfl (by rfl) (fun K hK => ?_)
                refine wp_appendV _ _ _ _ rfl (.slice av E0.length cv) (.slice (some ⟨w8.heap.size, 0, none⟩) 1 1) rfl rfl RZ ?_ ?_
                · exact HB2.out _ _ HR2.out
                obtain ⟨nq, hnq⟩ : ∃ nq, w8.heap.size = nq := ⟨_, rfl⟩
                obtain ⟨vq, hvq⟩ : ∃ vq, Value.slice av E0.length cv = vq := ⟨_, rfl⟩
                rintro v'' W'' H1
                refine hK _ _ (fun h => by cases h) ?_
                go_simp
                refine anyG_pure (i := 15) (v := ?_) rfl (by kernel_rfl) (by kernel_rfl) (by kernel_rfl) (by kernel_rfl) (by rfl) (fun _ _ _ h => h) (Or.inl ⟨by rfl, ?_⟩) ?_
                rotate_left
                · (intro w hSw; go_simp; (try with_reducible rfl))
                go_simp
                refine anyG_pure (i := 16) (v := ?_) rfl (by kernel_rfl) (by kernel_rfl) (by kernel_rfl) (by kernel_rfl) (by rfl) (fun _ _ _ h => h) (Or.inl ⟨by rfl, ?_⟩) ?_
                rotate_left
                · (intro w hSw; go_simp; (try with_reducible rfl))
                go_simp
                refine anyG_done (by kernel_rfl) ?_
                refine NoPanic.normal ?_
                exact ⟨rfl, v'', ⟨vq, nq, rfl⟩, H1⟩
            rintro vn vx nx W hz
            obtain ⟨hI9, hB9⟩ := HZ.out _ _ hz
            rw [HEL.out] at hI9
            clear hz HZ HA1 HA2 HB1 HB2 HRA HRB HX0 hx0
            have HGW := Lib.hid hgw8
            have HB9 : Hid (Below g w W) := HB8.out.trans (hB9.mono HGW.out)
            have HDV := Lib.hid (ref_divide_own p (.slice (some ⟨gq, 0, none⟩) KT U) vn t (qL X k t) (eL X k t) W HP.out hp2 HQE.out HEE.out (HQI.out.below (Nat.le_refl _) hB9) hI9 (eL_dg (p := p) X k t) (by rw [qL_len]; have := HTB.out; omega) (by rw [eL_len]; have := HTB.out; omega))
            clear hI9 hB9
            go_wp2_with fail
            refine HDV.out.mono ?_
            rintro e wA ⟨vq, vr, Q, R9, rfl, hqg, hql, hr, hds, hb⟩
            have hq := hqg.reads (by omega)
            have HQL := Lib.hid hql
            have hln := divS_qlen HP.out hds HQE.out HEE.out (eL_dg (p := p) X k t)
            rw [qL_len] at hln
            have hTB := HTB.out
            have hgW : g ≤ W.heap.size := by rw [← HGG.out]; exact HB9.out.size
            have HBA : Hid (Below g w wA) := HB9.out.trans (hb.mono hgW)
            have HDS := Lib.hid hds
            have HIQ := Lib.hid hq
            have HGQ := Lib.hid (hqg.mono hgW)
            clear hqg hql
            have HDR := Lib.hid (ref_degree_any vr R9 wA hr (by omega))
            have HDQ := Lib.hid (ref_degree_any vq Q wA hq (by omega))
            have HAG := Lib.hid (agree_any p vq (some ⟨bx, ox, none⟩) (some ⟨by0, oy, none⟩) ii cx cy Q xs ys wA hp1 hp2 hds.elQ HX.out hq (by omega) (HSX.out.below (Nat.le_of_eq HGG.out) HBA.out) (HSY.out.below (Nat.le_of_eq HGG.out) HBA.out) HNX.out HNY.out (by omega))
            have HBW := Lib.hid (fun f (hf : OneB p k t xs ys f) => bw_end HP.out (HNX.out.trans HNY.out.symm) HND.out HX.out (by rw [HNX.out]; exact HNU.out) hf HEE.out (qL_len X k t) (eL_len X k t) (eL_dg (p := p) X k t) (by rw [HNX.out]; exact HSOL.out) HDS.out)
            obtain ⟨z, hz⟩ : ∃ z, (dg R9 : Int) - 1 = z := ⟨_, rfl⟩
            obtain ⟨y, hy⟩ : ∃ y, (dg Q : Int) - 1 = y := ⟨_, rfl⟩
            rw [hz] at HDR
            rw [hy] at HDQ
            have HY9 := Lib.hid hy
            clear hq hr hds hb hln hgW HDV HSOL HQI HSX HSY
            by_cases h1 : 0 ≤ z
            · have HNO : Hid (∀ f, ¬ OneB p k t xs ys f) := fun f hf => by
                have h9 := (HBW.out f hf).2
                rw [h9] at hz
                have : dg ([] : List Int) = 0 := rfl
                omega
              have h2 : decide (0 ≤ z) = true := by simpa using h1
              clear hz hy
              go_wp2_with fail
              refine HDR.out.mono ?_
              rintro e w' ⟨rfl, rfl⟩
              go_wp2_with fail
              go_ret2
              exact oneW_lies HC0.out HNO.out (by rw [HGG.out]; exact HBA.out)
            · have h2 : decide (0 ≤ z) = false := by simp; omega
              clear hz
              by_cases h3 : (k : Int) ≤ y
              · have HNO : Hid (∀ f, ¬ OneB p k t xs ys f) := fun f hf => by
                  have h9 := (HBW.out f hf).1
                  have h10 := hf.len
                  have h11 := dg_le f
                  rw [h9] at hy
                  omega
                have h4 : decide ((k : Int) ≤ y) = true := by simpa using h3
                clear hy
                go_wp2_with fail
                refine HDR.out.mono ?_
                rintro e w' ⟨rfl, rfl⟩
                go_wp2_with fail
                refine HDQ.out.mono ?_
                rintro e w' ⟨rfl, rfl⟩
                go_wp2_with fail
                go_ret2
                exact oneW_lies HC0.out HNO.out (by rw [HGG.out]; exact HBA.out)
              · have h4 : decide ((k : Int) ≤ y) = false := by simp; omega
                obtain ⟨D2, hD2⟩ : ∃ D2, ii - t = D2 := ⟨_, rfl⟩
                have u6 : IntKind.i64.wrap ((ii : Int) - (t : Int)) = (D2 : Int) := by rw [IntKind.wrap_i64]; omega
                have HD2 : Hid (D2 + t = ii) := by show _ = _; omega
                have HQK : Hid (dg Q ≤ k) := by show _ ≤ _; omega
                clear hy hD2
                go_wp2_with fail
                refine HDR.out.mono ?_
                rintro e w' ⟨rfl, rfl⟩
                go_wp2_with fail
                refine HDQ.out.mono ?_
                rintro e w' ⟨rfl, rfl⟩
                go_wp2_with fail
                refine HAG.out.mono ?_
                rintro e wB ⟨c, rfl, hc, hb⟩
                have HBB : Hid (Below g w wB) := HBA.out.trans (hb.mono (by rw [← HGG.out]; exact HBA.out.size))
                have HIB := Lib.hid (HGQ.out.kept hb (Nat.le_refl _))
                have HCC := Lib.hid hc
                clear hb hc
                by_cases h5 : c < D2
                · have h6 : (c : Int) < (D2 : Int) := by omega
                  have h7 : decide (c < D2) = true := by simpa using h5
                  have h8 : decide ((c : Int) < (D2 : Int)) = true := by simpa using h6
                  have HNO : Hid (∀ f, ¬ OneB p k t xs ys f) := fun f hf => by
                    have h9 := (HBW.out f hf).1
                    have h10 := hf.few
                    rw [← h9] at h10
                    have h11 := HCC.out
                    have h12 := HD2.out
                    omega
                  go_wp2_with fail
                  go_ret2
                  exact oneW_lies HC0.out HNO.out (by rw [HGG.out]; exact HBB.out)
                · have h6 : ¬ ((c : Int) < (D2 : Int)) := by omega
                  have h7 : decide (c < D2) = false := by simpa using h5
                  have h8 : decide ((c : Int) < (D2 : Int)) = false := by simpa using h6
                  have HOB : Hid (OneB p k t xs ys Q) := ⟨HDS.out.elQ, HDS.out.shQ, by rw [← HDS.out.shQ, sh_len]; exact HQK.out, by
                    have h11 := HCC.out
                    have h12 := HD2.out
                    omega⟩
                  go_wp2_with fail
                  go_ret2
                  exact oneW_ok HC0.out HOB.out (by rw [HGG.out]; exact HIB.out) HQL.out (by rw [HGG.out]; exact HBB.out)
end Go.Proofs.YtpgbjnenllfmlaaGreatDoor
