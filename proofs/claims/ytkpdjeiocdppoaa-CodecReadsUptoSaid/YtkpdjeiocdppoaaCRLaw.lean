
/- The walk of CodecReads. -/
import Derived.Test.YtkpdjeiocdppoaaCRd
import Derived.Test.YtkpdjeiocdppoaaCSp
namespace Go.Proofs.Ytkpdjeiocdppoaa
open Go.RowKit
set_option linter.unusedVariables false

set_option maxRecDepth 100000 in
set_option maxHeartbeats 32000000 in
theorem codecReads_walk (b : ByteArray) (n at_ : Int) (v : Value) (l : List Int) (vm : Value) (m : List ByteArray) (w : World) (hb : b.size ≤ 140737488355328) (hn : in64 n) (hat : in64 at_) (hv : Ints w v l) (h64 : ∀ x ∈ l, in64 x) (hm : Strs w vm m) (hms : ∀ x ∈ m, x.size ≤ 1048576) :
    Calls Try.prog 4 #[.string b, .int .i64 n, .int .i64 at_, v, vm] w fun e w' => e = .returned (.bool true) ∧ Below w.heap.size w w' := by
  obtain ⟨av, cv, rfl, hll, -⟩ := id hv
  obtain ⟨am, cm, rfl, hml, -⟩ := id hm
  obtain ⟨nl, hnl⟩ : ∃ n, l.length = n := ⟨_, rfl⟩
  obtain ⟨nm, hnm⟩ : ∃ n, m.length = n := ⟨_, rfl⟩
  obtain ⟨B, hB⟩ : ∃ N, b.size = N := ⟨_, rfl⟩
  rw [hnl] at hv hll ⊢
  rw [hnm] at hm hml ⊢
  rw [hB] at hb
  by_cases hg : B ≤ 500 ∧ nl ≤ 50 ∧ nm ≤ 30
  · obtain ⟨h1, h2, h3⟩ := hg
    have h1' : decide ((500 : Int) < (B : Int)) = false := decide_eq_false (by omega)
    have h2' : decide ((50 : Int) < (nl : Int)) = false := decide_eq_false (by omega)
    have h3' : decide ((30 : Int) < (nm : Int)) = false := decide_eq_false (by omega)
    obtain ⟨k3, hk3, hk3b⟩ : ∃ k : Nat, n % 300 = (k : Int) ∧ k < 300 := ⟨(n % 300).toNat, by omega, by omega⟩
    obtain ⟨k2, hk2, hk2b⟩ : ∃ k : Nat, n % 2 = (k : Int) ∧ k < 2 := ⟨(n % 2).toNat, by omega, by omega⟩
    obtain ⟨k8, hk8, hk8b⟩ : ∃ k : Nat, at_ % ((B : Int) + 1) = (k : Int) ∧ k ≤ B := ⟨(at_ % ((B : Int) + 1)).toNat, by
      have := Int.emod_nonneg at_ (show (B : Int) + 1 ≠ 0 by omega)
      omega, by
      have := Int.emod_lt_of_pos at_ (show 0 < (B : Int) + 1 by omega)
      omega⟩
    obtain ⟨R1, z1, C1⟩ := put_short n hn
    obtain ⟨R2, z2, C2⟩ := puts_short av nl cv l hnl (by omega) h64
    obtain ⟨R3, z3, C3⟩ := putx_short am nm cm m hnm (by omega) hms
    obtain ⟨R4, z4, C4⟩ := put_short ((k3 : Int) - 2) ⟨by omega, by omega⟩
    obtain ⟨R5, z5, C5⟩ := put_short (256 + (k2 : Int)) ⟨by omega, by omega⟩
    obtain ⟨R6, z6, C6⟩ := put_short (2048 + (k2 : Int)) ⟨by omega, by omega⟩
    obtain ⟨R8, z8, z8b, C8⟩ := putt_short b (by omega)
    have M3 := fun w => mod_any n 300 w (by omega) (by omega)
    have M2 := fun w => mod_any n 2 w (by omega) (by omega)
    have M8 := fun w => mod_any at_ ((B : Int) + 1) w (by omega) (by omega)
    rw [hk3] at M3
    rw [hk2] at M2
    rw [hk8] at M8
    have C7 := fun w => spoil_any R2 at_ n w (by omega)
    have HV := Lib.hid hv
    have HM := Lib.hid hm
    have C1 := Lib.hid C1
    have C2 := Lib.hid C2
    have C3 := Lib.hid C3
    have C4 := Lib.hid C4
    have C5 := Lib.hid C5
    have C6 := Lib.hid C6
    have C7 := Lib.hid C7
    have C8 := Lib.hid C8
    have M3 := Lib.hid M3
    have M2 := Lib.hid M2
    have M8 := Lib.hid M8
    have hk8c : (k8 : Int) ≤ (R8.size : Int) := by omega
    have hk8d : k8 ≤ R8.size := by omega
    clear hv hm hnl hnm h64 hms hn hat hk3 hk2 hk8 h1 h2 h3
    obtain ⟨g0, hg0⟩ : ∃ g, w.heap.size = g := ⟨_, rfl⟩
    have s0 : g0 ≤ w.heap.size := Nat.le_of_eq hg0.symm
    rw [hg0]
    have W0 : Hid (Below g0 w w) := Below.refl _ _
    go_enter Try.func4, Try.ntmps4
    go_wp2_with fail
    refine (C1.out w).mono ?_
    rintro e w1 ⟨rfl, hb1⟩
    have HV1 := Lib.hid (HV.out.below (Nat.le_refl _) hb1)
    have HM1 := Lib.hid (HM.out.below (Nat.le_refl _) hb1)
    have W1 := Lib.hid (W0.out.trans (hb1.mono s0))
    have s1 : g0 ≤ w1.heap.size := by have := hb1.size; omega
    clear hb1 HV HM W0 C1
    go_wp2_with fail
    refine (C2.out w1 HV1.out).mono ?_
    rintro e w2 ⟨rfl, hb2⟩
    have HV2 := Lib.hid (HV1.out.below (Nat.le_refl _) hb2)
    have HM2 := Lib.hid (HM1.out.below (Nat.le_refl _) hb2)
    have W2 := Lib.hid (W1.out.trans (hb2.mono s1))
    have s2 : g0 ≤ w2.heap.size := by have := hb2.size; omega
    clear hb2 HV1 HM1 W1
    go_wp2_with fail
    refine (C3.out w2 HM2.out).mono ?_
    rintro e w3 ⟨rfl, hb3⟩
    have HV3 := Lib.hid (HV2.out.below (Nat.le_refl _) hb3)
    have W3 := Lib.hid (W2.out.trans (hb3.mono s2))
    have s3 : g0 ≤ w3.heap.size := by have := hb3.size; omega
    clear hb3 HV2 HM2 W2 C3
    go_wp2_with fail
    refine (M3.out w3).mono ?_
    rintro e w3' ⟨rfl, rfl⟩
    go_wp2_with fail
    refine (C4.out w3).mono ?_
    rintro e w4 ⟨rfl, hb4⟩
    have HV4 := Lib.hid (HV3.out.below (Nat.le_refl _) hb4)
    have W4 := Lib.hid (W3.out.trans (hb4.mono s3))
    have s4 : g0 ≤ w4.heap.size := by have := hb4.size; omega
    clear hb4 HV3 W3 C4
    go_wp2_with fail
    refine (M2.out w4).mono ?_
    rintro e w4' ⟨rfl, rfl⟩
    go_wp2_with fail
    refine (C5.out w4).mono ?_
    rintro e w5 ⟨rfl, hb5⟩
    have HV5 := Lib.hid (HV4.out.below (Nat.le_refl _) hb5)
    have W5 := Lib.hid (W4.out.trans (hb5.mono s4))
    have s5 : g0 ≤ w5.heap.size := by have := hb5.size; omega
    clear hb5 HV4 W4 C5
    go_wp2_with fail
    refine (M2.out w5).mono ?_
    rintro e w5' ⟨rfl, rfl⟩
    go_wp2_with fail
    refine (C6.out w5).mono ?_
    rintro e w6 ⟨rfl, hb6⟩
    have HV6 := Lib.hid (HV5.out.below (Nat.le_refl _) hb6)
    have W6 := Lib.hid (W5.out.trans (hb6.mono s5))
    have s6 : g0 ≤ w6.heap.size := by have := hb6.size; omega
    clear hb6 HV5 W5 C6
    go_wp2_with fail
    refine (C2.out w6 HV6.out).mono ?_
    rintro e w7 ⟨rfl, hb7⟩
    have W7 := Lib.hid (W6.out.trans (hb7.mono s6))
    have s7 : g0 ≤ w7.heap.size := by have := hb7.size; omega
    clear hb7 HV6 W6 C2
    go_wp2_with fail
    refine (C7.out w7).mono ?_
    rintro e w8 ⟨R7, rfl, z7, hb8⟩
    have W8 := Lib.hid (W7.out.trans (hb8.mono s7))
    have s8 : g0 ≤ w8.heap.size := by have := hb8.size; omega
    clear hb8 W7 C7
    go_wp2_with fail
    refine (C8.out w8).mono ?_
    rintro e w9 ⟨rfl, hb9⟩
    have W9 := Lib.hid (W8.out.trans (hb9.mono s8))
    have s9 : g0 ≤ w9.heap.size := by have := hb9.size; omega
    clear hb9 W8 C8
    go_wp2_with fail
    refine (M8.out w9).mono ?_
    rintro e w9' ⟨rfl, rfl⟩
    obtain ⟨gr, hgr⟩ : ∃ g, w9.heap.size = g := ⟨_, rfl⟩
    have HGR := Lib.hid hgr
    go_wp2_with fail
    have hba := W9.out.alloc s9 (.cells #[.string b, .string (R1 ++ b), .string (R2 ++ b), .string (R3 ++ b), .string (R4 ++ b), .string (R5 ++ b), .string R6, .string R7, .string (R8.extract 0 k8)] 9)
    have hca : (w9.alloc (.cells #[.string b, .string (R1 ++ b), .string (R2 ++ b), .string (R3 ++ b), .string (R4 ++ b), .string (R5 ++ b), .string R6, .string R7, .string (R8.extract 0 k8)] 9)).heap[gr]? = some (.cells #[.string b, .string (R1 ++ b), .string (R2 ++ b), .string (R3 ++ b), .string (R4 ++ b), .string (R5 ++ b), .string R6, .string R7, .string (R8.extract 0 k8)] 9 (0, 0)) := by
      rw [← HGR.out]; exact heap_alloc_new _ _
    have HS : Hid (∀ x ∈ [b, R1 ++ b, R2 ++ b, R3 ++ b, R4 ++ b, R5 ++ b, R6, R7, R8.extract 0 k8], x.size ≤ 100000000) := fun x hx => by
      have q1 : (R1 ++ b).size = R1.size + b.size := ByteArray.size_append
      have q2 : (R2 ++ b).size = R2.size + b.size := ByteArray.size_append
      have q3 : (R3 ++ b).size = R3.size + b.size := ByteArray.size_append
      have q4 : (R4 ++ b).size = R4.size + b.size := ByteArray.size_append
      have q5 : (R5 ++ b).size = R5.size + b.size := ByteArray.size_append
      have q8 : (R8.extract 0 k8).size ≤ R8.size := by
        rw [Lib.size_eq, Lib.size_eq R8, ByteArray.data_extract, Array.toList_extract, List.extract_eq_take_drop]
        simp only [List.length_take, List.length_drop]
        omega
      simp only [List.mem_cons, List.not_mem_nil, or_false] at hx
      rcases hx with rfl | rfl | rfl | rfl | rfl | rfl | rfl | rfl | rfl <;> omega
    generalize w9.alloc (.cells #[.string b, .string (R1 ++ b), .string (R2 ++ b), .string (R3 ++ b), .string (R4 ++ b), .string (R5 ++ b), .string R6, .string R7, .string (R8.extract 0 k8)] 9) = wa at *
    have hsa : g0 ≤ wa.heap.size := by have := (Array.getElem?_eq_some_iff.1 hca).1; have := HGR.out; omega
    have HR : Hid (Strs wa (.slice (some ⟨gr, 0, none⟩) 9 9) [b, R1 ++ b, R2 ++ b, R3 ++ b, R4 ++ b, R5 ++ b, R6, R7, R8.extract 0 k8]) := row_strs rfl (by omega) HS.out (fun i hi => by
      simp only [World.cell?, hca]
      match i, hi with
      | 0, _ => rfl
      | 1, _ => rfl
      | 2, _ => rfl
      | 3, _ => rfl
      | 4, _ => rfl
      | 5, _ => rfl
      | 6, _ => rfl
      | 7, _ => rfl
      | 8, _ => rfl)
    have WA := Lib.hid hba
    have WA0 : Hid (Below wa.heap.size wa wa) := Below.refl _ _
    obtain ⟨L, hL⟩ : ∃ L, [b, R1 ++ b, R2 ++ b, R3 ++ b, R4 ++ b, R5 ++ b, R6, R7, R8.extract 0 k8] = L := ⟨_, rfl⟩
    have HLL : Hid (L.length = 9) := by show _ = _; rw [← hL]; rfl
    rw [hL] at HR HS
    clear hba hca hL W9 M3 M2 M8 hgr
    go_loopw [87] (fun i wr => ∃ k : Nat, k ≤ 9 ∧ i = .int .i64 k ∧ Hid (Below wa.heap.size wa wr)) (fun i _ => 9 - (intOf i).toNat)
    case atStart => exact ⟨0, by omega, rfl, WA0⟩
    case round =>
      obtain ⟨k, hk, rfl, HB⟩ := hrel
      by_cases hlt : k < 9
      · obtain ⟨bk, off, hbk, hcl⟩ := (HR.out.below (Nat.le_refl _) HB.out).at hlt
        simp only [Option.some.injEq, Addr.mk.injEq, and_true] at hbk
        obtain ⟨rfl, rfl⟩ := hbk
        rw [Nat.zero_add] at hcl
        have hmem : L.getD k ByteArray.empty ∈ L := by
          have hk2 : k < L.length := by have := HLL.out; omega
          rw [List.getD_eq_getElem?_getD, List.getElem?_eq_getElem hk2]
          exact List.getElem_mem hk2
        have hss := HS.out _ hmem
        generalize L.getD k ByteArray.empty = s at *
        obtain ⟨NS, hNS⟩ : ∃ N, s.size = N := ⟨_, rfl⟩
        have BI := Lib.hid (fun p => both_int s p (by omega))
        have BT := Lib.hid (fun p => both_text s p (by omega))
        have BL := Lib.hid (fun p => both_ints s p (by omega))
        have BX := Lib.hid (fun p => both_texts s p (by omega))
        rw [hNS] at hss
        obtain ⟨kp, hkp, hkpb⟩ : ∃ q : Nat, at_ % ((NS : Int) + 2) = (q : Int) ∧ q < NS + 2 := ⟨(at_ % ((NS : Int) + 2)).toNat, by
          have := Int.emod_nonneg at_ (show (NS : Int) + 2 ≠ 0 by omega)
          omega, by
          have := Int.emod_lt_of_pos at_ (show 0 < (NS : Int) + 2 by omega)
          omega⟩
        have MP := mod_any at_ ((NS : Int) + 2) wr (by omega) (by omega)
        rw [hkp] at MP
        have MP := Lib.hid MP
        have hsr := HB.out.size
        clear hmem hkp
        go_wp2_with fail
        refine MP.out.mono ?_
        rintro e wr' ⟨rfl, rfl⟩
        obtain ⟨gq, hgq⟩ : ∃ g, wr.heap.size = g := ⟨_, rfl⟩
        have HGQ := Lib.hid hgq
        go_wp2_with fail
        have hbq : Below wa.heap.size wa (wr.alloc (.cells #[.int .i64 at_, .int .i64 ((kp : Int) - 1), .int .i64 0] 3)) := HB.out.alloc hsr _
        have hcq : (wr.alloc (.cells #[.int .i64 at_, .int .i64 ((kp : Int) - 1), .int .i64 0] 3)).heap[gq]? = some (.cells #[.int .i64 at_, .int .i64 ((kp : Int) - 1), .int .i64 0] 3 (0, 0)) := by
          rw [← HGQ.out]; exact heap_alloc_new _ _
        generalize wr.alloc (.cells #[.int .i64 at_, .int .i64 ((kp : Int) - 1), .int .i64 0] 3) = wb at *
        have hsb : wa.heap.size ≤ wb.heap.size := hbq.size
        have HQ : Hid (Ints wb (.slice (some ⟨gq, 0, none⟩) 3 3) [at_, (kp : Int) - 1, 0]) := row_ints3 rfl (by omega) (fun i hi => by
          simp only [World.cell?, hcq]
          match i, hi with
          | 0, _ => rfl
          | 1, _ => rfl
          | 2, _ => rfl)
        have WB := Lib.hid hbq
        have WB0 : Hid (Below wb.heap.size wb wb) := Below.refl _ _
        generalize [at_, (kp : Int) - 1, 0] = P at *
        clear hbq hcq HB MP hgq
        go_loopw [100] (fun i wq => ∃ j : Nat, j ≤ 3 ∧ i = .int .i64 j ∧ Hid (Below wb.heap.size wb wq)) (fun i _ => 3 - (intOf i).toNat)
        case atStart => exact ⟨0, by omega, rfl, WB0⟩
        case round =>
          obtain ⟨j, hj, rfl, HB⟩ := hrel
          by_cases hjl : j < 3
          · obtain ⟨bk, off, hbk, hcj⟩ := Ints.at' (HQ.out.below (Nat.le_refl _) HB.out) hjl
            simp only [Option.some.injEq, Addr.mk.injEq, and_true] at hbk
            obtain ⟨rfl, rfl⟩ := hbk
            rw [Nat.zero_add] at hcj
            generalize P.getD j 0 = p at *
            obtain ⟨x, q1, e1, i1, i2⟩ := BI.out p
            obtain ⟨u, q2, e2, t1, t2⟩ := BT.out p
            obtain ⟨c, q3, e3, hcl3, l1, l2⟩ := BL.out p
            obtain ⟨g, q4, e4, x1, x2⟩ := BX.out p
            have i1 := Lib.hid i1
            have i2 := Lib.hid i2
            have t1 := Lib.hid t1
            have t2 := Lib.hid t2
            have l1 := Lib.hid l1
            have l2 := Lib.hid l2
            have x1 := Lib.hid x1
            have x2 := Lib.hid x2
            obtain ⟨nc, hnc⟩ : ∃ k, c.length = k := ⟨_, rfl⟩
            obtain ⟨ng, hng⟩ : ∃ k, g.length = k := ⟨_, rfl⟩
            rw [hnc] at l1 l2 hcl3
            rw [hng] at x1 x2
            have hsq := HB.out.size
            clear hnc hng
            go_wp2_with fail
            refine (i1.out wr).mono ?_
            rintro e wr' ⟨rfl, rfl⟩
            go_wp2_with fail
            refine (i2.out wr).mono ?_
            rintro e wr' ⟨rfl, rfl⟩
            go_wp2_with fail
            refine (t1.out wr).mono ?_
            rintro e wr' ⟨rfl, rfl⟩
            go_wp2_with fail
            refine (t2.out wr).mono ?_
            rintro e wr' ⟨rfl, rfl⟩
            clear i1 i2 t1 t2
            go_wp2_with fail
            refine (l1.out wr).mono ?_
            rintro e wx ⟨a1, c1, rfl, hi1, hb1⟩
            have HI1 := Lib.hid hi1
            have HX1 := Lib.hid (HB.out.trans (hb1.mono hsq))
            have hx1 := HX1.out.size
            clear hi1 hb1 HB l1
            go_wp2_with fail
            refine (l2.out wx).mono ?_
            rintro e wy ⟨a2, c2, rfl, hi2, hb2⟩
            have HI2 := Lib.hid hi2
            have HI1 := Lib.hid (HI1.out.below (Nat.le_refl _) hb2)
            have HX2 := Lib.hid (HX1.out.trans (hb2.mono hx1))
            have hx2 := HX2.out.size
            clear hi2 hb2 HX1 l2
            go_wp2_with fail
            go_loop [189] (fun i => ∃ t : Nat, t ≤ nc ∧ i = .int .i64 t) (fun i => nc - (intOf i).toNat)
            case atStart => exact ⟨0, by omega, rfl⟩
            case round =>
              obtain ⟨t, ht, rfl⟩ := hrel
              by_cases htl : t < nc
              · obtain ⟨b1, o1, rfl, hc1⟩ := Ints.at' HI1.out htl
                obtain ⟨b2, o2, rfl, hc2⟩ := Ints.at' HI2.out htl
                generalize c.getD t 0 = y at *
                go_wp2
                go_round
                case rel => exact ⟨t + 1, by omega, by go_num⟩
                case measure => simp [intOf]; omega
              · clear HI1 HI2
                go_wp2_with fail
                refine (x1.out wy).mono ?_
                rintro e wz ⟨a3, c3, rfl, hi3, hb3⟩
                have HI3 := Lib.hid hi3
                have HX3 := Lib.hid (HX2.out.trans (hb3.mono hx2))
                have hx3 := HX3.out.size
                clear hi3 hb3 HX2 x1
                go_wp2_with fail
                refine (x2.out wz).mono ?_
                rintro e wv ⟨a4, c4, rfl, hi4, hb4⟩
                have HI4 := Lib.hid hi4
                have HI3 := Lib.hid (HI3.out.below (Nat.le_refl _) hb4)
                have HX4 := Lib.hid (HX3.out.trans (hb4.mono hx3))
                clear hi4 hb4 HX3 x2
                go_wp2_with fail
                refine (refSame_eq a3 a4 ng c3 c4 g wv HI3.out HI4.out).mono ?_
                rintro e wv' ⟨rfl, rfl⟩
                clear HI3 HI4
                go_wp2
                go_roundw
                case rel => exact ⟨j + 1, by omega, by go_num, HX4⟩
                case measure => simp [intOf]; omega
          · have HB2 := Lib.hid (WB.out.trans (HB.out.mono hsb))
            clear HB WB BI BT BL BX HQ
            go_wp2
            go_roundw
            case rel => exact ⟨k + 1, by omega, by go_num, HB2⟩
            case measure => simp [intOf]; omega
      · have HB2 := Lib.hid (WA.out.trans (HB.out.mono hsa))
        have hs2 := HB2.out.size
        clear HB WA HR HS
        go_wp2_with fail
        refine (awake4_any wr).mono ?_
        rintro e w10 ⟨rfl, hb10⟩
        have HB3 := Lib.hid (HB2.out.trans (hb10.mono (by omega)))
        clear hb10 HB2
        go_wp2
        go_ret
        exact ⟨rfl, HB3.out⟩
  · have HA := Lib.hid (awake4_any w)
    clear hv hm h64 hms hnl hnm
    have hc : (decide ((500 : Int) < (B : Int)) = true) ∨ (decide ((500 : Int) < (B : Int)) = false ∧ decide ((50 : Int) < (nl : Int)) = true) ∨ (decide ((500 : Int) < (B : Int)) = false ∧ decide ((50 : Int) < (nl : Int)) = false ∧ decide ((30 : Int) < (nm : Int)) = true) := by
      simp only [decide_eq_true_eq, decide_eq_false_iff_not]
      omega
    clear hg
    rcases hc with c1 | ⟨c1, c2⟩ | ⟨c1, c2, c3⟩
    all_goals
      go_enter Try.func4, Try.ntmps4
      go_wp2_with fail
      refine HA.out.mono ?_
      rintro e w1 ⟨rfl, hb1⟩
      have HB1 := Lib.hid hb1
      clear hb1
      go_wp2
      go_ret
      exact ⟨rfl, HB1.out⟩
end Go.Proofs.Ytkpdjeiocdppoaa
