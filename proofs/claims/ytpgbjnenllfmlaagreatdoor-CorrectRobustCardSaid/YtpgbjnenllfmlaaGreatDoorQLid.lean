
/- kit's Lie: some shares, changed. -/
import Derived.Test.YtpgbjnenllfmlaaGreatDoorQBea
import Derived.Test.YtpgbjnenllfmlaaGreatDoorHAny
import Derived.Deep.RegionLaw
/-! kit's Lie: some shares, changed. -/
namespace Go.Proofs.YtpgbjnenllfmlaaGreatDoor
open Go.RowKit Go.Sort
open Num
set_option linter.unusedVariables false

/-- A region whose orders all end alike, but for one number. -/
theorem region_oneI {P : Program} {id : Nat} {ops : Array Oper} {d : Bool} {Q : Exit → Act → World → Prop} {a : Act} {w : World} (R : Int → World → Prop) (A : Int → Act) (hr : (Code.region id ops d).wp P (fun e a' W => e = .normal ∧ ∃ x, a' = A x ∧ R x W) a w)
    (h : ∀ x W, R x W → Q .normal (A x) W) : (Code.region id ops d).wp P Q a w :=
  Code.wp_mono (fun _ _ _ ⟨h1, x, h2, h3⟩ => by subst h1; subst h2; exact h x _ h3) hr
theorem lie_el {p x r : Int} (hp : 2 ≤ p) (hx : El p x) (r0 : 0 ≤ r) (r1 : r < p - 1) : El p ((x + 1 + r) % p) := el_mod (by omega) _
theorem lie_ne {p x r : Int} (hp : 2 ≤ p) (hx : El p x) (r0 : 0 ≤ r) (r1 : r < p - 1) : (x + 1 + r) % p ≠ x := by
  obtain ⟨h0, h1⟩ := hx
  by_cases h : x + 1 + r < p
  · rw [Int.emod_eq_of_lt (by omega) h]; omega
  · rw [← Int.sub_emod_right, Int.emod_eq_of_lt (by omega) (by omega)]; omega

theorem lie_index (C : Array Value) (i : Nat) (v : Bool) (hi : i < 17) (h : C[i]? = some (.bool v)) (w : World) : (Instr.index 59 (.agg C) (.int .i64 (i : Int))).run Tryz.prog w = .ok (.bool v) w := by
  have h0 : (0 : Int) ≤ (i : Int) ∧ (i : Int) < 17 := by omega
  simp [Instr.index, run_underlying Tryz.underlying59, asIntOf, hi, go_sem, part, h]
theorem getD_at2 {L : List Shr} {j : Nat} (hj : j < L.length) : L.getD j (0, []) = L[j] := by simp [List.getD, hj]
set_option maxRecDepth 100000 in
set_option maxHeartbeats 16000000 in
theorem lie_anyM (b : Nat) (s : Value) (l : List Int) (p : Int) (T0 T m : Nat) (sv : Value) (L : List Shr) (w : World) (hd : DiceAt w b s l) (hp : 2 ≤ p) (hp2 : p ≤ 1073741824) (hs : Shares w sv L) (hm1 : 1 ≤ m) (hm2 : m ≤ 1000) (hm : ∀ x ∈ L, x.2.length = m) (he : ∀ x ∈ L, Els p x.2) (hH : ∀ x ∈ L, 1 ≤ x.1 ∧ x.1 ≤ 16) (hT : T ≤ L.length) (hT0 : T ≤ T0) (hTe : T = T0 ∨ T = L.length) (hT2 : T0 ≤ 1000000) (hn0 : 0 < L.length) (hn2 : L.length ≤ 100) :
    Calls Tryz.prog 11 #[.pointer (some ⟨b, 0, none⟩), .int .i64 p, sv, .int .i64 T0] w fun e w' => ∃ v o L', e = .returned (.tuple #[v, o]) ∧ SharesN w' w.heap.size v L' ∧ Ints w' o (outL L T 17) ∧ LieP p m T 0 L L' ∧ DiceAt w' b s l ∧ But b w w' := by
  have hsz := hd.size
  have HC := Lib.hid (copyT_any sv L w hs (fun x hx => by rw [hm x hx]; omega) (by omega))
  obtain ⟨g, hg⟩ : ∃ g, w.heap.size = g := ⟨_, rfl⟩
  have HP0 := Lib.hid (LieP.start (p := p) hm he)
  have HDD := Lib.hid hd
  have HMM := Lib.hid hm
  obtain ⟨sa, sc, rfl, _⟩ := id hs
  obtain ⟨n, hn⟩ : ∃ n, L.length = n := ⟨_, rfl⟩
  have HHH : Hid (∀ i, i < n → ∃ H : Nat, (L.getD i (0, [])).1 = (H : Int) ∧ H ≤ 16) := fun i hi => by
    have hin : L.getD i (0, []) ∈ L := by rw [List.getD_eq_getElem?_getD, List.getElem?_eq_getElem (by rw [hn]; exact hi)]; exact List.getElem_mem _
    obtain ⟨h1, h2⟩ := hH _ hin
    obtain ⟨H, hH⟩ := Int.eq_ofNat_of_zero_le (show 0 ≤ (L.getD i (0, [])).1 by omega)
    exact ⟨H, hH, by omega⟩
  rw [hn] at hT hTe hn0 hn2 HC ⊢
  rw [hg] at hsz HC ⊢
  have HNN := Lib.hid hn
  have HGG := Lib.hid hg
  clear hs hd hn hg hm he hH
  go_enter Tryz.func11, Tryz.ntmps11
  go_wp2_with fail
  refine HC.out.mono ?_
  rintro e w1 ⟨v, rfl, hT1, hB1⟩
  have hshape : ∃ a c, v = .slice a n c ∧ n ≤ c ∧ c ≤ 9223372036854775807 := by
    have h := (hT1.toS (fun s hs => by have := HMM.out s hs; omega)).shape
    rw [HNN.out] at h
    exact h
  obtain ⟨va, vc, rfl, hvc, hvc2⟩ := hshape
  obtain ⟨q, Z, rfl, hO1⟩ := hT1.odd hn0
  obtain ⟨gw, hgw⟩ : ∃ gw, w1.heap.size = gw := ⟨_, rfl⟩
  obtain ⟨w2, hw2⟩ : ∃ w2, w1.alloc (Obj.cells zeros17 59) = w2 := ⟨_, rfl⟩
  have HW2 : Hid (LieW w w2 b s (l) g q n gw Z L (wfl L 0)) := by
    have hal : Below w1.heap.size w1 w2 := by rw [← hw2]; exact (Below.refl _ _).alloc (Nat.le_refl _) _
    have hr := lie_row w1 L
    rw [hw2, hgw] at hr
    have hb2 : Below g w w2 := hB1.trans (hal.mono (by have := hB1.size; have := HGG.out; omega))
    exact ⟨hO1.below hal (Nat.le_refl _), fun i hi x hx => by rw [← hgw]; exact (World.ownsRow.lt (hO1.val i hi) x hx).2, by rw [← hgw]; exact hO1.lt, hr, HDD.out.below hb2 hsz, But.of_below hb2 (Nat.le_of_eq HGG.out), hsz, HGG.out.symm⟩
  clear hT1 hO1 hB1 HC HDD
  unfold zeros17 at hw2
  go_wp2_with fail
  clear hw2 hgw
  go_loopw [11, 12] (fun i _ wr => ∃ (t : Nat) (L' : List Shr), t ≤ T ∧ i = .int .i64 t ∧ Hid (LieP p m t 0 L L') ∧ Hid (LieW w wr b s l g q n gw Z L' (wfl L t))) (fun i _ _ => T - (intOf i).toNat)
  case atStart => exact ⟨0, L, Nat.zero_le _, rfl, HP0, HW2⟩
  case round =>
    obtain ⟨t, L1, ht, rfl, HP1, HW1⟩ := hrel
    clear HP0 HW2
    by_cases hlt : t < T
    · have htn : t < n := by omega
      have hsz1 := HP1.out.size t (by rw [HNN.out]; exact htn)
      obtain ⟨gv, cv, hzz, hgl, _⟩ := (HW1.out.od.val t htn).head (by rw [hsz1]; omega)
      rw [hsz1] at hzz
      have HZV := Lib.hid hzz
      have HZC : Hid (∀ W L2 f, LieW w W b s l g q n gw Z L2 f → W.cell? ⟨q, t * 2 + 1, none⟩ = some (.slice (some ⟨gv, 0, none⟩) m cv)) := fun W L2 f h => by rw [← HZV.out]; exact (h.od.row t htn).2.1
      obtain ⟨H, hH, hH16⟩ := HHH.out t htn
      have HHQ := Lib.hid hH
      have c1 := HZC.out _ _ _ HW1.out
      clear hsz1 hzz hH
      go_wp2_with fail
      clear c1
      obtain ⟨wo, hwo⟩ : ∃ wo, wo = wr := ⟨_, rfl⟩
      subst hwo
      go_loopw [12, 35] (fun _ j wq => ∃ (k : Nat) (L2 : List Shr), k ≤ m ∧ j = .int .i64 k ∧ Hid (LieP p m t k L L2) ∧ Hid (LieW w wq b s l g q n gw Z L2 (wfl L t))) (fun _ j _ => m - (intOf j).toNat)
      case atStart => exact ⟨0, L1, Nat.zero_le _, rfl, HP1, HW1⟩
      case round =>
        obtain ⟨k, L2, hk, rfl, HP2, HW2⟩ := hrel
        obtain ⟨wq, hwq⟩ : ∃ wq, wq = wr := ⟨_, rfl⟩
        subst hwq
        clear HP1 HW1
        by_cases hkm : k < m
        · by_cases hk0 : k = 0
          · subst hk0
            obtain ⟨x, hx⟩ : ∃ x, (L2.getD t (0, [])).2.getD 0 0 = x := ⟨_, rfl⟩
            have hex : El p x := by rw [← hx]; exact els_at (by omega) (HP2.out.els t (by rw [HNN.out]; exact htn)) 0
            have HX := Lib.hid hx
            have hx0 := hex.1
            have hx1 := hex.2
            have HCEL : Hid (∀ W, LieW w W b s l g q n gw Z L2 (wfl L t) → W.cell? ⟨q, t * 2 + 1, none⟩ = some (.slice (some ⟨gv, 0, none⟩) m cv) ∧ W.cell? ⟨gv, 0, none⟩ = some (.int .i64 x) ∧ W.frozen? ⟨gv, 0, none⟩ = false) := fun W h => by
              have h1 := h.od.val t htn
              rw [HZV.out] at h1
              have hsm := HP2.out.size t (by rw [HNN.out]; exact htn)
              have h2 := h1.cell (i := 0) (by rw [hsm]; exact hkm)
              rw [HX.out] at h2
              unfold Gath at h1
              rw [hsm] at h1
              exact ⟨by rw [← HZV.out]; exact (h.od.row t htn).2.1, h2, World.ownsRow.frozenAt h1 _⟩
            have HPUT : Hid (∀ r : Int, 0 ≤ r → r < p - 1 → LieP p m t (0 + 1) L (L2.set t ((L2.getD t (0, [])).1, (L2.getD t (0, [])).2.set 0 ((x + 1 + r) % p)))) := fun r r0 r1 =>
              HP2.out.put (by rw [HNN.out]; exact htn) hkm (lie_el hp hex r0 r1) (fun e => by rw [HX.out]; exact lie_ne hp hex r0 r1)
            have HDW : Hid (LieW w wq.drew b s l g q n gw Z L2 (wfl L t)) := HW2.out.below ((Below.refl _ _).drew)
            have HG : Hid (∀ (W : World) (r : Int), LieW w W b s l g q n gw Z L2 (wfl L t) → LieW w (W.setCell ⟨gv, 0, none⟩ (.int .i64 ((x + 1 + r) % p))) b s l g q n gw Z (L2.set t ((L2.getD t (0, [])).1, (L2.getD t (0, [])).2.set 0 ((x + 1 + r) % p))) (wfl L t)) := fun W r h => h.put htn HZV.out hgl 0 _
            obtain ⟨d1, d2, d3⟩ := HCEL.out _ HDW.out
            have hwp : IntKind.i64.wrap (p - 1) = p - 1 := by rw [IntKind.wrap_i64]; omega
            have hwx : IntKind.i64.wrap (x + 1) = x + 1 := by rw [IntKind.wrap_i64]; omega
            have hpne : ¬ p = 0 := by omega
            clear hx hex
            go_wp2_with fail
            apply region_oneI (fun r W => Hid (0 ≤ r ∧ r < p - 1) ∧ Hid (LieW w W b s l g q n gw Z (L2.set t ((L2.getD t (0, [])).1, (L2.getD t (0, [])).2.set 0 ((x + 1 + r) % p))) (wfl L t)))
            case hr =>
              refine wp_region_noPanic ?_
              go_region_law
                (go_simp; go_at_call 13; with_reducible refine (next_any b s l (p - 1) wq.drew HDW.out.di (by omega) (by omega)).mono ?_; rintro e w6 ⟨r, r0, r1, rfl, hd6, hb6⟩; have HW6 := Lib.hid (HDW.out.but hb6 hd6); have hC6 := HCEL.out w6 HW6.out; have b1 := hC6.1; have b2 := hC6.2.1; have b3 := hC6.2.2; have hwr : IntKind.i64.wrap (x + 1 + r) = x + 1 + r := (by rw [IntKind.wrap_i64]; omega); have htm : (x + 1 + r).tmod p = (x + 1 + r) % p := Int.tmod_eq_emod_of_nonneg (by omega); have HRR : Hid (0 ≤ r ∧ r < p - 1) := Lib.hid ⟨r0, r1⟩; clear hd6 hb6 hC6)
              all_goals
                refine NoPanic.normal ?_
                exact ⟨rfl, r, rfl, HRR, Lib.hid (HG.out w6 _ HW6.out)⟩
            rintro r W ⟨HRR, HWF⟩
            have HPF := Lib.hid (HPUT.out r HRR.out.1 HRR.out.2)
            clear HPUT HG HCEL d1 d2 d3 HDW
            go_wp2_with fail
            go_roundw
            case rel => exact ⟨0 + 1, _, by omega, by go_num, HPF, HWF⟩
            case measure => simp [intOf]; omega
          · have hkb : ((k : Int) == 0) = false := by simp [hk0]
            have hkb2 : ¬ (k : Int) = 0 := by omega
            go_wp2_with fail
            refine (next_any b s l 2 wq HW2.out.di (by omega) (by omega)).mono ?_
            rintro e w5 ⟨r2, s0, s1, rfl, hd5, hb5⟩
            have HW5 := Lib.hid (HW2.out.but hb5 hd5)
            clear hd5 hb5 HW2
            by_cases hr2 : r2 = 0
            · have hrb : (r2 == 0) = true := by simp [hr2]
              obtain ⟨x, hx⟩ : ∃ x, (L2.getD t (0, [])).2.getD k 0 = x := ⟨_, rfl⟩
              have hex : El p x := by rw [← hx]; exact els_at (by omega) (HP2.out.els t (by rw [HNN.out]; exact htn)) k
              have HX := Lib.hid hx
              have hx0 := hex.1
              have hx1 := hex.2
              have HCEL : Hid (∀ W, LieW w W b s l g q n gw Z L2 (wfl L t) → W.cell? ⟨q, t * 2 + 1, none⟩ = some (.slice (some ⟨gv, 0, none⟩) m cv) ∧ W.cell? ⟨gv, k, none⟩ = some (.int .i64 x) ∧ W.frozen? ⟨gv, k, none⟩ = false) := fun W h => by
                have h1 := h.od.val t htn
                rw [HZV.out] at h1
                have hsm := HP2.out.size t (by rw [HNN.out]; exact htn)
                have h2 := h1.cell (i := k) (by rw [hsm]; exact hkm)
                rw [HX.out] at h2
                unfold Gath at h1
                rw [hsm] at h1
                exact ⟨by rw [← HZV.out]; exact (h.od.row t htn).2.1, h2, World.ownsRow.frozenAt h1 _⟩
              have HPUT : Hid (∀ r : Int, 0 ≤ r → r < p - 1 → LieP p m t (k + 1) L (L2.set t ((L2.getD t (0, [])).1, (L2.getD t (0, [])).2.set k ((x + 1 + r) % p)))) := fun r r0 r1 =>
                HP2.out.put (by rw [HNN.out]; exact htn) hkm (lie_el hp hex r0 r1) (fun e => by subst e; rw [HX.out]; exact lie_ne hp hex r0 r1)
              have HDW : Hid (LieW w w5.drew b s l g q n gw Z L2 (wfl L t)) := HW5.out.below ((Below.refl _ _).drew)
              have HG : Hid (∀ (W : World) (r : Int), LieW w W b s l g q n gw Z L2 (wfl L t) → LieW w (W.setCell ⟨gv, k, none⟩ (.int .i64 ((x + 1 + r) % p))) b s l g q n gw Z (L2.set t ((L2.getD t (0, [])).1, (L2.getD t (0, [])).2.set k ((x + 1 + r) % p))) (wfl L t)) := fun W r h => h.put htn HZV.out hgl k _
              obtain ⟨d1, d2, d3⟩ := HCEL.out _ HDW.out
              have hwp : IntKind.i64.wrap (p - 1) = p - 1 := by rw [IntKind.wrap_i64]; omega
              have hwx : IntKind.i64.wrap (x + 1) = x + 1 := by rw [IntKind.wrap_i64]; omega
              have hpne : ¬ p = 0 := by omega
              clear hx hex
              go_wp2_with fail
              apply region_oneI (fun r W => Hid (0 ≤ r ∧ r < p - 1) ∧ Hid (LieW w W b s l g q n gw Z (L2.set t ((L2.getD t (0, [])).1, (L2.getD t (0, [])).2.set k ((x + 1 + r) % p))) (wfl L t)))
              case hr =>
                refine wp_region_noPanic ?_
                go_region_law
                  (go_simp; go_at_call 13; with_reducible refine (next_any b s l (p - 1) w5.drew HDW.out.di (by omega) (by omega)).mono ?_; rintro e w6 ⟨r, r0, r1, rfl, hd6, hb6⟩; have HW6 := Lib.hid (HDW.out.but hb6 hd6); have hC6 := HCEL.out w6 HW6.out; have b1 := hC6.1; have b2 := hC6.2.1; have b3 := hC6.2.2; have hwr : IntKind.i64.wrap (x + 1 + r) = x + 1 + r := (by rw [IntKind.wrap_i64]; omega); have htm : (x + 1 + r).tmod p = (x + 1 + r) % p := Int.tmod_eq_emod_of_nonneg (by omega); have HRR : Hid (0 ≤ r ∧ r < p - 1) := Lib.hid ⟨r0, r1⟩; clear hd6 hb6 hC6)
                all_goals
                  refine NoPanic.normal ?_
                  exact ⟨rfl, r, rfl, HRR, Lib.hid (HG.out w6 _ HW6.out)⟩
              rintro r W ⟨HRR, HWF⟩
              have HPF := Lib.hid (HPUT.out r HRR.out.1 HRR.out.2)
              clear HPUT HG HCEL d1 d2 d3 HDW
              go_wp2_with fail
              go_roundw
              case rel => exact ⟨k + 1, _, by omega, by go_num, HPF, HWF⟩
              case measure => simp [intOf]; omega
            · have hrb : (r2 == 0) = false := by simp [hr2]
              have HPS := Lib.hid (HP2.out.skip (Nat.pos_of_ne_zero hk0))
              go_wp2_with fail
              go_roundw
              case rel => exact ⟨k + 1, _, by omega, by go_num, HPS, HW5⟩
              case measure => simp [intOf]; omega
        · obtain rfl : k = m := by omega
          have HPN := Lib.hid (HP2.out.next hm1)
          have c1 := HZC.out _ _ _ HW2.out
          have c0 : wq.cell? ⟨q, t * 2, none⟩ = some (.int .i64 (H : Int)) := by rw [(HW2.out.od.row t htn).1, HW2.out.od.hold t htn, HP2.out.hold t, HHQ.out]
          have e0 := HW2.out.row.cell (i := H) (by omega)
          have e1 := HW2.out.row.frozen H
          have h17 : (H : Int) < 17 := by omega
          have hk1 : (0 : Int) < (k : Int) := by omega
          have HWM : Hid (LieW w (wq.setCell ⟨gw, H, none⟩ (.bool true)) b s l g q n gw Z L2 (wfl L (t + 1))) := HW2.out.mark H fun i _ => wfl_succ L t i H HHQ.out
          clear HP2 HW2
          go_wp2_with fail
          go_roundw
          case rel => exact ⟨t + 1, _, by omega, by go_num, HPN, HWM⟩
          case measure => simp [intOf]; omega
    · obtain rfl : t = T := by omega
      have hcs : ¬ (t : Int) < (T0 : Int) ∨ ((t : Int) < (T0 : Int) ∧ ¬ (t : Int) < (n : Int)) := by omega
      clear hTe hT0
      rcases hcs with hnt | ⟨hnt, hnt2⟩
      all_goals
        obtain ⟨C, hC, hCs, hCi⟩ := HW1.out.row
        have HCC := Lib.hid hC
        have HCI := Lib.hid hCi
        obtain ⟨lo, hlo⟩ : ∃ lo, wr.heap.size = lo := ⟨_, rfl⟩
        have HLO := Lib.hid hlo
        have HG0 : Hid (Gath wr lo (.slice none 0 0) (outL L t 0)) := gath_nil _ _
        have HBB : Hid (Below lo wr wr) := Below.refl _ _
        obtain ⟨w3, hw3⟩ : ∃ w3, w3 = wr := ⟨_, rfl⟩
        subst hw3
        clear hC hCi hlo
        go_wp2_with (refine wpList_load_row rfl 59 (.tmp 10) rfl gw rfl 59 C (0, 0) _ HCC.out Tryz.underlying59 rfl (by rw [hCs]; exact info17) ?_)
        go_loopw [13, 14, 15, 83] (fun o _ _ j wq => ∃ i : Nat, i ≤ 17 ∧ j = .int .i64 i ∧ Hid (Gath wq lo o (outL L t i)) ∧ Hid (Below lo w3 wq)) (fun _ _ _ j _ => 17 - (intOf j).toNat)
        case atStart => exact ⟨0, Nat.zero_le _, rfl, HG0, HBB⟩
        case round =>
          obtain ⟨i, hi, rfl, HGG2, HB⟩ := hrel
          by_cases hi17 : i < 17
          · have hci := HCI.out i hi17
            have HSZ : Hid (lo ≤ wr.heap.size) := by have := HB.out.size; have := HLO.out; show _ ≤ _; omega
            obtain ⟨bb, hbb⟩ : ∃ bb, wfl L t i = bb := ⟨_, rfl⟩
            rw [hbb] at hci
            have hix := lie_index C i bb hi17 hci
            clear hci
            cases bb with
            | true =>
              have HOL := Lib.hid (outL_yes hbb)
              have HLN : Hid ((outL L t i).length < 17592186044416) := by have := outL_len L t i; show _ < _; omega
              clear hbb
              go_wp2_with (at_builtin; refine append_one _ rfl _ _ rfl lo _ _ (i : Int) rfl (HGG2.out.alloc _) ⟨wr.heap.size, 0, none⟩ rfl (cell_alloc_new _ _ _ _ rfl) HLN.out (Nat.le_trans HSZ.out (by simp)) ?_; intro v9 w9 hg9 hk9)
              have HG9 := Lib.hid hg9
              have HB9 : Hid (Below lo w3 w9) := (HB.out.trans (((Below.refl wr.heap.size wr).alloc (Nat.le_refl _) _).mono HSZ.out)).grown hk9 (Nat.le_trans HSZ.out (by simp)) (fun x hx => (World.ownsRow.lt HGG2.out x hx).1)
              rw [← HOL.out] at HG9
              clear hg9 hk9
              go_wp2_with fail
              go_roundw
              case rel => exact ⟨i + 1, by omega, by go_num, HG9, HB9⟩
              case measure => simp [intOf]; omega
            | false =>
              have HOL := Lib.hid (outL_no hbb)
              clear hbb
              go_wp2_with fail
              go_roundw
              case rel => exact ⟨i + 1, by omega, by go_num, by rw [HOL.out]; exact HGG2, HB⟩
              case measure => simp [intOf]; omega
          · obtain rfl : i = 17 := by omega
            have HWE := Lib.hid (HW1.out.below (by rw [HLO.out]; exact HB.out))
            have HIO := Lib.hid (HGG2.out.reads (by have := outL_len L t 17; omega))
            have HLB : Hid (∀ s ∈ L1, s.2.length ≤ 140737488355328) := fun s hs => by
              obtain ⟨j, hj, rfl⟩ := List.mem_iff_getElem.1 hs
              have h1 := HP1.out.size j (by rw [← HP1.out.len]; exact hj)
              rw [getD_at2 hj] at h1
              omega
            go_wp2_with fail
            go_ret2
            exact ⟨_, _, L1, rfl, HWE.out.od.plain (by omega) hvc hvc2 HLB.out, HIO.out, HP1.out, HWE.out.di, HWE.out.be⟩
theorem lie_any (b : Nat) (s : Value) (l : List Int) (p : Int) (T m : Nat) (sv : Value) (L : List Shr) (w : World) (hd : DiceAt w b s l) (hp : 2 ≤ p) (hp2 : p ≤ 1073741824) (hs : Shares w sv L) (hm1 : 1 ≤ m) (hm2 : m ≤ 1000) (hm : ∀ x ∈ L, x.2.length = m) (he : ∀ x ∈ L, Els p x.2) (hH : ∀ x ∈ L, 1 ≤ x.1 ∧ x.1 ≤ 16) (hT : T ≤ L.length) (hn0 : 0 < L.length) (hn2 : L.length ≤ 100) :
    Calls Tryz.prog 11 #[.pointer (some ⟨b, 0, none⟩), .int .i64 p, sv, .int .i64 T] w fun e w' => ∃ v o L', e = .returned (.tuple #[v, o]) ∧ SharesN w' w.heap.size v L' ∧ Ints w' o (outL L T 17) ∧ LieP p m T 0 L L' ∧ DiceAt w' b s l ∧ But b w w' :=
  lie_anyM b s l p T T m sv L w hd hp hp2 hs hm1 hm2 hm he hH hT (Nat.le_refl _) (.inl rfl) (by omega) hn0 hn2
end Go.Proofs.YtpgbjnenllfmlaaGreatDoor
/-! Wrong shares change nothing: mathematics. -/
namespace Go.Proofs.YtpgbjnenllfmlaaGreatDoor
open Go.RowKit Go.Sort
open Num
set_option linter.unusedVariables false

theorem sget {L : List Shr} {j : Nat} (hj : j < L.length) : L.getD j (0, []) ∈ L := by rw [List.getD_eq_getElem?_getD, List.getElem?_eq_getElem hj]; exact List.getElem_mem _
theorem sget_eq {L : List Shr} {j : Nat} (hj : j < L.length) : L.getD j (0, []) = L[j] := by simp [List.getD, hj]
theorem lie_fst {p : Int} {m t k : Nat} {L L' : List Shr} (h : LieP p m t k L L') : L'.map (·.1) = L.map (·.1) := by
  refine List.ext_getElem (by simp [h.len]) fun i h1 h2 => ?_
  rw [List.getElem_map, List.getElem_map, ← sget_eq, ← sget_eq]
  exact h.hold i
theorem lie_gd {p : Int} {N m t k : Nat} {L L' : List Shr} (h : LieP p m t k L L') (g : Gd p N m L) : Gd p N m L' := by
  have hin : ∀ x ∈ L', ∃ j, j < L.length ∧ L'.getD j (0, []) = x := fun x hx => by
    obtain ⟨j, hj, rfl⟩ := List.mem_iff_getElem.1 hx
    exact ⟨j, by rw [← h.len]; exact hj, sget_eq hj⟩
  refine ⟨fun x hx => ?_, fun x hx => ?_, fun x hx => ?_, by rw [lie_fst h]; exact g.one⟩
  · obtain ⟨j, hj, rfl⟩ := hin x hx
    rw [h.hold j]; exact g.hold _ (sget hj)
  · obtain ⟨j, hj, rfl⟩ := hin x hx
    exact h.els j hj
  · obtain ⟨j, hj, rfl⟩ := hin x hx
    exact h.size j hj
theorem outL_few {L : List Shr} {T : Nat} (hH : ∀ j, j < T → 0 ≤ (L.getD j (0, [])).1 ∧ (L.getD j (0, [])).1 ≤ 16) : (outL L T 17).length ≤ T := by
  have h := sub_len (outL L T 17) ((List.range T).map fun j => (L.getD j (0, [])).1) (asc_nodup (outL_asc L T 17)) fun x hx => by
    obtain ⟨j, hj, rfl⟩ := (outL_mem hH x).1 hx
    exact List.mem_map.2 ⟨j, List.mem_range.2 hj, rfl⟩
  simpa using h
theorem bears {p : Int} {K N m T : Nat} {L L' : List Shr} {Sx W : List Int} {c : Int} {f : Nat → List Int} (hp : PrmI p) (hnp : (N : Int) < p) (hN : N ≤ 16) (hm : 1 ≤ m) (g : Gd p N m L) (o : On p (K + 1) m f L) (h : LieP p m T 0 L L') (hT : T ≤ (L.length - (K + 1)) / 2) (hK : K + 1 ≤ L.length)
    (hr : RobR p (K + 1) m L' Sx W c) : c = 0 ∧ Sx = (List.range m).map (fun i => E (f i) 0 % p) ∧ W = outL L T 17 := by
  have hp1 : 1 ≤ p := by have := hp.1; omega
  have hTL : T ≤ L.length := by omega
  have hH : ∀ j, j < T → 0 ≤ (L.getD j (0, [])).1 ∧ (L.getD j (0, [])).1 ≤ 16 := fun j hj => by
    have := g.hold _ (sget (show j < L.length by omega))
    omega
  refine robR_bears hp hnp (lie_gd h g) hr (by rw [h.len]; exact hK) f o.len (outL L T 17) (outL_asc L T 17) (fun x => ?_) (by rw [h.len]; exact Nat.le_trans (outL_few hH) hT)
  rw [outL_mem hH x, h.len]
  constructor
  · rintro ⟨j, hj, rfl⟩
    refine ⟨j, by omega, h.hold j, 0, hm, ?_⟩
    rw [← o.val _ (sget (show j < L.length by omega)) 0 hm]
    exact fun e => h.wrong j hj e.symm
  · rintro ⟨j, hj, hx, i, hi, hne⟩
    by_cases hjT : j < T
    · exact ⟨j, hjT, by rw [← h.hold j]; exact hx⟩
    · exfalso
      apply hne
      rw [← hx, h.hold j, ← o.val _ (sget hj) i hi]
      by_cases e : j = T
      · subst e; exact (h.rest i (Nat.zero_le _)).symm
      · rw [h.same j (by omega)]
end Go.Proofs.YtpgbjnenllfmlaaGreatDoor
