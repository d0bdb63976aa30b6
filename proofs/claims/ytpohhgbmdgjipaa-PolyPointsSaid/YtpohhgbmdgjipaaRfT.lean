
/- Contract of the document's answer for Through. -/
import Derived.Test.YtpohhgbmdgjipaaRfL
import Derived.Test.YtpohhgbmdgjipaaRfM
import Derived.Test.YtpohhgbmdgjipaaRfD
import Derived.Deep.RegionHeld3
namespace Go.Proofs.Ytpohhgbmdgjipaa
open Go.RowKit Go.Shelf Go.Sort
open Num
set_option linter.unusedVariables false

theorem region_onceV {P : Program} {id : Nat} {ops : Array Oper} {d : Bool} {Q : Exit → Act → World → Prop} {a : Act} {w : World} (R : Value → World → Prop) (A : Value → Act) (hr : (Code.region id ops d).wp P (fun e a' W => e = .normal ∧ ∃ v, a' = A v ∧ R v W) a w)
    (h : ∀ v W, R v W → Q .normal (A v) W) : (Code.region id ops d).wp P Q a w :=
  Code.wp_mono (fun _ _ _ ⟨h1, v, h2, h3⟩ => by subst h1; subst h2; exact h v _ h3) hr

def ThJ (p : Int) (xs ys : List Int) (B O k : Nat) (w W : World) : Prop := ∃ l, LagP p xs ys k l ∧ Row W O l ∧ Below B w W
def OneI (p : Int) (xs : List Int) (k j : Nat) (w3 W : World) (v : Value) : Prop := ∃ Z, OneP p xs k j Z ∧ Ints W v Z ∧ (∀ g, v.ownBlock = some g → w3.heap.size ≤ g) ∧ Below w3.heap.size w3 W

set_option maxRecDepth 100000 in
set_option maxHeartbeats 4000000 in
theorem ref_through_core (p : Int) (ax ay : Option Addr) (n cx cy : Nat) (xs ys : List Int) (w : World) (hp : PrmI p) (hp2 : p ≤ 1073741824) (hxs : Els p xs) (hys : Els p ys)
    (hsx : Ints w (.slice ax n cx) xs) (hsy : Ints w (.slice ay n cy) ys) (hnx : Hid (n = xs.length)) (hny : Hid (n = ys.length)) (hok : Hid (plc xs = 0)) (hl : n ≤ 1000) (hc : n ≤ cx) (hc2 : cx ≤ 9223372036854775807) :
    Calls Try.prog 29 #[.int .i64 p, .slice ax n cx, .slice ay n cy] w fun e w' =>
      ∃ v z, e = .returned (.tuple #[v, .int .i64 0]) ∧ Ints w' v z ∧ Thru p xs ys z ∧ Below w.heap.size w w' := by
  have hp0 := hp.1
  have hp1 : 1 ≤ p := by omega
  have HPR := Lib.hid hp
  have hne : xs ≠ [] := fun e => by have h := hok.out; rw [e, plc_nil] at h; cases h
  have h0 : 0 < n := by rw [hnx.out]; exact List.length_pos_iff.2 hne
  have hp00 : plc0 xs = 0 := by rw [← plc_of hne]; exact hok.out
  have HND : Hid (xs.Nodup) := nodup_of (by
    have h := hp00; unfold plc0 at h
    cases e : dupB xs with
    | false => rfl
    | true => rw [e] at h; cases h)
  have HPL := Lib.hid (ref_places_core ax n cx xs w hsx hnx (by omega) hc hc2)
  rw [hp00] at HPL
  have z1 : ((n : Int) == 0) = false := by simp; omega
  have q1 : (1 : Int).tmod p = 1 := by rw [Int.tmod_eq_emod_of_nonneg (by omega)]; exact one_mod hp0
  have q2 : ¬ p = 0 := by omega
  have q3 : (1 : Int) % p = 1 := one_mod hp0
  have hmx : Try.prog.follows .mixedOrders = true := by kernel_rfl
  have hmk := run_make_row' (P := Try.prog) 22 3 (.int .i64 0) 8 Try.underlying22 infoInt rfl .i64 .i64 n (by omega) (by omega)
  clear hp hne hp00
  go_enter Try.func29, Try.ntmps29
  go_wp2_with (go_at_call 44; refine HPL.out.mono ?_; rintro e w' ⟨rfl, rfl⟩)
  have HJ0 : Hid (ThJ p xs ys w.heap.size w.heap.size 0 w (w.alloc (.cells (madeCells #[.int .i64 0] n) 3))) :=
    ⟨List.replicate n 0, by rw [hnx.out]; exact lagP_start hp1 xs ys, Row.made w n, (Below.refl _ _).alloc (Nat.le_refl _) _⟩
  generalize w.alloc (.cells (madeCells #[.int .i64 0] n) 3) = w1 at *
  clear HPL hmk
  go_loopw [10, 11, 12, 13, 14, 15, 16, 17, 18, 19, 40] (fun _ _ _ _ _ _ _ _ _ _ i wr => ∃ k : Nat, k ≤ n ∧ i = .int .i64 k ∧ Hid (ThJ p xs ys w.heap.size w.heap.size k w wr)) (fun _ _ _ _ _ _ _ _ _ _ i _ => n - (intOf i).toNat)
  case atStart => exact ⟨0, Nat.zero_le _, rfl, HJ0⟩
  case round =>
    obtain ⟨k, hk, rfl, hj⟩ := hrel
    rename World => wo
    obtain ⟨l, hlag, hrow, hbel⟩ := hj.out
    have HLG := Lib.hid hlag
    have HRW := Lib.hid hrow
    have HB := Lib.hid hbel
    have hsxr := Lib.hid (hsx.below (Nat.le_refl _) hbel)
    have hsyr := Lib.hid (hsy.below (Nat.le_refl _) hbel)
    have hs1 := hbel.size
    clear hlag hrow hbel hj
    by_cases hlt : k < n
    · obtain ⟨b0, o0, rfl, hca⟩ := ints_at hsxr.out hnx.out (k := k) hlt
      have ea := els_at hp1 hxs k
      obtain ⟨a, hav⟩ : ∃ a, xs.getD k 0 = a := ⟨_, rfl⟩
      rw [hav] at hca ea
      have HA := Lib.hid hav
      clear hav
      go_wp2
      try simp only [q3]
      have HI0 : Hid (OneI p xs k 0 wo (wo.alloc (.cells #[.int .i64 1] 3)) (.slice (some ⟨wo.heap.size, 0, none⟩) 1 1)) :=
        ⟨[1], oneP_start hp0 xs k, ints_one wo 1 3, (fun g hg => by simp [Value.ownBlock] at hg; omega), (Below.refl _ _).alloc (Nat.le_refl _) _⟩
      generalize Value.slice (some ⟨wo.heap.size, 0, none⟩) 1 1 = v0 at *
      generalize wo.alloc (.cells #[.int .i64 1] 3) = w3 at *
      go_loopw [12, 13, 14, 15, 52] (fun t lo _ _ c wo' => ∃ j : Nat, j ≤ n ∧ c = .int .i64 j ∧ lo = .int .i64 (PK xs k a j % p) ∧ Hid (OneI p xs k j wo wo' t)) (fun _ _ _ _ c _ => n - (intOf c).toNat)
      case atStart => exact ⟨0, Nat.zero_le _, rfl, by rw [show PK xs k a 0 = 1 from rfl, one_mod hp0], HI0⟩
      case round =>
        obtain ⟨j, hj, rfl, rfl, hone⟩ := hrel
        obtain ⟨Z, hoz, hzi, hfr, hbl⟩ := hone.out
        obtain ⟨az, cz, rfl, -, -⟩ := id hzi
        have HFR := Lib.hid hfr
        have HOZ := Lib.hid hoz
        have HZI := Lib.hid hzi
        have HBL := Lib.hid hbl
        have hlz := hoz.len
        clear hone hoz hzi hbl hfr
        by_cases hjn : j < n
        · obtain ⟨b1, o1, e1, hcb⟩ := ints_at (hsxr.out.below (Nat.le_refl _) HBL.out) hnx.out (k := j) hjn
          injection e1 with e1
          injection e1 with e1 e2
          subst e1 e2
          have eb := els_at hp1 hxs j
          obtain ⟨b, hbv⟩ : ∃ b, xs.getD j 0 = b := ⟨_, rfl⟩
          rw [hbv] at hcb eb
          by_cases hjk : j = k
          · subst hjk
            have H2 : Hid (PK xs j a (j + 1) = PK xs j a j) := PK_skip rfl
            have HO2 : Hid (OneI p xs j (j + 1) wo wr (.slice az Z.length cz)) := ⟨Z, oneP_skip HOZ.out rfl, HZI.out, HFR.out, HBL.out⟩
            clear hbv
            go_wp2
            go_roundw
            case rel => exact ⟨j + 1, by omega, by go_num, by rw [H2.out], HO2⟩
            case measure => simp [intOf]; omega
          · have hkj : ((k : Int) == (j : Int)) = false := by simp; omega
            have hkj2 : decide ((k : Int) = (j : Int)) = false := decide_eq_false (by omega)
            have H2 := Lib.hid (PK_step (p := p) (x := a) hjk hbv)
            have HBV := Lib.hid hbv
            have eL := el_mod hp1 (PK xs k a j)
            obtain ⟨L, hL⟩ : ∃ L, PK xs k a j % p = L := ⟨_, rfl⟩
            rw [hL] at H2 eL ⊢
            obtain ⟨eL0, eL1⟩ := eL
            obtain ⟨s20, s21⟩ := el_sub hp1 a b
            have es1 := el_sub hp1 0 b
            have HS1 := Lib.hid (ref_sub_el (p := p) · hp1 hp2 (el_zero hp1) eb)
            have HS2 := Lib.hid (ref_sub_el (p := p) · hp1 hp2 ea eb)
            obtain ⟨S2, hS2⟩ : ∃ S, subF p a b = S := ⟨_, rfl⟩
            obtain ⟨S1, hS1⟩ : ∃ S, subF p 0 b = S := ⟨_, rfl⟩
            rw [hS2] at HS2 H2 s20 s21
            rw [hS1] at HS1 es1
            have HSV := Lib.hid hS1
            obtain ⟨m3, m4⟩ := mul_bound hp2 eL0 eL1 s20 s21
            have u2 : IntKind.i64.wrap (L * S2) = L * S2 := IntWalk.i64_in _ (by omega)
            have u4 : (L * S2).tmod p = L * S2 % p := Int.tmod_eq_emod_of_nonneg m3
            have r2 := el_mod hp1 (L * S2)
            have u6 : IntKind.i64.wrap (L * S2 % p) = L * S2 % p := IntWalk.i64_in _ (by have := r2.1; have := r2.2; omega)
            have E2 : Hid (Els p [S1, 1]) := fun z hz => by
              rcases List.mem_cons.1 hz with rfl | hz
              · exact es1
              · rw [List.mem_singleton.1 hz]; exact ⟨by omega, by omega⟩
            have HLZ := Lib.hid hlz
            clear hbv hL hS1 hS2 r2 eL0 eL1 s20 s21 m3 m4 hlz
            obtain ⟨lz, hlz⟩ : ∃ k, Z.length = k := ⟨_, rfl⟩
            have HMU : Hid (∀ W, Below wr.heap.size wr W → Calls Try.prog 22 #[.int .i64 p, .slice az lz cz, .slice (some ⟨W.heap.size, 0, none⟩) 2 2] (W.alloc (.cells #[.int .i64 S1, .int .i64 1] 3)) fun e w' => ∃ v z, e = .returned v ∧ Ints w' v z ∧ Prod p Z [S1, 1] z ∧ (∀ g, v.ownBlock = some g → wr.heap.size ≤ g) ∧ Below wr.heap.size wr w') := fun W hW => by
              have hI2 := ints_two W S1 1 3
              have hb2 : Below wr.heap.size wr (W.alloc (.cells #[.int .i64 S1, .int .i64 1] 3)) := hW.alloc hW.size _
              have hZ2 := HZI.out.below (Nat.le_refl _) hb2
              rw [hlz] at hZ2
              refine (ref_mul_fresh (W.alloc (.cells #[.int .i64 S1, .int .i64 1] 3)) hp1 hp2 HOZ.out.els E2.out hZ2 hI2 (by have := HLZ.out; simp; omega)).mono ?_
              rintro e w' ⟨v, z, h1, h2, h3, h5, h4⟩
              exact ⟨v, z, h1, h2, h3, fun g hg => Nat.le_trans hb2.size (h5 g hg), hb2.trans (h4.mono hb2.size)⟩
            rw [hlz]
            go_wp2
            apply region_onceV (fun v W => ∃ z, Ints W v z ∧ Prod p Z [S1, 1] z ∧ (∀ g, v.ownBlock = some g → wr.heap.size ≤ g) ∧ Below wr.heap.size wr W)
            case hr =>
              go_region_held3 (fun w' => Below wr.heap.size wr w') (first | exact (Below.refl _ _).drew | assumption | exact ((Below.refl _ _).drew).alloc (Nat.le_refl _) _ | exact Below.refl _ _)
                (first
                  | (go_at_call 22; refine (HMU.out _ ((Below.refl _ _).drew)).mono ?_; rintro e w' ⟨v, z, rfl, hv, hz, hf, hb⟩)
                  | (go_at_call 39; with_reducible refine (HS1.out _).mono ?_; rintro e w' ⟨rfl, rfl⟩)
                  | (go_at_call 39; with_reducible refine (HS2.out _).mono ?_; rintro e w' ⟨rfl, rfl⟩))
              all_goals exact ⟨rfl, v, rfl, z, hv, hz, hf, hb⟩
            rintro v W ⟨z, hv, hz, hf, hb⟩
            have HO2 : Hid (OneI p xs k (j + 1) wo W v) := ⟨z, oneP_step HOZ.out hjk HBV.out (by rw [HSV.out]; exact hz), hv, (fun g hg => Nat.le_trans HBL.out.size (hf g hg)), HBL.out.trans (hb.mono HBL.out.size)⟩
            clear hv hz hf hb HMU HS1 HS2 hcb hlz HZI HBL HFR HOZ
            go_wp2
            go_roundw
            case rel => exact ⟨j + 1, by omega, by go_num, by rw [← H2.out], HO2⟩
            case measure => simp [intOf]; omega
        · obtain rfl : j = n := by omega
          have hwt := wt_val (x := 0) HPR.out (i := k) (by rw [← hnx.out]; exact hlt) HND.out hxs
          have hw0 := hwt.1
          rw [HA.out, ← hnx.out] at hw0
          have eL := el_mod hp1 (PK xs k a j)
          have HIE0 : Hid (iv p (PK xs k a j % p) = iv0 p (PK xs k (xs.getD k 0) xs.length % p)) := by show _ = _; rw [HA.out, ← hnx.out]; unfold iv0; rw [if_neg (by omega)]
          obtain ⟨L, hL⟩ : ∃ L, PK xs k a j % p = L := ⟨_, rfl⟩
          rw [hL] at hw0 eL HIE0 ⊢
          have HIV := Lib.hid (ref_inverse_some p L wr HPR.out hp2 hw0 eL.2)
          obtain ⟨ei0, ei1⟩ := el_iv hp1 L
          obtain ⟨v, hv⟩ : ∃ v, iv p L = v := ⟨_, rfl⟩
          rw [hv] at HIV HIE0 ei0 ei1
          have HRW2 := Lib.hid (HRW.out.below HBL.out HRW.out.lt)
          have HBW2 := Lib.hid (HB.out.trans (HBL.out.mono HB.out.size))
          have HLQ := Lib.hid (lagQ_start (Z := Z) (v := v) (y := ys.getD k 0) HLG.out)
          have hzn : Z.length ≤ j := HOZ.out.len2 hlt
          have HWO : Hid (w.heap.size < wo.heap.size) := HRW.out.lt
          obtain ⟨lz, hlz⟩ : ∃ k, Z.length = k := ⟨_, rfl⟩
          have HLZ := Lib.hid hlz
          have HZ0 := HZI.out
          rw [hlz] at hzn HZ0 HFR ⊢
          have HZ1 := Lib.hid HZ0
          clear hwt hw0 hL hv eL hlz HZ0 HLG HRW HBL HZI
          go_wp2_with fail
          refine HIV.out.mono ?_
          rintro e w' ⟨rfl, rfl⟩
          rename World => wq
          go_wp2
          go_loopw [18, 19, 86] (fun _ _ c wr' => ∃ m : Nat, ∃ l : List Int, m ≤ lz ∧ c = .int .i64 m ∧ Hid (LagQ p xs ys Z v (ys.getD k 0) k m l) ∧ Hid (Row wr' w.heap.size l) ∧ Hid (But w.heap.size wq wr') ∧ Hid (Below w.heap.size w wr')) (fun _ _ c _ => lz - (intOf c).toNat)
          case atStart => exact ⟨0, l, Nat.zero_le _, rfl, HLQ, HRW2, But.refl _ _, HBW2⟩
          case round =>
            obtain ⟨m, l2, hm, rfl, hlq, hrw, hbt, hbw⟩ := hrel
            have hln : l2.length = j := by rw [hlq.out.len, hnx.out]
            by_cases hml : m < lz
            · obtain ⟨bz, oz, rfl, hcz⟩ := ints_at (HZ1.out.but hbt.out (fun g hg => by have := HFR.out g hg; have := HWO.out; omega)) HLZ.out.symm (k := m) hml
              obtain ⟨by0, oy, rfl, hcy⟩ := ints_at (hsy.below (Nat.le_refl _) hbw.out) hny.out (k := k) hlt
              have hmn : m < l2.length := by omega
              have hco := hrw.out.cell hmn
              have hfo := hrw.out.frozen m
              have eo := els_at hp1 hlq.out.els m
              have ec := els_at hp1 HOZ.out.els m
              have ey := els_at hp1 hys k
              have HQ2 := Lib.hid (lagQ_step (c := Z.getD m 0) (u := (l2.getD m 0 + Z.getD m 0 * v % p * ys.getD k 0) % p) hp1 hlq.out hmn rfl rfl)
              have HR2 : Hid (Row ((wr.setCell ⟨w.heap.size, m, none⟩ (.int .i64 ((l2.getD m 0 + Z.getD m 0 * v % p * ys.getD k 0) % p))).drew) w.heap.size (l2.set m ((l2.getD m 0 + Z.getD m 0 * v % p * ys.getD k 0) % p))) := Row.drew (hrw.out.set hmn _)
              have HK2 : Hid (But w.heap.size wq ((wr.setCell ⟨w.heap.size, m, none⟩ (.int .i64 ((l2.getD m 0 + Z.getD m 0 * v % p * ys.getD k 0) % p))).drew)) := hbt.out.trans ((But.set wr ⟨w.heap.size, m, none⟩ _).trans (But.drewN _ _ 1))
              have HW2 : Hid (Below w.heap.size w ((wr.setCell ⟨w.heap.size, m, none⟩ (.int .i64 ((l2.getD m 0 + Z.getD m 0 * v % p * ys.getD k 0) % p))).drew)) := (hbw.out.setCell (p := ⟨w.heap.size, m, none⟩) (Nat.le_refl _) _).drew
              obtain ⟨o, ho⟩ : ∃ o, l2.getD m 0 = o := ⟨_, rfl⟩
              obtain ⟨c, hcv⟩ : ∃ c, Z.getD m 0 = c := ⟨_, rfl⟩
              obtain ⟨y, hyv⟩ : ∃ y, ys.getD k 0 = y := ⟨_, rfl⟩
              rw [ho, hcv, hyv] at HQ2 HR2 HK2 HW2
              rw [ho] at hco eo
              rw [hcv] at hcz ec
              rw [hyv] at hcy ey
              obtain ⟨eo0, eo1⟩ := eo
              obtain ⟨ec0, ec1⟩ := ec
              obtain ⟨ey0, ey1⟩ := ey
              obtain ⟨m1, m2⟩ := mul_bound hp2 ec0 ec1 ei0 ei1
              have r1 := el_mod hp1 (c * v)
              obtain ⟨r10, r11⟩ := id r1
              obtain ⟨m3, m4⟩ := mul_bound hp2 r10 r11 ey0 ey1
              have u1 : IntKind.i64.wrap (c * v) = c * v := IntWalk.i64_in _ (by omega)
              have u2 : (c * v).tmod p = c * v % p := Int.tmod_eq_emod_of_nonneg m1
              have u3 : IntKind.i64.wrap (c * v % p) = c * v % p := IntWalk.i64_in _ (by omega)
              have u4 : IntKind.i64.wrap (c * v % p * y) = c * v % p * y := IntWalk.i64_in _ (by omega)
              have u5 : IntKind.i64.wrap (o + c * v % p * y) = o + c * v % p * y := IntWalk.i64_in _ (by omega)
              have u6 : (o + c * v % p * y).tmod p = (o + c * v % p * y) % p := Int.tmod_eq_emod_of_nonneg (by omega)
              have r2 := el_mod hp1 (o + c * v % p * y)
              have u7 : IntKind.i64.wrap ((o + c * v % p * y) % p) = (o + c * v % p * y) % p := IntWalk.i64_in _ (by have := r2.1; have := r2.2; omega)
              have u8 : (m : Int) < (j : Int) := by omega
              have HYV := Lib.hid hyv
              clear ho hcv hyv hlq hrw hbt hbw r1 r2 r10 r11 m1 m2 m3 m4 eo0 eo1 ec0 ec1 ey0 ey1
              go_wp2
              refine wp_region_still_tail 20 hmx (by kernel_rfl) ?_
              simp only [List.take_succ_cons, List.take_zero, List.drop_succ_cons, List.drop_zero, drew_def]
              repeat still_step
              refine wpStill_nil ?_
              go_wp2
              go_roundw
              case rel => exact ⟨m + 1, _, by omega, by go_num, by rw [HYV.out]; exact HQ2, HR2, HK2, HW2⟩
              case measure => simp [intOf]; omega
            · obtain rfl : m = lz := by omega
              have HLP : Hid (ThJ p xs ys w.heap.size w.heap.size (k + 1) w wr) := ⟨l2, lagP_step (by rw [← hnx.out]; exact hlt) (by have h := hlq.out; rw [← HLZ.out] at h; exact h) (by have h := HOZ.out; rw [hnx.out] at h; exact h) rfl HIE0.out, hrw.out, hbw.out⟩
              clear hlq hrw hbt hbw
              go_wp2
              go_roundw
              case rel => exact ⟨k + 1, by omega, by go_num, HLP⟩
              case measure => simp [intOf]; omega
    · obtain rfl : k = n := by omega
      have HTH := Lib.hid (lagP_thru HPR.out HND.out hxs (by rw [← hnx.out]; exact HLG.out))
      have hll := HLG.out.len
      rw [← hnx.out] at hll
      have HRD := HRW.out.reads (cap := k) (by rw [hll]; omega)
      have HS := Lib.hid (ref_short_any (some ⟨w.heap.size, 0, none⟩) k l wo HRD (by omega) (by omega) (by omega))
      rw [hll] at HS
      have hdl := dg_le l
      clear HRD
      go_wp2_with (go_at_call 40; refine HS.out.mono ?_; rintro e w9 ⟨v9, rfl, hg9, hb9⟩)
      have HI9 := Lib.hid (hg9.reads (by rw [sh_len]; omega))
      go_ret2
      exact ⟨_, sh l, rfl, HI9.out, HTH.out, HB.out.trans (hb9.mono HB.out.size)⟩
end Go.Proofs.Ytpohhgbmdgjipaa
