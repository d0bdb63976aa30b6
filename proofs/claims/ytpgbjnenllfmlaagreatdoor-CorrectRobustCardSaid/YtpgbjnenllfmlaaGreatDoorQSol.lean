
/- The document's elimination: the walk. -/
import Derived.Test.YtpgbjnenllfmlaaGreatDoorQSlv
import Derived.Test.YtpgbjnenllfmlaaGreatDoorHFit
import Derived.StillTailTactics
namespace Go.Proofs.YtpgbjnenllfmlaaGreatDoor
open Go.RowKit Go.Sort
open Num
set_option linter.unusedVariables false

theorem outV_step (m : Nat → Nat → Int) (U : Nat) : ∀ (L : List Nat) (i t k : Nat), t < L.length → (∀ j, j < t → L.getD j 0 ≠ L.getD t 0) → outV m U (L.take (t + 1)) i k = if k = L.getD t 0 then m (i + t) U else outV m U (L.take t) i k
  | [], _, t, _, h, _ => by simp at h
  | c :: L, i, 0, k, _, _ => by
    show outV m U (c :: L.take 0) i k = _
    simp [outV]
  | c :: L, i, t + 1, k, h, hd => by
    have ih := outV_step m U L (i + 1) t k (by simpa using h) fun j hj => by have := hd (j + 1) (by omega); simpa using this
    have h0 := hd 0 (by omega)
    have e : (c :: L).getD (t + 1) 0 = L.getD t 0 := by simp
    rw [e] at h0 ⊢
    show outV m U (c :: L.take (t + 1)) i k = _
    rw [List.take_succ_cons]
    unfold outV
    by_cases hk : k = c
    · have hne : ¬ k = L.getD t 0 := fun e2 => h0 (show (c :: L).getD 0 0 = _ by rw [← e2, hk]; rfl)
      rw [if_pos hk, if_neg hne, if_pos hk]
    · rw [if_neg hk, if_neg hk, ih]
      by_cases h2 : k = L.getD t 0
      · rw [if_pos h2, if_pos h2]; congr 1; omega
      · rw [if_neg h2, if_neg h2]
theorem outV_el {p : Int} (hp : 1 ≤ p) {U n : Nat} {m : Nat → Nat → Int} (hE : ElM p U n m) : ∀ (L : List Nat) (i k : Nat), i + L.length ≤ n → El p (outV m U L i k)
  | [], _, _, _ => el_zero hp
  | c :: L, i, k, h => by
    rw [List.length_cons] at h
    unfold outV
    split
    · exact hE i (by omega) U (Nat.le_refl _)
    · exact outV_el hp hE L (i + 1) k (by omega)
theorem mul_bounds {p x y : Int} (hp2 : p ≤ 1073741824) (hx : El p x) (hy : El p y) : 0 ≤ x * y ∧ x * y ≤ 1152921504606846976 := by
  refine ⟨Int.mul_nonneg hx.1 hy.1, ?_⟩
  have h1 := hx.2
  have h2 := hy.2
  exact Int.mul_le_mul (by omega : x ≤ 1073741824) (by omega : y ≤ 1073741824) hy.1 (by omega)
theorem mul_wrap {p x y : Int} (hp2 : p ≤ 1073741824) (hx : El p x) (hy : El p y) : IntKind.i64.wrap (x * y) = x * y := by
  obtain ⟨h1, h2⟩ := mul_bounds hp2 hx hy
  obtain ⟨z, hz⟩ : ∃ z, x * y = z := ⟨_, rfl⟩
  rw [hz] at h1 h2 ⊢
  rw [IntKind.wrap_i64]; omega
theorem mul_tmod {p x y : Int} (hx : El p x) (hy : El p y) : (x * y).tmod p = x * y % p := Int.tmod_eq_emod_of_nonneg (Int.mul_nonneg hx.1 hy.1)
/-- What solve returns. -/
def SlvR (p : Int) (U n lo : Nat) (m0 : Nat → Nat → Int) (w : World) (e : Ending) (w' : World) : Prop := ∃ v ok, e = .returned (.tuple #[v, .bool ok]) ∧ (ok = false → ∀ x, ¬ Sol p U n m0 x) ∧ (ok = true → ∃ (gq : Nat) (out : List Int), v = .slice (some ⟨gq, 0, none⟩) U U ∧ out.length = U ∧ Els p out ∧ Ints w' v out ∧ Sol p U n m0 (fun k => out.getD k 0)) ∧ Below lo w w'
theorem sol_congr {p : Int} {U n : Nat} {m : Nat → Nat → Int} {x y : Nat → Int} (h : ∀ k, k < U → x k = y k) (hs : Sol p U n m x) : Sol p U n m y := fun i hi =>
  (sumTo_cg (p := p) (f := fun k => m i k * y k) (g := fun k => m i k * x k) U fun k hk => by rw [h k hk]; exact Cg.refl p _).trans (hs i hi)
set_option maxRecDepth 100000 in
set_option maxHeartbeats 16000000 in
theorem solve_any (p : Int) (U wd n lo q : Nat) (b cap : Nat → Nat) (cr : Nat) (m0 : Nat → Nat → Int) (w : World) (hp : PrmI p) (hp2 : p ≤ 1073741824) (hwd : U + 1 = wd) (hU : U ≤ 100) (hn : 1 ≤ n) (hn2 : n ≤ 100) (hcr : n ≤ cr) (hcr2 : cr ≤ 9223372036854775807) (hM : MatW w lo w.heap.size q n wd b cap m0) (hE : ElM p U n m0) :
    Calls Tryz.prog 68 #[.int .i64 p, .slice (some ⟨q, 0, none⟩) n cr, .int .i64 (U : Int)] w (SlvR p U n lo m0 w) := by
  obtain ⟨g, hg⟩ : ∃ g, w.heap.size = g := ⟨_, rfl⟩
  rw [hg] at hM
  have hmx : Tryz.prog.follows .mixedOrders = true := by kernel_rfl
  have hp1 : 1 ≤ p := by have := hp.1; omega
  have hp0 : ¬ p = 0 := by omega
  have hwb : wd ≤ 101 := by omega
  have HP := Lib.hid hp
  have HS0 : Hid (SlW w w lo g q n wd b cap m0 (.slice none 0 0) []) := ⟨hM, gath_nil _ _, Below.refl _ _⟩
  have HE0 := Lib.hid (ech_start hE)
  have HL0 : Hid (([] : List Nat).length = 0) := rfl
  have HGG := Lib.hid hg
  have HWD := Lib.hid hwd
  clear hM hE hp hg hwd
  go_enter Tryz.func68, Tryz.ntmps68
  go_wp2_with fail
  go_loopw [8, 9, 10, 11, 12, 13, 14, 15, 16, 17, 86, 109] (fun v r c _ _ _ _ _ _ _ _ _ wr => ∃ (cc rr : Nat) (L : List Nat) (b : Nat → Nat) (cap : Nat → Nat) (m : Nat → Nat → Int), cc ≤ U ∧ rr ≤ n ∧ r = .int .i64 rr ∧ c = .int .i64 cc ∧ Hid (L.length = rr) ∧ Hid (Ech p U n m L cc) ∧ Hid (∀ x, Sol p U n m0 x ↔ Sol p U n m x) ∧ Hid (SlW w wr lo g q n wd b cap m v L)) (fun _ _ c _ _ _ _ _ _ _ _ _ _ => U - (intOf c).toNat)
  case atStart => exact ⟨0, 0, [], b, cap, m0, Nat.zero_le _, Nat.zero_le _, rfl, rfl, HL0, HE0, fun _ => Iff.rfl, HS0⟩
  case round =>
    obtain ⟨cc, rr, L, b, cap, m, hcU, hrn, rfl, rfl, HL, HE, HQ, HS⟩ := hrel
    clear HE0 HS0 HL0
    obtain ⟨wo, hwo⟩ : ∃ wo, wo = wr := ⟨_, rfl⟩
    subst hwo
    obtain ⟨vl, hvl⟩ : ∃ vl, vl = u8 := ⟨_, rfl⟩
    subst hvl
    by_cases hgo : cc < U ∧ rr < n
    · obtain ⟨hcU2, hrn2⟩ := hgo
      have hcwd : cc < wd := by have := HWD.out; omega
      have i1 : (cc : Int) < (U : Int) := by omega
      have i2 : (rr : Int) < (n : Int) := by omega
      have HA0 : Hid (∀ i, rr ≤ i → i < rr → m i cc = 0) := fun i h1 h2 => by omega
      go_wp2_with fail
      go_loop [11] (fun a => ∃ aa : Nat, rr ≤ aa ∧ aa ≤ n ∧ a = .int .i64 aa ∧ Hid (∀ i, rr ≤ i → i < aa → m i cc = 0)) (fun a => n - (intOf a).toNat)
      case atStart => exact ⟨rr, Nat.le_refl _, hrn, rfl, HA0⟩
      case round =>
        obtain ⟨aa, hra, han, rfl, HA⟩ := hrel
        clear HA0
        by_cases hlt : aa < n
        · have i3 : (aa : Int) < (n : Int) := by omega
          obtain ⟨t0, f0⟩ := HS.out.mat.row aa hlt
          obtain ⟨t1, _⟩ := HS.out.mat.val aa hlt cc hcwd
          obtain ⟨x, hx⟩ : ∃ x, m aa cc = x := ⟨_, rfl⟩
          have hxe : El p x := by rw [← hx]; exact HE.out.el aa hlt cc hcU
          rw [hx] at t1
          by_cases hx0 : x = 0
          · have HAN : Hid (∀ i, rr ≤ i → i < aa + 1 → m i cc = 0) := fun i h1 h2 => by
              by_cases e : i = aa
              · subst e; rw [hx]; exact hx0
              · exact HA.out i h1 (by omega)
            subst hx0
            clear hx
            go_wp2_with fail
            go_round
            case rel => exact ⟨aa + 1, by omega, by omega, by go_num, HAN⟩
            case measure => simp [intOf]; omega
          · have hxb : (x == 0) = false := by simpa using hx0
            have HX := Lib.hid hx
            have HX0 : Hid (0 < x ∧ x < p) := ⟨by have := hxe.1; omega, hxe.2⟩
            have i4 : ((aa : Int) == (n : Int)) = false := by simp; omega
            clear hx
            obtain ⟨tr0, fr0⟩ := HS.out.mat.row rr hrn2
            have HSD := Lib.hid (HS.out.below ((Below.refl _ _).drew))
            have HSW := Lib.hid (HSD.out.swap hrn2 hlt)
            obtain ⟨y0, hy0⟩ : ∃ y, (wo.setCell ⟨q, rr, none⟩ (.slice (some ⟨b aa, 0, none⟩) wd (cap aa))).cell? ⟨q, aa, none⟩ = some y := by
              by_cases e : aa = rr
              · subst e; exact ⟨_, World.cell?_setCell_same _ _ _ tr0⟩
              · exact ⟨_, by rw [World.cell?_setCell_other _ _ _ _ (by intro e2; simp only [Addr.mk.injEq] at e2; omega)]; exact t0⟩
            go_wp2_with fail
            apply region_oneW (fun W => Hid (SlW w W lo g q n wd (swpN b rr aa) (swpN cap rr aa) (swpM m rr aa) vl L))
            case hr =>
              refine wp_region_noPanic ?_
              go_region_law (fail)
              all_goals
                refine NoPanic.normal ?_
                exact ⟨rfl, rfl, HSW⟩
            rintro W2 HS2
            have HEP := Lib.hid (HE.out.pivot HP.out hcU2 (a := aa) (v := iv p x) (by rw [HL.out]; exact hra) hlt (el_iv hp1 x) (by rw [HX.out, Int.mul_comm]; exact Cg.of_mod (by rw [iv_mul HP.out HX0.out.1 HX0.out.2]; have := HP.out.1; exact (Int.emod_eq_of_lt (by omega) (by omega)).symm)))
            have HQP : Hid (∀ y, Sol p U n m0 y ↔ Sol p U n (elmM p (sclM p (swpM m rr aa) rr (iv p x)) rr cc) y) := fun y => (HQ.out y).trans (sol_pivot hrn2 hlt (by rw [HX.out, Int.mul_comm]; exact Cg.of_mod (by rw [iv_mul HP.out HX0.out.1 HX0.out.2]; have := HP.out.1; exact (Int.emod_eq_of_lt (by omega) (by omega)).symm)))
            rw [HL.out] at HEP
            have HEL2 : Hid (ElM p U n (swpM m rr aa)) := fun i hi k hk => by
              unfold swpM; split
              · exact HE.out.el aa hlt k hk
              · split
                · exact HE.out.el rr hrn2 k hk
                · exact HE.out.el i hi k hk
            have hmr : swpM m rr aa rr cc = x := by unfold swpM; rw [if_pos rfl]; exact HX.out
            obtain ⟨v, hv⟩ : ∃ v, iv p x = v := ⟨_, rfl⟩
            have hve : El p v := by rw [← hv]; exact el_iv hp1 x
            obtain ⟨m2, hm2⟩ : ∃ m2, swpM m rr aa = m2 := ⟨_, rfl⟩
            obtain ⟨b2, hb2⟩ : ∃ b2, swpN b rr aa = b2 := ⟨_, rfl⟩
            obtain ⟨cap2, hcap2⟩ : ∃ c2, swpN cap rr aa = c2 := ⟨_, rfl⟩
            rw [hm2, hv] at HEP HQP
            rw [hm2, hb2, hcap2] at HS2
            rw [hm2] at HEL2 hmr
            have HVE := Lib.hid hve
            clear HSW HSD t0 f0 t1 tr0 fr0 hy0 hm2 hb2 hcap2 HX hxb HE HQ HS HA hx0 i3 i4 hve
            obtain ⟨t0, f0⟩ := HS2.out.mat.row rr hrn2
            obtain ⟨t1, _⟩ := HS2.out.mat.val rr hrn2 cc hcwd
            rw [hmr] at t1
            go_wp2_with fail
            refine (ref_inverse_some p x W2 HP.out hp2 HX0.out.1 HX0.out.2).mono ?_
            rintro e w' ⟨rfl, rfl⟩
            rw [hv]
            clear hmr t1 hxe HX0 hv
            have HK0 : Hid (SlW w W2 lo g q n wd b2 cap2 (fun i' k' => if i' = rr ∧ k' < 0 then m2 rr k' * v % p else m2 i' k') vl L) := HS2.out.congr fun i hi k hk => by rw [if_neg (by omega)]
            go_wp2_with fail
            clear t0 f0
            go_loopw [14, 86] (fun _ i wr => ∃ k : Nat, k ≤ wd ∧ i = .int .i64 k ∧ Hid (SlW w wr lo g q n wd b2 cap2 (fun i' k' => if i' = rr ∧ k' < k then m2 rr k' * v % p else m2 i' k') vl L)) (fun _ i _ => wd - (intOf i).toNat)
            case atStart => exact ⟨0, Nat.zero_le _, rfl, HK0⟩
            case round =>
              obtain ⟨k, hk, rfl, HSk⟩ := hrel
              clear HK0 HS2
              by_cases hlt2 : k < wd
              · have i5 : (k : Int) < (wd : Int) := by omega
                obtain ⟨t0, f0⟩ := HSk.out.mat.row rr hrn2
                obtain ⟨t1, f1⟩ := HSk.out.mat.val rr hrn2 k hlt2
                rw [if_neg (by omega)] at t1
                obtain ⟨y, hy⟩ : ∃ y, m2 rr k = y := ⟨_, rfl⟩
                have hye : El p y := by rw [← hy]; exact HEL2.out rr hrn2 k (by have := HWD.out; omega)
                rw [hy] at t1
                have HSD := Lib.hid (HSk.out.below ((Below.refl _ _).drew))
                have HSN : Hid (SlW w (wr.drew.setCell ⟨b2 rr, k, none⟩ (.int .i64 (y * v % p))) lo g q n wd b2 cap2 (fun i' k' => if i' = rr ∧ k' < k + 1 then m2 rr k' * v % p else m2 i' k') vl L) := (HSD.out.set hrn2 hlt2 (y * v % p)).congr fun i hi k' hk' => by
                  by_cases e : i = rr ∧ k' = k
                  · obtain ⟨rfl, rfl⟩ := e
                    rw [if_pos ⟨rfl, rfl⟩, if_pos ⟨rfl, by omega⟩, hy]
                  · rw [if_neg e]
                    by_cases e2 : i = rr ∧ k' < k
                    · rw [if_pos e2, if_pos ⟨e2.1, by omega⟩]
                    · rw [if_neg e2, if_neg (fun e3 => by
                        rcases Nat.lt_or_ge k' k with h | h
                        · exact e2 ⟨e3.1, h⟩
                        · exact e ⟨e3.1, by omega⟩)]
                have h1 := mul_wrap hp2 hye HVE.out
                have h2 := mul_tmod hye HVE.out
                clear hy hye
                go_wp2_with fail
                apply region_oneW (fun W => Hid (SlW w W lo g q n wd b2 cap2 (fun i' k' => if i' = rr ∧ k' < k + 1 then m2 rr k' * v % p else m2 i' k') vl L))
                case hr =>
                  refine wp_region_noPanic ?_
                  go_region_law (fail)
                  all_goals
                    refine NoPanic.normal ?_
                    exact ⟨rfl, rfl, HSN⟩
                rintro W3 HS3
                clear HSN HSD t0 f0 t1 f1 h1 h2
                go_wp2_with fail
                go_roundw
                case rel => exact ⟨k + 1, by omega, by go_num, HS3⟩
                case measure => simp [intOf]; omega
              · obtain rfl : k = wd := by omega
                have HS4 : Hid (SlW w wr lo g q n k b2 cap2 (sclM p m2 rr v) vl L) := HSk.out.congr fun i hi k' hk' => by
                  unfold sclM
                  by_cases e : i = rr
                  · rw [if_pos ⟨e, hk'⟩, if_pos e]
                  · rw [if_neg (fun e2 => e e2.1), if_neg e]
                have HEL3 : Hid (ElM p U n (sclM p m2 rr v)) := fun i hi k' hk' => by
                  unfold sclM; split
                  · exact el_mod hp1 _
                  · exact HEL2.out i hi k' hk'
                obtain ⟨m3, hm3⟩ : ∃ m3, sclM p m2 rr v = m3 := ⟨_, rfl⟩
                rw [hm3] at HS4 HEL3 HEP HQP
                clear hm3 HSk HEL2 HVE
                obtain ⟨w4, hw4⟩ : ∃ w4, w4 = wr := ⟨_, rfl⟩
                subst hw4
                have HI0 : Hid (SlW w w4 lo g q n k b2 cap2 (fun i' k' => if i' < 0 then elmM p m3 rr cc i' k' else m3 i' k') vl L) := HS4.out.congr fun i hi k' hk' => by rw [if_neg (by omega)]
                go_wp2_with fail
                go_loopw [15, 16, 17, 109] (fun _ _ _ i wr => ∃ ii : Nat, ii ≤ n ∧ i = .int .i64 ii ∧ Hid (SlW w wr lo g q n k b2 cap2 (fun i' k' => if i' < ii then elmM p m3 rr cc i' k' else m3 i' k') vl L)) (fun _ _ _ i _ => n - (intOf i).toNat)
                case atStart => exact ⟨0, Nat.zero_le _, rfl, HI0⟩
                case round =>
                  obtain ⟨ii, hii, rfl, HSi⟩ := hrel
                  by_cases hlt3 : ii < n
                  · have i6 : (ii : Int) < (n : Int) := by omega
                    have i7 : (0 : Int) < (k : Int) := by omega
                    obtain ⟨t0, f0⟩ := HSi.out.mat.row ii hlt3
                    obtain ⟨t1, _⟩ := HSi.out.mat.val ii hlt3 cc hcwd
                    rw [if_neg (by omega)] at t1
                    obtain ⟨f, hf⟩ : ∃ f, m3 ii cc = f := ⟨_, rfl⟩
                    have hfe : El p f := by rw [← hf]; exact HEL3.out ii hlt3 cc hcU
                    rw [hf] at t1
                    by_cases hir : ii = rr
                    · have hrow : ∀ k', k' < k → elmM p m3 rr cc ii k' = m3 ii k' := fun k' hk' => by
                        unfold elmM
                        rw [if_pos hir]
                      have HSn : Hid (SlW w wr lo g q n k b2 cap2 (fun i' k' => if i' < ii + 1 then elmM p m3 rr cc i' k' else m3 i' k') vl L) := HSi.out.congr fun i hi k' hk' => by
                        by_cases e : i < ii
                        · rw [if_pos e, if_pos (by omega)]
                        · rw [if_neg e]
                          by_cases e2 : i = ii
                          · rw [if_pos (by omega), e2, hrow k' hk']
                          · rw [if_neg (by omega)]
                      clear hrow HI0
                      have i8 : ((ii : Int) != (rr : Int)) = false := by simp; omega
                      clear hir
                      obtain ⟨w5, hw5⟩ : ∃ w5, w5 = wr := ⟨_, rfl⟩
                      subst hw5
                      go_wp2_with fail
                      go_loopw [17] (fun kk wr => kk = .int .i64 0 ∧ wr = w5) (fun _ _ => 0)
                      case atStart => exact ⟨rfl, rfl⟩
                      case round =>
                        obtain ⟨rfl, rfl⟩ := hrel
                        go_wp2_with fail
                        go_roundw
                        case rel => exact ⟨ii + 1, by omega, by go_num, HSn⟩
                        case measure => simp [intOf]; omega
                    by_cases hf0 : f = 0
                    · have hrow : ∀ k', k' < k → elmM p m3 rr cc ii k' = m3 ii k' := fun k' hk' => by
                        unfold elmM
                        rw [if_neg hir, hf, hf0, Int.zero_mul, Int.zero_emod]
                        have hx := HEL3.out ii hlt3 k' (by have := HWD.out; omega)
                        exact ((Cg.subF p _ 0).trans (Cg.of_eq (by omega))).el (el_mod hp1 _) hx
                      have HSn : Hid (SlW w wr lo g q n k b2 cap2 (fun i' k' => if i' < ii + 1 then elmM p m3 rr cc i' k' else m3 i' k') vl L) := HSi.out.congr fun i hi k' hk' => by
                        by_cases e : i < ii
                        · rw [if_pos e, if_pos (by omega)]
                        · rw [if_neg e]
                          by_cases e2 : i = ii
                          · rw [if_pos (by omega), e2, hrow k' hk']
                          · rw [if_neg (by omega)]
                      clear hrow HI0
                      have i8 : ((ii : Int) != (rr : Int)) = true := by simp; omega
                      have i9 : (f != 0) = false := by simpa using hf0
                      obtain ⟨w5, hw5⟩ : ∃ w5, w5 = wr := ⟨_, rfl⟩
                      subst hw5
                      go_wp2_with fail
                      go_loopw [17] (fun kk wr => kk = .int .i64 0 ∧ wr = w5) (fun _ _ => 0)
                      case atStart => exact ⟨rfl, rfl⟩
                      case round =>
                        obtain ⟨rfl, rfl⟩ := hrel
                        go_wp2_with fail
                        go_roundw
                        case rel => exact ⟨ii + 1, by omega, by go_num, HSn⟩
                        case measure => simp [intOf]; omega
                    · have i8 : ((ii : Int) != (rr : Int)) = true := by simp; omega
                      have i9 : (f != 0) = true := by simpa using hf0
                      have HJ0 : Hid (SlW w wr lo g q n k b2 cap2 (fun i' k' => if i' < ii then elmM p m3 rr cc i' k' else if i' = ii ∧ k' < 0 then elmM p m3 rr cc i' k' else m3 i' k') vl L) := HSi.out.congr fun i hi k' hk' => by
                        rw [if_neg (show ¬ (i = ii ∧ k' < 0) by omega)]
                      have HF := Lib.hid hf
                      have HFE := Lib.hid hfe
                      clear hf hfe HI0 HSi
                      obtain ⟨w5, hw5⟩ : ∃ w5, w5 = wr := ⟨_, rfl⟩
                      subst hw5
                      go_wp2_with fail
                      clear t0 f0 t1
                      go_loopw [17] (fun kk wr => ∃ t : Nat, t ≤ k ∧ kk = .int .i64 t ∧ Hid (SlW w wr lo g q n k b2 cap2 (fun i' k' => if i' < ii then elmM p m3 rr cc i' k' else if i' = ii ∧ k' < t then elmM p m3 rr cc i' k' else m3 i' k') vl L)) (fun kk _ => k - (intOf kk).toNat)
                      case atStart => exact ⟨0, Nat.zero_le _, rfl, HJ0⟩
                      case round =>
                        obtain ⟨t, ht, rfl, HSt⟩ := hrel
                        clear HJ0
                        obtain ⟨t0, f0⟩ := HSt.out.mat.row ii hlt3
                        by_cases hlt4 : t < k
                        · have i10 : (t : Int) < (k : Int) := by omega
                          obtain ⟨t1, f1⟩ := HSt.out.mat.val ii hlt3 t hlt4
                          obtain ⟨s0, _⟩ := HSt.out.mat.row rr hrn2
                          obtain ⟨s1, _⟩ := HSt.out.mat.val rr hrn2 t hlt4
                          rw [if_neg (by omega), if_neg (by omega)] at t1
                          have hrv : (if rr < ii then elmM p m3 rr cc rr t else if rr = ii ∧ t < t then elmM p m3 rr cc rr t else m3 rr t) = m3 rr t := by
                            by_cases e : rr < ii
                            · rw [if_pos e]; unfold elmM; rw [if_pos rfl]
                            · rw [if_neg e, if_neg (by omega)]
                          rw [hrv] at s1
                          obtain ⟨y, hy⟩ : ∃ y, m3 ii t = y := ⟨_, rfl⟩
                          obtain ⟨z, hz⟩ : ∃ z, m3 rr t = z := ⟨_, rfl⟩
                          have hye : El p y := by rw [← hy]; exact HEL3.out ii hlt3 t (by have := HWD.out; omega)
                          have hze : El p z := by rw [← hz]; exact HEL3.out rr hrn2 t (by have := HWD.out; omega)
                          rw [hy] at t1
                          rw [hz] at s1
                          have HSD := Lib.hid (HSt.out.below ((Below.refl _ _).drew))
                          have HSN : Hid (SlW w (wr.drew.setCell ⟨b2 ii, t, none⟩ (.int .i64 (subF p y (f * z % p)))) lo g q n k b2 cap2 (fun i' k' => if i' < ii then elmM p m3 rr cc i' k' else if i' = ii ∧ k' < t + 1 then elmM p m3 rr cc i' k' else m3 i' k') vl L) := (HSD.out.set hlt3 hlt4 (subF p y (f * z % p))).congr fun i hi k' hk' => by
                            by_cases e : i = ii ∧ k' = t
                            · obtain ⟨rfl, rfl⟩ := e
                              rw [if_pos ⟨rfl, rfl⟩, if_neg (by omega), if_pos ⟨rfl, by omega⟩]
                              unfold elmM
                              rw [if_neg hir, HF.out, hy, hz]
                            · rw [if_neg e]
                              by_cases e2 : i < ii
                              · rw [if_pos e2, if_pos e2]
                              · rw [if_neg e2, if_neg e2]
                                by_cases e3 : i = ii ∧ k' < t
                                · rw [if_pos e3, if_pos ⟨e3.1, by omega⟩]
                                · rw [if_neg e3, if_neg (fun e4 => by
                                    rcases Nat.lt_or_ge k' t with h | h
                                    · exact e3 ⟨e4.1, h⟩
                                    · exact e ⟨e4.1, by omega⟩)]
                          have h1 := mul_wrap hp2 HFE.out hze
                          have h2 := mul_tmod HFE.out hze
                          have HSM : Hid (SlW w ((wr.setCell ⟨b2 ii, t, none⟩ (.int .i64 (subF p y (f * z % p)))).drew) lo g q n k b2 cap2 (fun i' k' => if i' < ii then elmM p m3 rr cc i' k' else if i' = ii ∧ k' < t + 1 then elmM p m3 rr cc i' k' else m3 i' k') vl L) := HSN
                          have h3 : IntKind.i64.wrap (f * z % p) = f * z % p := by
                            have h9 := el_mod hp1 (f * z)
                            have h91 := h9.1
                            have h92 := h9.2
                            obtain ⟨zz, hzz⟩ : ∃ zz, f * z % p = zz := ⟨_, rfl⟩
                            rw [hzz] at h91 h92 ⊢
                            rw [IntKind.wrap_i64]; omega
                          have ez : El p (f * z % p) := el_mod hp1 _
                          have hye2 := hye
                          clear hy hz hze hrv HSD
                          go_wp2_with fail
                          refine wp_region_still_tail 26 hmx (by kernel_rfl) ?_
                          simp only [List.take_succ_cons, List.take_zero, List.drop_succ_cons, List.drop_zero, drew_def]
                          repeat still_step
                          still_call (still_of (ref_sub_el _ hp1 hp2 hye2 ez))
                          repeat still_step
                          refine wpStill_nil ?_
                          clear s1 hye hye2 ez h1 h2 h3
                          go_wp2_with fail
                          go_roundw
                          case rel => first | exact ⟨t + 1, by omega, by go_num, HSN⟩ | exact ⟨t + 1, by omega, by go_num, HSM⟩
                          case measure => simp [intOf]; omega
                        · obtain rfl : t = k := by omega
                          have HSn : Hid (SlW w wr lo g q n t b2 cap2 (fun i' k' => if i' < ii + 1 then elmM p m3 rr cc i' k' else m3 i' k') vl L) := HSt.out.congr fun i hi k' hk' => by
                            by_cases e : i < ii
                            · rw [if_pos e, if_pos (by omega)]
                            · rw [if_neg e]
                              by_cases e2 : i = ii
                              · rw [if_pos ⟨e2, hk'⟩, if_pos (by omega)]
                              · rw [if_neg (fun e3 => e2 e3.1), if_neg (by omega)]
                          go_wp2_with fail
                          go_roundw
                          case rel => exact ⟨ii + 1, by omega, by go_num, HSn⟩
                          case measure => simp [intOf]; omega
                  · obtain rfl : ii = n := by omega
                    have hal : Below wr.heap.size wr (wr.alloc (.cells #[.int .i64 (cc : Int)] 3)) := (Below.refl _ _).alloc (Nat.le_refl _) _
                    have HS6 : Hid (SlW w (wr.alloc (.cells #[.int .i64 (cc : Int)] 3)) lo g q ii k b2 cap2 (elmM p m3 rr cc) vl L) := (HSi.out.congr fun i hi k' hk' => by rw [if_pos hi]).below hal
                    have HC6 := Lib.hid (cell_alloc_new wr (.int .i64 (cc : Int)) 3 _ rfl)
                    have HZ6 : Hid (g ≤ (wr.alloc (.cells #[.int .i64 (cc : Int)] 3)).heap.size) := HS6.out.mat.sz
                    clear hal HSi HI0
                    go_wp2_with (at_builtin; refine append_one _ rfl _ _ rfl g vl (L.map (fun c : Nat => (c : Int))) (cc : Int) rfl HS6.out.ld ⟨wr.heap.size, 0, none⟩ rfl HC6.out ?c2 HZ6.out ?_)
                    case c2 => rw [List.length_map, HL.out]; omega
                    intro v9 w9 hg9 hgr9
                    have hb9 : Below g (wr.alloc (.cells #[.int .i64 (cc : Int)] 3)) w9 := (Below.refl g _).grown hgr9 HZ6.out (fun qq hqq => (World.ownsRow.lt HS6.out.ld qq hqq).1)
                    have HS9 : Hid (SlW w w9 lo g q ii k b2 cap2 (elmM p m3 rr cc) v9 (L ++ [cc])) := ⟨HS6.out.mat.below hb9, by rw [List.map_append]; exact hg9, HS6.out.be.trans (hb9.mono (by have := HS6.out.mat.loq; omega))⟩
                    have HL9 : Hid ((L ++ [cc]).length = rr + 1) := by show _ = _; rw [List.length_append, HL.out]; rfl
                    clear hg9 hgr9 hb9 HS6 HC6 HZ6
                    go_wp2
                    go_roundw
                    case rel => exact ⟨cc + 1, rr + 1, L ++ [cc], b2, cap2, elmM p m3 rr cc, by omega, by omega, by go_num, by go_num, HL9, HEP, HQP, HS9⟩
                    case measure => simp [intOf]; omega
        · obtain rfl : aa = n := by omega
          have HEN := Lib.hid (HE.out.skip (fun i h1 h2 => HA.out i (by rw [← HL.out]; exact h1) h2))
          go_wp2_with fail
          go_roundw
          case rel => exact ⟨cc + 1, rr, L, b, cap, m, by omega, by omega, rfl, by go_num, HL, HEN, HQ, HS⟩
          case measure => simp [intOf]; omega
    · have HCE : Hid (cc = U ∨ L.length = n) := by show _ ∨ _; rw [HL.out]; omega
      rcases (show cc = U ∨ (cc < U ∧ rr = n) by omega) with h1 | ⟨h1, h2⟩
      · have i1 : ¬ ((cc : Int) < (U : Int)) := by omega
        clear h1
        clear hgo
        have HZ0 : Hid (∀ i, rr ≤ i → i < rr + 0 → m i U = 0) := fun i h1 h2 => by omega
        obtain ⟨av, cv, hvv⟩ := HS.out.ld.shape
        rw [List.length_map, HL.out] at hvv
        subst hvv
        have hUwd : U < wd := by have := HWD.out; omega
        have hmk := run_make_row' (P := Tryz.prog) 22 3 (.int .i64 0) 8 Tryz.underlying22 infoInt rfl .i64 .i64 U (by omega) (by omega)
        have HF : Hid (∀ (gq : Nat) (W : World) (out : List Int), (∀ i, rr ≤ i → i < n → m i U = 0) → out.length = U → Row W gq out → Below lo w W → (∀ k, k < U → out.getD k 0 = outV m U (L.take rr) 0 k) → SlvR p U n lo m0 w (Ending.returned (.tuple #[.slice (some ⟨gq, 0, none⟩) U U, .bool true])) W) := fun gq W out hz hl hr hb ho => by
          rw [show L.take rr = L by rw [← HL.out]; exact List.take_length] at ho
          refine ⟨_, true, rfl, by simp, fun _ => ⟨gq, out, rfl, hl, fun x hx => ?_, ?_, ?_⟩, hb⟩
          · obtain ⟨k, hk, rfl⟩ := List.mem_iff_getElem.1 hx
            have := ho k (by omega)
            rw [getD_at hk] at this
            rw [this]
            exact outV_el hp1 HE.out.el L 0 k (by rw [HL.out]; omega)
          · have := hr.reads (cap := U) (by omega)
            rwa [hl] at this
          · exact (HQ.out _).2 (sol_congr (fun k hk => (ho k hk).symm) (HE.out.sol HP.out hcU (by rw [HL.out]; exact hrn) HCE.out (fun i h1 h2 => hz i (by rw [← HL.out]; exact h1) h2)))
        have HO0 : Hid (∀ k, k < U → (List.replicate U (0 : Int)).getD k 0 = outV m U (L.take 0) 0 k) := fun k hk => by
          simp [outV, List.getD, hk]
        by_cases hcz : cr = rr
        · have hnr : n = rr := by omega
          have HZ : Hid (∀ i, rr ≤ i → i < n → m i U = 0) := fun i h1 h2 => by omega
          obtain rfl : rr = cr := by omega
          obtain rfl : rr = n := by omega
          go_wp2_with fail
          go_loop [19, 174] (fun _ i => i = .int .i64 0) (fun _ _ => 0)
          case atStart => rfl
          case round =>
            obtain rfl := hrel
            go_wp2_with fail
            have hal : Below wo.heap.size wo (wo.alloc (.cells (madeCells #[.int .i64 0] U) 3)) := (Below.refl _ _).alloc (Nat.le_refl _) _
            have HB0 := Lib.hid hal
            have HR0 := Lib.hid (Row.made wo U)
            have HLN0 : Hid ((List.replicate U (0 : Int)).length = U) := by show _ = _; simp
            obtain ⟨gq, hgq⟩ : ∃ gq, wo.heap.size = gq := ⟨_, rfl⟩
            rw [hgq] at HB0 HR0
            rw [hgq]
            clear hal hmk
            generalize wo.alloc (.cells (madeCells #[.int .i64 0] U) 3) = w7 at *
            go_loopw [21, 22, 188] (fun _ _ i wr => ∃ (t : Nat) (out : List Int), t ≤ rr ∧ i = .int .i64 t ∧ Hid (out.length = U) ∧ Hid (Row wr gq out) ∧ Hid (Below gq wo wr) ∧ Hid (∀ k, k < U → out.getD k 0 = outV m U (L.take t) 0 k)) (fun _ _ i _ => rr - (intOf i).toNat)
            case atStart => exact ⟨0, _, Nat.zero_le _, rfl, HLN0, HR0, HB0, HO0⟩
            case round =>
              obtain ⟨t, out, ht, rfl, HLN, HR, HB, HO⟩ := hrel
              clear HLN0 HR0 HB0 HO0
              have HSB := Lib.hid (HS.out.below (by rw [hgq]; exact HB.out))
              by_cases hlt2 : t < rr
              · obtain ⟨gv, cv2, hv2, hv3, hv4⟩ := HSB.out.ld.head (by rw [List.length_map, HL.out]; omega)
                injection hv2 with hv5 hv6 hv7
                subst hv5
                clear hv6 hv7
                have t2 := HSB.out.ld.cell (i := t) (by rw [List.length_map, HL.out]; exact hlt2)
                obtain ⟨c, hc⟩ : ∃ c, L.getD t 0 = c := ⟨_, rfl⟩
                have hcm : (L.map (fun c : Nat => (c : Int))).getD t 0 = (c : Int) := by
                  rw [← hc]
                  have h9 : t < L.length := by rw [HL.out]; exact hlt2
                  simp [List.getD, h9]
                rw [hcm] at t2
                have hcU9 : c < U := by
                  have := HE.out.below t (by rw [HL.out]; exact hlt2)
                  rw [hc] at this; omega
                have i8 : (c : Int) < (U : Int) := by omega
                obtain ⟨t0, f0⟩ := HSB.out.mat.row t (by omega)
                obtain ⟨t1, _⟩ := HSB.out.mat.val t (by omega) U hUwd
                obtain ⟨x, hx⟩ : ∃ x, m t U = x := ⟨_, rfl⟩
                rw [hx] at t1
                have t3 := HR.out.cell (i := c) (by rw [HLN.out]; exact hcU9)
                have f3 := HR.out.frozen c
                have HRN := Lib.hid (HR.out.set (i := c) (by rw [HLN.out]; exact hcU9) x)
                have HLNN : Hid ((out.set c x).length = U) := by show _ = _; rw [List.length_set]; exact HLN.out
                have HBN : Hid (Below gq wo (wr.setCell ⟨gq, c, none⟩ (.int .i64 x))) := HB.out.trans (set1_below _ _ _ (Nat.le_refl _))
                have HON : Hid (∀ k, k < U → (out.set c x).getD k 0 = outV m U (L.take (t + 1)) 0 k) := fun k hk => by
                  rw [outV_step m U L 0 t k (by rw [HL.out]; exact hlt2) (fun j hj => HE.out.apart HP.out (by rw [HL.out]; exact hrn) (by rw [HL.out]; omega) (by rw [HL.out]; exact hlt2) (by omega)), hc, getD_set']
                  by_cases e : k = c
                  · rw [if_pos e, if_pos ⟨e, by rw [HLN.out]; exact hcU9⟩, ← hx, Nat.zero_add]
                  · rw [if_neg e, if_neg (fun h => e h.1), HO.out k hk]
                clear hx hc hcm hv3 hv4 HO HB HLN
                go_wp2_with fail
                go_roundw
                case rel => exact ⟨t + 1, _, by omega, by go_num, HLNN, HRN, HBN, HON⟩
                case measure => simp [intOf]; omega
              · obtain rfl : t = rr := by omega
                have HFF := Lib.hid (HF.out gq wr out HZ.out HLN.out HR.out (HSB.out.be) HO.out)
                go_wp2
                go_ret2
                exact HFF.out
        · have hcz2 : rr < cr := by omega
          have hcz3 : ¬ (cr - rr = 0) := by omega
          go_wp2_with fail
          go_loop [19, 174] (fun _ i => ∃ j : Nat, j ≤ n - rr ∧ i = .int .i64 j ∧ Hid (∀ i, rr ≤ i → i < rr + j → m i U = 0)) (fun _ i => n - (intOf i).toNat)
          case atStart => exact ⟨0, Nat.zero_le _, rfl, HZ0⟩
          case round =>
            obtain ⟨j, hj, rfl, HZj⟩ := hrel
            clear HZ0
            by_cases hlt : j < n - rr
            · obtain ⟨t0, f0⟩ := HS.out.mat.row (rr + j) (by omega)
              obtain ⟨t1, _⟩ := HS.out.mat.val (rr + j) (by omega) U hUwd
              obtain ⟨x, hx⟩ : ∃ x, m (rr + j) U = x := ⟨_, rfl⟩
              rw [hx] at t1
              by_cases hx0 : x = 0
              · have HZN : Hid (∀ i, rr ≤ i → i < rr + (j + 1) → m i U = 0) := fun i h1 h2 => by
                  by_cases e : i = rr + j
                  · subst e; rw [hx]; exact hx0
                  · exact HZj.out i h1 (by omega)
                subst hx0
                clear hx
                go_wp2_with fail
                go_round
                case rel => exact ⟨j + 1, by omega, by go_num, HZN⟩
                case measure => simp [intOf]; omega
              · have hxb : (x != 0) = true := by simpa using hx0
                have HNO : Hid (∀ y, ¬ Sol p U n m0 y) := fun y hy => hx0 (by rw [← hx]; exact HE.out.none HP.out HCE.out ((HQ.out y).1 hy) (rr + j) (by rw [HL.out]; omega) (by omega))
                clear hx
                go_wp2
                go_ret2
                exact ⟨.slice none 0 0, false, rfl, fun _ => HNO.out, by simp, HS.out.be⟩
            · have HZ : Hid (∀ i, rr ≤ i → i < n → m i U = 0) := fun i h1 h2 => HZj.out i h1 (by omega)
              go_wp2_with fail
              have hal : Below wo.heap.size wo (wo.alloc (.cells (madeCells #[.int .i64 0] U) 3)) := (Below.refl _ _).alloc (Nat.le_refl _) _
              have HB0 := Lib.hid hal
              have HR0 := Lib.hid (Row.made wo U)
              have HLN0 : Hid ((List.replicate U (0 : Int)).length = U) := by show _ = _; simp
              obtain ⟨gq, hgq⟩ : ∃ gq, wo.heap.size = gq := ⟨_, rfl⟩
              rw [hgq] at HB0 HR0
              rw [hgq]
              clear hal hmk
              generalize wo.alloc (.cells (madeCells #[.int .i64 0] U) 3) = w7 at *
              go_loopw [21, 22, 188] (fun _ _ i wr => ∃ (t : Nat) (out : List Int), t ≤ rr ∧ i = .int .i64 t ∧ Hid (out.length = U) ∧ Hid (Row wr gq out) ∧ Hid (Below gq wo wr) ∧ Hid (∀ k, k < U → out.getD k 0 = outV m U (L.take t) 0 k)) (fun _ _ i _ => rr - (intOf i).toNat)
              case atStart => exact ⟨0, _, Nat.zero_le _, rfl, HLN0, HR0, HB0, HO0⟩
              case round =>
                obtain ⟨t, out, ht, rfl, HLN, HR, HB, HO⟩ := hrel
                clear HLN0 HR0 HB0 HO0
                have HSB := Lib.hid (HS.out.below (by rw [hgq]; exact HB.out))
                by_cases hlt2 : t < rr
                · obtain ⟨gv, cv2, hv2, hv3, hv4⟩ := HSB.out.ld.head (by rw [List.length_map, HL.out]; omega)
                  injection hv2 with hv5 hv6 hv7
                  subst hv5
                  clear hv6 hv7
                  have t2 := HSB.out.ld.cell (i := t) (by rw [List.length_map, HL.out]; exact hlt2)
                  obtain ⟨c, hc⟩ : ∃ c, L.getD t 0 = c := ⟨_, rfl⟩
                  have hcm : (L.map (fun c : Nat => (c : Int))).getD t 0 = (c : Int) := by
                    rw [← hc]
                    have h9 : t < L.length := by rw [HL.out]; exact hlt2
                    simp [List.getD, h9]
                  rw [hcm] at t2
                  have hcU9 : c < U := by
                    have := HE.out.below t (by rw [HL.out]; exact hlt2)
                    rw [hc] at this; omega
                  have i8 : (c : Int) < (U : Int) := by omega
                  obtain ⟨t0, f0⟩ := HSB.out.mat.row t (by omega)
                  obtain ⟨t1, _⟩ := HSB.out.mat.val t (by omega) U hUwd
                  obtain ⟨x, hx⟩ : ∃ x, m t U = x := ⟨_, rfl⟩
                  rw [hx] at t1
                  have t3 := HR.out.cell (i := c) (by rw [HLN.out]; exact hcU9)
                  have f3 := HR.out.frozen c
                  have HRN := Lib.hid (HR.out.set (i := c) (by rw [HLN.out]; exact hcU9) x)
                  have HLNN : Hid ((out.set c x).length = U) := by show _ = _; rw [List.length_set]; exact HLN.out
                  have HBN : Hid (Below gq wo (wr.setCell ⟨gq, c, none⟩ (.int .i64 x))) := HB.out.trans (set1_below _ _ _ (Nat.le_refl _))
                  have HON : Hid (∀ k, k < U → (out.set c x).getD k 0 = outV m U (L.take (t + 1)) 0 k) := fun k hk => by
                    rw [outV_step m U L 0 t k (by rw [HL.out]; exact hlt2) (fun j hj => HE.out.apart HP.out (by rw [HL.out]; exact hrn) (by rw [HL.out]; omega) (by rw [HL.out]; exact hlt2) (by omega)), hc, getD_set']
                    by_cases e : k = c
                    · rw [if_pos e, if_pos ⟨e, by rw [HLN.out]; exact hcU9⟩, ← hx, Nat.zero_add]
                    · rw [if_neg e, if_neg (fun h => e h.1), HO.out k hk]
                  clear hx hc hcm hv3 hv4 HO HB HLN
                  go_wp2_with fail
                  go_roundw
                  case rel => exact ⟨t + 1, _, by omega, by go_num, HLNN, HRN, HBN, HON⟩
                  case measure => simp [intOf]; omega
                · obtain rfl : t = rr := by omega
                  have HFF := Lib.hid (HF.out gq wr out HZ.out HLN.out HR.out (HSB.out.be) HO.out)
                  go_wp2
                  go_ret2
                  exact HFF.out
      · have i1 : (cc : Int) < (U : Int) := by omega
        have i2 : ¬ ((rr : Int) < (n : Int)) := by omega
        clear h1 h2
        clear hgo
        have HZ0 : Hid (∀ i, rr ≤ i → i < rr + 0 → m i U = 0) := fun i h1 h2 => by omega
        obtain ⟨av, cv, hvv⟩ := HS.out.ld.shape
        rw [List.length_map, HL.out] at hvv
        subst hvv
        have hUwd : U < wd := by have := HWD.out; omega
        have hmk := run_make_row' (P := Tryz.prog) 22 3 (.int .i64 0) 8 Tryz.underlying22 infoInt rfl .i64 .i64 U (by omega) (by omega)
        have HF : Hid (∀ (gq : Nat) (W : World) (out : List Int), (∀ i, rr ≤ i → i < n → m i U = 0) → out.length = U → Row W gq out → Below lo w W → (∀ k, k < U → out.getD k 0 = outV m U (L.take rr) 0 k) → SlvR p U n lo m0 w (Ending.returned (.tuple #[.slice (some ⟨gq, 0, none⟩) U U, .bool true])) W) := fun gq W out hz hl hr hb ho => by
          rw [show L.take rr = L by rw [← HL.out]; exact List.take_length] at ho
          refine ⟨_, true, rfl, by simp, fun _ => ⟨gq, out, rfl, hl, fun x hx => ?_, ?_, ?_⟩, hb⟩
          · obtain ⟨k, hk, rfl⟩ := List.mem_iff_getElem.1 hx
            have := ho k (by omega)
            rw [getD_at hk] at this
            rw [this]
            exact outV_el hp1 HE.out.el L 0 k (by rw [HL.out]; omega)
          · have := hr.reads (cap := U) (by omega)
            rwa [hl] at this
          · exact (HQ.out _).2 (sol_congr (fun k hk => (ho k hk).symm) (HE.out.sol HP.out hcU (by rw [HL.out]; exact hrn) HCE.out (fun i h1 h2 => hz i (by rw [← HL.out]; exact h1) h2)))
        have HO0 : Hid (∀ k, k < U → (List.replicate U (0 : Int)).getD k 0 = outV m U (L.take 0) 0 k) := fun k hk => by
          simp [outV, List.getD, hk]
        by_cases hcz : cr = rr
        · have hnr : n = rr := by omega
          have HZ : Hid (∀ i, rr ≤ i → i < n → m i U = 0) := fun i h1 h2 => by omega
          obtain rfl : rr = cr := by omega
          obtain rfl : rr = n := by omega
          go_wp2_with fail
          go_loop [19, 174] (fun _ i => i = .int .i64 0) (fun _ _ => 0)
          case atStart => rfl
          case round =>
            obtain rfl := hrel
            go_wp2_with fail
            have hal : Below wo.heap.size wo (wo.alloc (.cells (madeCells #[.int .i64 0] U) 3)) := (Below.refl _ _).alloc (Nat.le_refl _) _
            have HB0 := Lib.hid hal
            have HR0 := Lib.hid (Row.made wo U)
            have HLN0 : Hid ((List.replicate U (0 : Int)).length = U) := by show _ = _; simp
            obtain ⟨gq, hgq⟩ : ∃ gq, wo.heap.size = gq := ⟨_, rfl⟩
            rw [hgq] at HB0 HR0
            rw [hgq]
            clear hal hmk
            generalize wo.alloc (.cells (madeCells #[.int .i64 0] U) 3) = w7 at *
            go_loopw [21, 22, 188] (fun _ _ i wr => ∃ (t : Nat) (out : List Int), t ≤ rr ∧ i = .int .i64 t ∧ Hid (out.length = U) ∧ Hid (Row wr gq out) ∧ Hid (Below gq wo wr) ∧ Hid (∀ k, k < U → out.getD k 0 = outV m U (L.take t) 0 k)) (fun _ _ i _ => rr - (intOf i).toNat)
            case atStart => exact ⟨0, _, Nat.zero_le _, rfl, HLN0, HR0, HB0, HO0⟩
            case round =>
              obtain ⟨t, out, ht, rfl, HLN, HR, HB, HO⟩ := hrel
              clear HLN0 HR0 HB0 HO0
              have HSB := Lib.hid (HS.out.below (by rw [hgq]; exact HB.out))
              by_cases hlt2 : t < rr
              · obtain ⟨gv, cv2, hv2, hv3, hv4⟩ := HSB.out.ld.head (by rw [List.length_map, HL.out]; omega)
                injection hv2 with hv5 hv6 hv7
                subst hv5
                clear hv6 hv7
                have t2 := HSB.out.ld.cell (i := t) (by rw [List.length_map, HL.out]; exact hlt2)
                obtain ⟨c, hc⟩ : ∃ c, L.getD t 0 = c := ⟨_, rfl⟩
                have hcm : (L.map (fun c : Nat => (c : Int))).getD t 0 = (c : Int) := by
                  rw [← hc]
                  have h9 : t < L.length := by rw [HL.out]; exact hlt2
                  simp [List.getD, h9]
                rw [hcm] at t2
                have hcU9 : c < U := by
                  have := HE.out.below t (by rw [HL.out]; exact hlt2)
                  rw [hc] at this; omega
                have i8 : (c : Int) < (U : Int) := by omega
                obtain ⟨t0, f0⟩ := HSB.out.mat.row t (by omega)
                obtain ⟨t1, _⟩ := HSB.out.mat.val t (by omega) U hUwd
                obtain ⟨x, hx⟩ : ∃ x, m t U = x := ⟨_, rfl⟩
                rw [hx] at t1
                have t3 := HR.out.cell (i := c) (by rw [HLN.out]; exact hcU9)
                have f3 := HR.out.frozen c
                have HRN := Lib.hid (HR.out.set (i := c) (by rw [HLN.out]; exact hcU9) x)
                have HLNN : Hid ((out.set c x).length = U) := by show _ = _; rw [List.length_set]; exact HLN.out
                have HBN : Hid (Below gq wo (wr.setCell ⟨gq, c, none⟩ (.int .i64 x))) := HB.out.trans (set1_below _ _ _ (Nat.le_refl _))
                have HON : Hid (∀ k, k < U → (out.set c x).getD k 0 = outV m U (L.take (t + 1)) 0 k) := fun k hk => by
                  rw [outV_step m U L 0 t k (by rw [HL.out]; exact hlt2) (fun j hj => HE.out.apart HP.out (by rw [HL.out]; exact hrn) (by rw [HL.out]; omega) (by rw [HL.out]; exact hlt2) (by omega)), hc, getD_set']
                  by_cases e : k = c
                  · rw [if_pos e, if_pos ⟨e, by rw [HLN.out]; exact hcU9⟩, ← hx, Nat.zero_add]
                  · rw [if_neg e, if_neg (fun h => e h.1), HO.out k hk]
                clear hx hc hcm hv3 hv4 HO HB HLN
                go_wp2_with fail
                go_roundw
                case rel => exact ⟨t + 1, _, by omega, by go_num, HLNN, HRN, HBN, HON⟩
                case measure => simp [intOf]; omega
              · obtain rfl : t = rr := by omega
                have HFF := Lib.hid (HF.out gq wr out HZ.out HLN.out HR.out (HSB.out.be) HO.out)
                go_wp2
                go_ret2
                exact HFF.out
        · have hcz2 : rr < cr := by omega
          have hcz3 : ¬ (cr - rr = 0) := by omega
          go_wp2_with fail
          go_loop [19, 174] (fun _ i => ∃ j : Nat, j ≤ n - rr ∧ i = .int .i64 j ∧ Hid (∀ i, rr ≤ i → i < rr + j → m i U = 0)) (fun _ i => n - (intOf i).toNat)
          case atStart => exact ⟨0, Nat.zero_le _, rfl, HZ0⟩
          case round =>
            obtain ⟨j, hj, rfl, HZj⟩ := hrel
            clear HZ0
            by_cases hlt : j < n - rr
            · obtain ⟨t0, f0⟩ := HS.out.mat.row (rr + j) (by omega)
              obtain ⟨t1, _⟩ := HS.out.mat.val (rr + j) (by omega) U hUwd
              obtain ⟨x, hx⟩ : ∃ x, m (rr + j) U = x := ⟨_, rfl⟩
              rw [hx] at t1
              by_cases hx0 : x = 0
              · have HZN : Hid (∀ i, rr ≤ i → i < rr + (j + 1) → m i U = 0) := fun i h1 h2 => by
                  by_cases e : i = rr + j
                  · subst e; rw [hx]; exact hx0
                  · exact HZj.out i h1 (by omega)
                subst hx0
                clear hx
                go_wp2_with fail
                go_round
                case rel => exact ⟨j + 1, by omega, by go_num, HZN⟩
                case measure => simp [intOf]; omega
              · have hxb : (x != 0) = true := by simpa using hx0
                have HNO : Hid (∀ y, ¬ Sol p U n m0 y) := fun y hy => hx0 (by rw [← hx]; exact HE.out.none HP.out HCE.out ((HQ.out y).1 hy) (rr + j) (by rw [HL.out]; omega) (by omega))
                clear hx
                go_wp2
                go_ret2
                exact ⟨.slice none 0 0, false, rfl, fun _ => HNO.out, by simp, HS.out.be⟩
            · have HZ : Hid (∀ i, rr ≤ i → i < n → m i U = 0) := fun i h1 h2 => HZj.out i h1 (by omega)
              go_wp2_with fail
              have hal : Below wo.heap.size wo (wo.alloc (.cells (madeCells #[.int .i64 0] U) 3)) := (Below.refl _ _).alloc (Nat.le_refl _) _
              have HB0 := Lib.hid hal
              have HR0 := Lib.hid (Row.made wo U)
              have HLN0 : Hid ((List.replicate U (0 : Int)).length = U) := by show _ = _; simp
              obtain ⟨gq, hgq⟩ : ∃ gq, wo.heap.size = gq := ⟨_, rfl⟩
              rw [hgq] at HB0 HR0
              rw [hgq]
              clear hal hmk
              generalize wo.alloc (.cells (madeCells #[.int .i64 0] U) 3) = w7 at *
              go_loopw [21, 22, 188] (fun _ _ i wr => ∃ (t : Nat) (out : List Int), t ≤ rr ∧ i = .int .i64 t ∧ Hid (out.length = U) ∧ Hid (Row wr gq out) ∧ Hid (Below gq wo wr) ∧ Hid (∀ k, k < U → out.getD k 0 = outV m U (L.take t) 0 k)) (fun _ _ i _ => rr - (intOf i).toNat)
              case atStart => exact ⟨0, _, Nat.zero_le _, rfl, HLN0, HR0, HB0, HO0⟩
              case round =>
                obtain ⟨t, out, ht, rfl, HLN, HR, HB, HO⟩ := hrel
                clear HLN0 HR0 HB0 HO0
                have HSB := Lib.hid (HS.out.below (by rw [hgq]; exact HB.out))
                by_cases hlt2 : t < rr
                · obtain ⟨gv, cv2, hv2, hv3, hv4⟩ := HSB.out.ld.head (by rw [List.length_map, HL.out]; omega)
                  injection hv2 with hv5 hv6 hv7
                  subst hv5
                  clear hv6 hv7
                  have t2 := HSB.out.ld.cell (i := t) (by rw [List.length_map, HL.out]; exact hlt2)
                  obtain ⟨c, hc⟩ : ∃ c, L.getD t 0 = c := ⟨_, rfl⟩
                  have hcm : (L.map (fun c : Nat => (c : Int))).getD t 0 = (c : Int) := by
                    rw [← hc]
                    have h9 : t < L.length := by rw [HL.out]; exact hlt2
                    simp [List.getD, h9]
                  rw [hcm] at t2
                  have hcU9 : c < U := by
                    have := HE.out.below t (by rw [HL.out]; exact hlt2)
                    rw [hc] at this; omega
                  have i8 : (c : Int) < (U : Int) := by omega
                  obtain ⟨t0, f0⟩ := HSB.out.mat.row t (by omega)
                  obtain ⟨t1, _⟩ := HSB.out.mat.val t (by omega) U hUwd
                  obtain ⟨x, hx⟩ : ∃ x, m t U = x := ⟨_, rfl⟩
                  rw [hx] at t1
                  have t3 := HR.out.cell (i := c) (by rw [HLN.out]; exact hcU9)
                  have f3 := HR.out.frozen c
                  have HRN := Lib.hid (HR.out.set (i := c) (by rw [HLN.out]; exact hcU9) x)
                  have HLNN : Hid ((out.set c x).length = U) := by show _ = _; rw [List.length_set]; exact HLN.out
                  have HBN : Hid (Below gq wo (wr.setCell ⟨gq, c, none⟩ (.int .i64 x))) := HB.out.trans (set1_below _ _ _ (Nat.le_refl _))
                  have HON : Hid (∀ k, k < U → (out.set c x).getD k 0 = outV m U (L.take (t + 1)) 0 k) := fun k hk => by
                    rw [outV_step m U L 0 t k (by rw [HL.out]; exact hlt2) (fun j hj => HE.out.apart HP.out (by rw [HL.out]; exact hrn) (by rw [HL.out]; omega) (by rw [HL.out]; exact hlt2) (by omega)), hc, getD_set']
                    by_cases e : k = c
                    · rw [if_pos e, if_pos ⟨e, by rw [HLN.out]; exact hcU9⟩, ← hx, Nat.zero_add]
                    · rw [if_neg e, if_neg (fun h => e h.1), HO.out k hk]
                  clear hx hc hcm hv3 hv4 HO HB HLN
                  go_wp2_with fail
                  go_roundw
                  case rel => exact ⟨t + 1, _, by omega, by go_num, HLNN, HRN, HBN, HON⟩
                  case measure => simp [intOf]; omega
                · obtain rfl : t = rr := by omega
                  have HFF := Lib.hid (HF.out gq wr out HZ.out HLN.out HR.out (HSB.out.be) HO.out)
                  go_wp2
                  go_ret2
                  exact HFF.out
end Go.Proofs.YtpgbjnenllfmlaaGreatDoor
