
/- What the plays of layer 6 begin with: kit's Dealt and Small. -/
import Derived.Test.YtpgbjnenllfmlaaGreatDoorHAny
import Derived.Test.YtpgbjnenllfmlaaGreatDoorHFrm
/-! What the plays of layer 6 begin with: kit's Dealt and Small. -/
namespace Go.Proofs.YtpgbjnenllfmlaaGreatDoor
open Go.RowKit Go.Sort
open Num
set_option linter.unusedVariables false

theorem PlanAt.but {w w' : World} {g b : Nat} {p k n : Int} (h : PlanAt w g p k n) (hb : But b w w') (hg : g ≠ b) : PlanAt w' g p k n := by
  have hl := h.lt
  obtain ⟨t, fr, h⟩ := h
  exact ⟨t, fr, by rw [hb.block g hl hg]; exact h⟩
structure DeS (w0 W : World) (b gp : Nat) (s : Value) (l : List Int) (p k n : Int) : Prop where
  di : DiceAt W b s l
  pl : PlanAt W gp p k n
  be : But b w0 W
  lt : b < gp
  sz : gp < W.heap.size
theorem DeS.below {w0 W W' : World} {b gp : Nat} {s : Value} {l : List Int} {p k n : Int} (h : DeS w0 W b gp s l p k n) (k' : Below W.heap.size W W') : DeS w0 W' b gp s l p k n := by
  have h1 := h.lt
  have h2 := h.sz
  exact ⟨h.di.below k' (by omega), h.pl.below h2 k', h.be.trans (But.of_below k' (Nat.le_refl _)), h.lt, Nat.lt_of_lt_of_le h2 k'.size⟩
theorem DeS.but {w0 W W' : World} {b gp : Nat} {s : Value} {l : List Int} {p k n : Int} (h : DeS w0 W b gp s l p k n) (k' : But b W W') (hd : DiceAt W' b s l) : DeS w0 W' b gp s l p k n := by
  have h1 := h.lt
  exact ⟨hd, h.pl.but k' (by omega), h.be.trans k', h.lt, Nat.lt_of_lt_of_le h.sz k'.size⟩
set_option maxRecDepth 100000 in
set_option maxHeartbeats 8000000 in
theorem dealt_any (b : Nat) (s : Value) (l : List Int) (p : Int) (K N most : Nat) (w : World) (hd : DiceAt w b s l) (hprm : PrmI p) (hp2 : p ≤ 1073741824) (hpl : planB p ((K : Int) + 1) (N : Int) = true) (hKN : K + 1 ≤ N ∧ N ≤ 7) (hm : 1 ≤ most ∧ most ≤ 4) :
    Calls Tryz.prog 10 #[.pointer (some ⟨b, 0, none⟩), planV p ((K : Int) + 1) (N : Int), .int .i64 (most : Int)] w fun e w' => ∃ v1 v2 S R, e = .returned (.tuple #[v1, v2]) ∧ 1 ≤ S.length ∧ S.length ≤ most ∧ SharesN w' w.heap.size v2 (dealF p K N S R) ∧ DiceAt w' b s l ∧ But b w w' := by
  unfold planV
  have hsz := hd.size
  have hp1 : 1 ≤ p := by have := hprm.1; omega
  have HPB := Lib.hid hpl
  have HPR := Lib.hid hprm
  have HKN := Lib.hid hKN
  have HM := Lib.hid hm
  have hST : DeS w (w.alloc (.cells #[.int .i64 p, .int .i64 ((K : Int) + 1), .int .i64 (N : Int)] 31)) b w.heap.size s l p ((K : Int) + 1) (N : Int) := by
    have hal : Below w.heap.size w (w.alloc (.cells #[.int .i64 p, .int .i64 ((K : Int) + 1), .int .i64 (N : Int)] 31)) := (Below.refl _ _).alloc (Nat.le_refl _) _
    exact ⟨hd.below hal hsz, planAt_new _ _ _ _ _, But.of_below hal (Nat.le_refl _), hsz, by simp⟩
  have HST := Lib.hid hST
  have hm1 : (1 : Int) ≤ (most : Int) := by omega
  have hm4 : (most : Int) ≤ 4 := by omega
  clear hST hd hprm hpl hKN
  go_enter Tryz.func10, Tryz.ntmps10
  go_wp2_with fail
  have HG3 : Hid (b < w.heap.size) := HST.out.lt
  obtain ⟨gp, hgp⟩ : ∃ gp, w.heap.size = gp := ⟨_, rfl⟩
  rw [hgp] at HST HG3 ⊢
  have HGP := Lib.hid hgp
  generalize w.alloc (.cells #[.int .i64 p, .int .i64 ((K : Int) + 1), .int .i64 (N : Int)] 31) = w4 at *
  clear hgp
  have HSD : Hid (DeS w w4.drew b gp s l p ((K : Int) + 1) (N : Int)) := HST.out.below ((Below.refl _ _).drew)
  have c0 := HST.out.pl.c0
  clear HST
  go_region_held3 (fun W' => W'.cell? ⟨gp, 0, none⟩ = some (.int .i64 p)) (first | go_keep | exact HSK)
    (first
      | (go_at_call 13; refine (next_any b s l (most : Int) w4.drew HSD.out.di (by omega) (by omega)).mono ?_; rintro e w5 ⟨r, r0, r1, rfl, hd, hb⟩; have HS5 := Lib.hid (HSD.out.but hb hd); have HSK := HS5.out.pl.c0; obtain ⟨c, hc⟩ := Int.eq_ofNat_of_zero_le (show 0 ≤ 1 + r by omega); have hwr : IntKind.i64.wrap (1 + r) = (c : Int) := (by rw [IntKind.wrap_i64]; omega); have HCC := Lib.hid (show 1 ≤ c ∧ c ≤ most by omega); clear hd hb hc r0 r1)
      | (go_at_call 25; refine (dice_elements b s l p c w5 HS5.out.di hp1 hp2 (by have := HCC.out; have := HM.out; omega)).mono ?_; rintro e w6 ⟨v5, S, rfl, hsl, hse, hsg, hd, hb⟩; have HS6 := Lib.hid (HS5.out.but hb hd); have HSK := HS6.out.pl.c0; have HSL := Lib.hid hsl; have HSE := Lib.hid hse; have HSG := Lib.hid (hsg.mono (Nat.le_of_lt HS5.out.sz)); clear hd hb hsl hse hsg))
  obtain ⟨a5, cc5, rfl⟩ := HSG.out.shape
  rw [HSL.out] at HSG ⊢
  obtain ⟨Z, hZ⟩ : ∃ Z, c * K = Z := ⟨_, rfl⟩
  have hZb : Z ≤ 1000000 := by
    have h1 : c * K ≤ 4 * 7 := Nat.mul_le_mul (by have := HCC.out; have := HM.out; omega) (by have := HKN.out; omega)
    omega
  have HRN : Hid (∀ W, Calls Tryz.prog 26 #[.agg #[.int .i64 p, .int .i64 ((K : Int) + 1), .int .i64 (N : Int)], .int .i64 (c : Int)] W fun e w' => e = .returned (.int .i64 (Z : Int)) ∧ Below W.heap.size W w') := fun W => by
    have h := ref6_random p ((K : Int) + 1) (N : Int) c W (by omega) (by have := HKN.out; omega) (by have := HCC.out; have := HM.out; omega)
    rw [show (c : Int) * ((K : Int) + 1 - 1) = (Z : Int) by rw [← hZ, Int.add_sub_cancel]; push_cast; rfl] at h
    exact h
  have HDQ : Hid (∀ (v8 : Value) (R : List Int) (W : World), Ints W (.slice a5 c cc5) S → Slc W v8 R → R.length = Z → Els p R → Calls Tryz.prog 23 #[.agg #[.int .i64 p, .int .i64 ((K : Int) + 1), .int .i64 (N : Int)], .slice a5 c cc5, v8] W fun e w' => ∃ v, e = .returned (.tuple #[v, .int .i64 0]) ∧ GathS w' W.heap.size v (dealF p K N S R) ∧ Below W.heap.size W w') := fun v8 R W h1 h2 h3 h4 =>
    ref6_deal_ok p ((K : Int) + 1) K N a5 c cc5 S R v8 W (wf_small hp1 hp2) (by omega) HPB.out h1 HSL.out h2 (by have := HCC.out; have := HM.out; omega) (elB_of HPR.out hp2 HSE.out) (elB_of HPR.out hp2 h4) (by rw [h3, hZ])
  have HSD6 : Hid (DeS w w6.drew b gp s l p ((K : Int) + 1) (N : Int)) := HS6.out.below ((Below.refl _ _).drew)
  have HSG6 : Hid (Gath w6.drew gp (.slice a5 c cc5) S) := HSG.out
  have c0 := HS6.out.pl.c0
  have c1 := HS6.out.pl.c1
  have c2 := HS6.out.pl.c2
  clear HSK HS5 HS6 HSG HSD hwr hZ
  go_wp2_with fail
  go_region_held3 (fun W' => W'.cell? ⟨gp, 0, none⟩ = some (.int .i64 p) ∧ W'.cell? ⟨gp, 1, none⟩ = some (.int .i64 ((K : Int) + 1)) ∧ W'.cell? ⟨gp, 2, none⟩ = some (.int .i64 (N : Int))) (first | go_keep | exact HSK)
    (first
      | (go_at_call 26; refine (HRN.out w6.drew).mono ?_; rintro e w7 ⟨rfl, hb⟩; have HS7 := Lib.hid (HSD6.out.below hb); have HSK := And.intro HS7.out.pl.c0 (And.intro HS7.out.pl.c1 HS7.out.pl.c2); have HSG7 := Lib.hid (HSG6.out.kept hb (Nat.le_refl _)); clear hb)
      | (go_at_call 25; refine (dice_elements b s l p Z w7 HS7.out.di hp1 hp2 hZb).mono ?_; rintro e w8 ⟨v8, R, rfl, hrl, hre, hrg, hd, hb⟩; have HS8 := Lib.hid (HS7.out.but hb hd); have HSK := And.intro HS8.out.pl.c0 (And.intro HS8.out.pl.c1 HS8.out.pl.c2); have HSG8 := Lib.hid (HSG7.out.but hb HG3.out); have HRL := Lib.hid hrl; have HRE := Lib.hid hre; have HRG := Lib.hid (hrg.slc (by omega)); clear hd hb hrl hre hrg)
      | (go_at_call 23; refine (HDQ.out v8 R w8 (HSG8.out.reads (by rw [HSL.out]; have := HCC.out; have := HM.out; omega)) HRG.out HRL.out HRE.out).mono ?_; rintro e w9 ⟨v9, rfl, hn9, hb⟩; have HS9 := Lib.hid (HS8.out.below hb); have HSK := And.intro HS9.out.pl.c0 (And.intro HS9.out.pl.c1 HS9.out.pl.c2); have HN9 := Lib.hid ((hn9.sharesN (by rw [dealF_len]; have := HKN.out; omega)).mono (Nat.le_of_lt HS8.out.sz)); clear hb hn9))
  clear HSK c0 c1 c2
  obtain ⟨a9, c9, rfl, hc9, hc9b⟩ := HN9.out.shape
  go_wp2
  go_ret2
  exact ⟨_, _, S, R, rfl, by rw [HSL.out]; exact HCC.out.1, by rw [HSL.out]; exact HCC.out.2, by rw [HGP.out]; exact HN9.out, HS9.out.di, HS9.out.be⟩
set_option maxRecDepth 100000 in
set_option maxHeartbeats 8000000 in
theorem small_any (s : Value) (L : List Shr) (w : World) (hs : SharesU w s L) :
    Calls Tryz.prog 5 #[s] w fun e w' => ∃ B, e = .returned (.bool B) ∧ (B = true → L.length ≤ 12 ∧ ∀ x ∈ L, x.2.length ≤ 20) ∧ Below w.heap.size w w' := by
  obtain ⟨a1, d1, rfl, hl, hld1, hd1, _⟩ := id hs
  obtain ⟨N, hN⟩ : ∃ N, L.length = N := ⟨_, rfl⟩
  rw [hN] at hs hl hld1 ⊢
  obtain ⟨g, hg⟩ : ∃ g, w.heap.size = g := ⟨_, rfl⟩
  have HGG := Lib.hid hg
  have HNN := Lib.hid hN
  have HS := Lib.hid hs
  have HW0 : Hid (Below g w w) := Below.refl _ _
  have HA0 : Hid (∀ i, i < 0 → (L.getD i (0, [])).2.length ≤ 20) := fun i hi => by omega
  rw [hg]
  clear hs hN hg
  go_enter Tryz.func5, Tryz.ntmps5
  go_wp2_with fail
  go_loopw [4, 7] (fun _ i wr => ∃ j : Nat, j ≤ N ∧ i = .int .i64 j ∧ Hid (∀ i, i < j → (L.getD i (0, [])).2.length ≤ 20) ∧ Hid (Below g w wr)) (fun _ i _ => N - (intOf i).toNat)
  case atStart => exact ⟨0, Nat.zero_le _, rfl, HA0, HW0⟩
  case round =>
    obtain ⟨j, hj, rfl, HA, HW⟩ := hrel
    by_cases hlt : j < N
    · obtain ⟨wo, hwo⟩ : ∃ wo, wo = wr := ⟨_, rfl⟩
      subst hwo
      have HSR := Lib.hid (HS.out.below (Nat.le_of_eq HGG.out) HW.out)
      obtain ⟨b1, o1, v1, rfl, c0, c1, hi1⟩ := HSR.out.at hlt
      obtain ⟨⟨h, l⟩, hsh⟩ : ∃ z, L.getD j (0, []) = z := ⟨_, rfl⟩
      have HSJ := Lib.hid hsh
      rw [hsh] at c0 hi1
      simp only at c0 hi1
      obtain ⟨va1, vc1, rfl⟩ := hi1.shape
      obtain ⟨ll, hll⟩ : ∃ ll, l.length = ll := ⟨_, rfl⟩
      have hlll : ll ≤ 140737488355328 := by rw [← hll]; obtain ⟨_, _, _, h, _⟩ := hi1; exact h
      have HLL := Lib.hid hll
      rw [hll] at c1
      have HBA : Hid (Below g w (wo.alloc (.cells #[.int .i64 h, .slice va1 ll vc1] 42))) := HW.out.alloc (by rw [← HGG.out]; exact HW.out.size) _
      have HSA := Lib.hid (shAt_new wo h (.slice va1 ll vc1) 42)
      obtain ⟨gs, hgs⟩ : ∃ gs, wo.heap.size = gs := ⟨_, rfl⟩
      rw [hgs] at HSA
      clear hi1 hsh hll HW
      by_cases h20 : ll ≤ 20
      · have HAJ : Hid (∀ i, i < j + 1 → (L.getD i (0, [])).2.length ≤ 20) := fun i hi => by
          by_cases e : i < j
          · exact HA.out i e
          · obtain rfl : i = j := by omega
            rw [HSJ.out]; simp only; rw [HLL.out]; exact h20
        go_wp2_with fail
        clear hgs c0 c1
        generalize wo.alloc (.cells #[.int .i64 h, .slice va1 ll vc1] 42) = w5 at *
        have s0 := HSA.out.c0
        have s1 := HSA.out.c1
        have hcmp : ¬ ((20 : Int) < (ll : Int)) := by omega
        go_wp2
        go_roundw
        case rel => exact ⟨j + 1, by omega, by go_num, HAJ, HBA⟩
        case measure => simp [intOf]; omega
      · go_wp2_with fail
        clear hgs c0 c1
        generalize wo.alloc (.cells #[.int .i64 h, .slice va1 ll vc1] 42) = w5 at *
        have s0 := HSA.out.c0
        have s1 := HSA.out.c1
        have hcmp : (20 : Int) < (ll : Int) := by omega
        go_wp2
        go_ret
        exact ⟨false, rfl, (fun e => by cases e), HBA.out⟩
    · obtain rfl : j = N := by omega
      have HALL : Hid (∀ x ∈ L, x.2.length ≤ 20) := fun x hx => by
        obtain ⟨i, hi, rfl⟩ := List.getElem_of_mem hx
        have h := HA.out i (by rw [← HNN.out]; exact hi)
        rwa [List.getD_eq_getElem?_getD, List.getElem?_eq_getElem hi] at h
      have HB12 : Hid (decide ((j : Int) ≤ 12) = true → L.length ≤ 12) := fun e => by rw [HNN.out]; have := of_decide_eq_true e; omega
      obtain ⟨bb, hbb⟩ : ∃ bb, decide ((j : Int) ≤ 12) = bb := ⟨_, rfl⟩
      rw [hbb] at HB12
      go_wp2
      go_ret
      exact ⟨_, rfl, fun e => ⟨by rw [← HNN.out]; exact HB12.out e, HALL.out⟩, HW.out⟩
end Go.Proofs.YtpgbjnenllfmlaaGreatDoor
/-! kit's Dealt: what it says of the secret, too. -/
namespace Go.Proofs.YtpgbjnenllfmlaaGreatDoor
open Go.RowKit Go.Sort
open Num
set_option linter.unusedVariables false

set_option maxRecDepth 100000 in
set_option maxHeartbeats 8000000 in
theorem dealt_all (b : Nat) (s : Value) (l : List Int) (p : Int) (K N most : Nat) (w : World) (hd : DiceAt w b s l) (hprm : PrmI p) (hp2 : p ≤ 1073741824) (hpl : planB p ((K : Int) + 1) (N : Int) = true) (hKN : K + 1 ≤ N ∧ N ≤ 7) (hm : 1 ≤ most ∧ most ≤ 4) :
    Calls Tryz.prog 10 #[.pointer (some ⟨b, 0, none⟩), planV p ((K : Int) + 1) (N : Int), .int .i64 (most : Int)] w fun e w' => ∃ v1 v2 S R, e = .returned (.tuple #[v1, v2]) ∧ 1 ≤ S.length ∧ S.length ≤ most ∧ Els p S ∧ Gath w' w.heap.size v1 S ∧ SharesN w' w.heap.size v2 (dealF p K N S R) ∧ DiceAt w' b s l ∧ But b w w' := by
  unfold planV
  have hsz := hd.size
  have hp1 : 1 ≤ p := by have := hprm.1; omega
  have HPB := Lib.hid hpl
  have HPR := Lib.hid hprm
  have HKN := Lib.hid hKN
  have HM := Lib.hid hm
  have hST : DeS w (w.alloc (.cells #[.int .i64 p, .int .i64 ((K : Int) + 1), .int .i64 (N : Int)] 31)) b w.heap.size s l p ((K : Int) + 1) (N : Int) := by
    have hal : Below w.heap.size w (w.alloc (.cells #[.int .i64 p, .int .i64 ((K : Int) + 1), .int .i64 (N : Int)] 31)) := (Below.refl _ _).alloc (Nat.le_refl _) _
    exact ⟨hd.below hal hsz, planAt_new _ _ _ _ _, But.of_below hal (Nat.le_refl _), hsz, by simp⟩
  have HST := Lib.hid hST
  have hm1 : (1 : Int) ≤ (most : Int) := by omega
  have hm4 : (most : Int) ≤ 4 := by omega
  clear hST hd hprm hpl hKN
  go_enter Tryz.func10, Tryz.ntmps10
  go_wp2_with fail
  have HG3 : Hid (b < w.heap.size) := HST.out.lt
  obtain ⟨gp, hgp⟩ : ∃ gp, w.heap.size = gp := ⟨_, rfl⟩
  rw [hgp] at HST HG3 ⊢
  have HGP := Lib.hid hgp
  generalize w.alloc (.cells #[.int .i64 p, .int .i64 ((K : Int) + 1), .int .i64 (N : Int)] 31) = w4 at *
  clear hgp
  have HSD : Hid (DeS w w4.drew b gp s l p ((K : Int) + 1) (N : Int)) := HST.out.below ((Below.refl _ _).drew)
  have c0 := HST.out.pl.c0
  clear HST
  go_region_held3 (fun W' => W'.cell? ⟨gp, 0, none⟩ = some (.int .i64 p)) (first | go_keep | exact HSK)
    (first
      | (go_at_call 13; refine (next_any b s l (most : Int) w4.drew HSD.out.di (by omega) (by omega)).mono ?_; rintro e w5 ⟨r, r0, r1, rfl, hd, hb⟩; have HS5 := Lib.hid (HSD.out.but hb hd); have HSK := HS5.out.pl.c0; obtain ⟨c, hc⟩ := Int.eq_ofNat_of_zero_le (show 0 ≤ 1 + r by omega); have hwr : IntKind.i64.wrap (1 + r) = (c : Int) := (by rw [IntKind.wrap_i64]; omega); have HCC := Lib.hid (show 1 ≤ c ∧ c ≤ most by omega); clear hd hb hc r0 r1)
      | (go_at_call 25; refine (dice_elements b s l p c w5 HS5.out.di hp1 hp2 (by have := HCC.out; have := HM.out; omega)).mono ?_; rintro e w6 ⟨v5, S, rfl, hsl, hse, hsg, hd, hb⟩; have HS6 := Lib.hid (HS5.out.but hb hd); have HSK := HS6.out.pl.c0; have HSL := Lib.hid hsl; have HSE := Lib.hid hse; have HSG := Lib.hid (hsg.mono (Nat.le_of_lt HS5.out.sz)); clear hd hb hsl hse hsg))
  obtain ⟨a5, cc5, rfl⟩ := HSG.out.shape
  rw [HSL.out] at HSG ⊢
  obtain ⟨Z, hZ⟩ : ∃ Z, c * K = Z := ⟨_, rfl⟩
  have hZb : Z ≤ 1000000 := by
    have h1 : c * K ≤ 4 * 7 := Nat.mul_le_mul (by have := HCC.out; have := HM.out; omega) (by have := HKN.out; omega)
    omega
  have HRN : Hid (∀ W, Calls Tryz.prog 26 #[.agg #[.int .i64 p, .int .i64 ((K : Int) + 1), .int .i64 (N : Int)], .int .i64 (c : Int)] W fun e w' => e = .returned (.int .i64 (Z : Int)) ∧ Below W.heap.size W w') := fun W => by
    have h := ref6_random p ((K : Int) + 1) (N : Int) c W (by omega) (by have := HKN.out; omega) (by have := HCC.out; have := HM.out; omega)
    rw [show (c : Int) * ((K : Int) + 1 - 1) = (Z : Int) by rw [← hZ, Int.add_sub_cancel]; push_cast; rfl] at h
    exact h
  have HDQ : Hid (∀ (v8 : Value) (R : List Int) (W : World), Ints W (.slice a5 c cc5) S → Slc W v8 R → R.length = Z → Els p R → Calls Tryz.prog 23 #[.agg #[.int .i64 p, .int .i64 ((K : Int) + 1), .int .i64 (N : Int)], .slice a5 c cc5, v8] W fun e w' => ∃ v, e = .returned (.tuple #[v, .int .i64 0]) ∧ GathS w' W.heap.size v (dealF p K N S R) ∧ Below W.heap.size W w') := fun v8 R W h1 h2 h3 h4 =>
    ref6_deal_ok p ((K : Int) + 1) K N a5 c cc5 S R v8 W (wf_small hp1 hp2) (by omega) HPB.out h1 HSL.out h2 (by have := HCC.out; have := HM.out; omega) (elB_of HPR.out hp2 HSE.out) (elB_of HPR.out hp2 h4) (by rw [h3, hZ])
  have HSD6 : Hid (DeS w w6.drew b gp s l p ((K : Int) + 1) (N : Int)) := HS6.out.below ((Below.refl _ _).drew)
  have HSG6 : Hid (Gath w6.drew gp (.slice a5 c cc5) S) := HSG.out
  have c0 := HS6.out.pl.c0
  have c1 := HS6.out.pl.c1
  have c2 := HS6.out.pl.c2
  clear HSK HS5 HS6 HSG HSD hwr hZ
  go_wp2_with fail
  go_region_held3 (fun W' => W'.cell? ⟨gp, 0, none⟩ = some (.int .i64 p) ∧ W'.cell? ⟨gp, 1, none⟩ = some (.int .i64 ((K : Int) + 1)) ∧ W'.cell? ⟨gp, 2, none⟩ = some (.int .i64 (N : Int))) (first | go_keep | exact HSK)
    (first
      | (go_at_call 26; refine (HRN.out w6.drew).mono ?_; rintro e w7 ⟨rfl, hb⟩; have HS7 := Lib.hid (HSD6.out.below hb); have HSK := And.intro HS7.out.pl.c0 (And.intro HS7.out.pl.c1 HS7.out.pl.c2); have HSG7 := Lib.hid (HSG6.out.kept hb (Nat.le_refl _)); clear hb)
      | (go_at_call 25; refine (dice_elements b s l p Z w7 HS7.out.di hp1 hp2 hZb).mono ?_; rintro e w8 ⟨v8, R, rfl, hrl, hre, hrg, hd, hb⟩; have HS8 := Lib.hid (HS7.out.but hb hd); have HSK := And.intro HS8.out.pl.c0 (And.intro HS8.out.pl.c1 HS8.out.pl.c2); have HSG8 := Lib.hid (HSG7.out.but hb HG3.out); have HRL := Lib.hid hrl; have HRE := Lib.hid hre; have HRG := Lib.hid (hrg.slc (by omega)); clear hd hb hrl hre hrg)
      | (go_at_call 23; refine (HDQ.out v8 R w8 (HSG8.out.reads (by rw [HSL.out]; have := HCC.out; have := HM.out; omega)) HRG.out HRL.out HRE.out).mono ?_; rintro e w9 ⟨v9, rfl, hn9, hb⟩; have HS9 := Lib.hid (HS8.out.below hb); have HSK := And.intro HS9.out.pl.c0 (And.intro HS9.out.pl.c1 HS9.out.pl.c2); have HSG9 := Lib.hid (HSG8.out.kept hb (Nat.le_refl _)); have HN9 := Lib.hid ((hn9.sharesN (by rw [dealF_len]; have := HKN.out; omega)).mono (Nat.le_of_lt HS8.out.sz)); clear hb hn9))
  clear HSK c0 c1 c2
  obtain ⟨a9, c9, rfl, hc9, hc9b⟩ := HN9.out.shape
  go_wp2
  go_ret2
  exact ⟨_, _, S, R, rfl, by rw [HSL.out]; exact HCC.out.1, by rw [HSL.out]; exact HCC.out.2, HSE.out, by rw [HGP.out]; exact HSG9.out, by rw [HGP.out]; exact HN9.out, HS9.out.di, HS9.out.be⟩
end Go.Proofs.YtpgbjnenllfmlaaGreatDoor
