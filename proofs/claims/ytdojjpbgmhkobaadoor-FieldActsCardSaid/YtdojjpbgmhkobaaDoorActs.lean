/- The walk of FieldActs. -/
import Derived.Test.YtdojjpbgmhkobaaDoorRefLin
import Derived.Test.YtdojjpbgmhkobaaDoorLawA
namespace Go.Proofs.YtdojjpbgmhkobaaDoor
open Go.RowKit
open Num
set_option linter.unusedVariables false

/-- The six exponents. -/
def q6 (n r1 r2 p : Int) : Nat → Int
  | 0 => n | 1 => r1 | 2 => -r2 | 3 => p - 1 | 4 => -p | _ => -9223372036854775808
theorem q6_wf {n r1 r2 p : Int} (h : (Lit.int .i64 n).wf = true) (h1 : 0 ≤ r1 ∧ r1 < 20) (h2 : 0 ≤ r2 ∧ r2 < 20) (hp : 1 ≤ p ∧ p ≤ 1073741824) (k : Nat) : (Lit.int .i64 (q6 n r1 r2 p k)).wf = true := by
  unfold q6
  split
  · exact h
  · exact wf64 (by omega) (by omega)
  · exact wf64 (by omega) (by omega)
  · exact wf64 (by omega) (by omega)
  · exact wf64 (by omega) (by omega)
  · exact wf64 (by omega) (by omega)
def cells6 (n r1 r2 p : Int) : Array Value := #[.int .i64 n, .int .i64 r1, .int .i64 (-r2), .int .i64 (p - 1), .int .i64 (-p), .int .i64 (-9223372036854775808)]
theorem elB_true {p : Int} {l : List Int} (hp : PrmI p) (hp2 : p ≤ 1073741824) (h : Els p l) : elB p l = true := by
  rw [elB_good fun k hk => by rw [getD_at hk]; exact h _ (List.getElem_mem hk)]
  exact vB_true hp hp2

theorem x_cases {p x : Int} (h : El p x) : (0 < x ∧ (x == 0) = false) ∨ (Hid (x = 0) ∧ (x == 0) = true) := by
  by_cases e : 0 < x
  · exact .inl ⟨e, by simp; omega⟩
  · have := h.1
    exact .inr ⟨show x = 0 by omega, by simp; omega⟩
theorem inverse_zero (p x : Int) (w : World) (hp : 2 ≤ p) (hp2 : p ≤ 1073741824) (h : x = 0) :
    Calls Tryd.prog 13 #[.int .i64 p, .int .i64 x] w fun e w' => e = .returned (.tuple #[.int .i64 0, .int .i64 7]) ∧ w = w' := by
  subst h; exact inverse_none p w hp hp2
theorem ref_inverse_zero (p x : Int) (w : World) (h : x = 0) :
    Calls Tryd.prog 14 #[.int .i64 p, .int .i64 x] w fun e w' => e = .returned (.tuple #[.int .i64 0, .int .i64 7]) ∧ w = w' := by
  subst h; exact ref_inverse_none p w
theorem linF_len (p : Int) (a b : List Int) (c : Int) : (linF p a b c).length = max a.length b.length := by simp [linF]
theorem pz_ne {p x q : Int} (h : x = 0) (hq : q < 0) : (pz p x q != 0) = false := by
  subst h; rw [pz_zero_base (by omega)]; rfl

set_option maxRecDepth 100000 in
set_option maxHeartbeats 4000000 in
theorem fieldActs_walk (s : Value) (l : List Int) (a b n : Int) (sl : Value) (ll : List Int) (sm : Value) (lm : List Int) (w : World) (hw : Wheel w) (hs : Ints w s l)
    (wa : (Lit.int .i64 a).wf = true) (wb : (Lit.int .i64 b).wf = true) (wn : (Lit.int .i64 n).wf = true) (hsl : Ints w sl ll) (hsm : Ints w sm lm) :
    Calls Tryd.prog 3 #[s, .int .i64 a, .int .i64 b, .int .i64 n, sl, sm] w fun e w' => e = .returned (.bool true) ∧ Below w.heap.size w w' := by
  obtain ⟨al, cl, rfl, _, _⟩ := id hsl
  obtain ⟨am, cm, rfl, _, _⟩ := id hsm
  by_cases hl : (l.length : Int) ≤ 500
  · have hl' : decide ((l.length : Int) ≤ 500) = true := by simpa using hl
    clear hl
    by_cases h1 : ll.length ≤ 50
    · by_cases h2 : lm.length ≤ 50
      · go_enter Tryd.func3, Tryd.ntmps3
        go_wp2_with (first
          | (go_at_call 8; refine (light_any _ _ _ hs).mono ?_; rintro e w' ⟨rfl, rfl⟩)
          | (go_at_call 10; refine (roll_any _ _ (by obtain ⟨x, y, h, _⟩ := hs; exact ⟨x, _, y, h⟩)).mono ?_; rintro e w' ⟨rfl, rfl⟩))
        refine (prime_any _ s l _ (dice_new hs)).mono ?_
        rintro e w1 ⟨p, hprm, hp2, rfl, hd1, hbut⟩
        have hb1 := But.trans (But.alloc w.heap.size w _) hbut
        have hp0 : 2 ≤ p := hprm.1
        have hp1 : 1 ≤ p := by omega
        have hp3 : p ≤ 1073741824 := by omega
        have hsz1 := hd1.size
        have HP := Lib.hid hprm
        clear hbut hs hprm hp2
        go_wp2_with fail
        refine (ref_element p a _ hp1 hp3).mono ?_; rintro e w' ⟨rfl, rfl⟩
        obtain ⟨x, hx⟩ : ∃ x, a % p = x := ⟨_, rfl⟩
        have ex := el_mod hp1 a
        have cE := element_any p a w1 hp1 hp3
        rw [hx] at ex cE
        rw [hx]
        have CE := Lib.hid cE
        clear cE hx
        go_wp2_with fail
        refine (ref_element p b _ hp1 hp3).mono ?_; rintro e w' ⟨rfl, rfl⟩
        obtain ⟨y, hy⟩ : ∃ y, b % p = y := ⟨_, rfl⟩
        have ey := el_mod hp1 b
        rw [hy] at ey
        rw [hy]
        clear hy
        have HC := x_cases ex
        rcases HC with ⟨hx0, hx0'⟩ | ⟨HX0, hx0'⟩
        all_goals
          go_wp2_with (first
            | (go_at_call 13; first | (refine (inverse_some _ _ _ hp0 hp3 hx0 ex.2).mono ?_; rintro e w' ⟨rfl, rfl⟩) | (refine (inverse_zero _ _ _ hp0 hp3 HX0.out).mono ?_; rintro e w' ⟨rfl, rfl⟩))
            | (go_at_call 14; first | (refine (ref_inverse_some _ _ _ HP.out hp3 hx0 ex.2).mono ?_; rintro e w' ⟨rfl, rfl⟩) | (refine (ref_inverse_zero _ _ _ HX0.out).mono ?_; rintro e w' ⟨rfl, rfl⟩))
            | (go_at_call 15; refine CE.out.mono ?_; rintro e w' ⟨rfl, rfl⟩)
            | (go_at_call 16; refine (add_el _ hp1 hp3 ex ey).mono ?_; rintro e w' ⟨rfl, rfl⟩)
            | (go_at_call 17; refine (ref_add_el _ hp1 hp3 ex ey).mono ?_; rintro e w' ⟨rfl, rfl⟩)
            | (go_at_call 18; refine (sub_el _ hp1 hp3 ex ey).mono ?_; rintro e w' ⟨rfl, rfl⟩)
            | (go_at_call 19; refine (ref_sub_el _ hp1 hp3 ex ey).mono ?_; rintro e w' ⟨rfl, rfl⟩)
            | (go_at_call 20; refine (mul_el _ hp1 hp3 ex ey).mono ?_; rintro e w' ⟨rfl, rfl⟩)
            | (go_at_call 21; refine (ref_mul_el _ hp1 hp3 ex ey).mono ?_; rintro e w' ⟨rfl, rfl⟩))
          clear CE
          refine (next_any _ s l 20 _ hd1 (by omega) (by omega)).mono ?_
          rintro e w2 ⟨r1, r10, r11, rfl, hd2, hx2⟩
          have hb2 := hb1.trans hx2
          clear hx2 hb1 hd1 hsz1
          go_wp2_with fail
          refine (next_any _ s l 20 _ hd2 (by omega) (by omega)).mono ?_
          rintro e w3 ⟨r2, r20, r21, rfl, hd3, hx3⟩
          have hb3 := hb2.trans hx3
          clear hx3 hb2 hd2
          go_wp2_with fail
          have hc : ∀ k, k < 6 → (w3.alloc (.cells #[.int .i64 n, .int .i64 r1, .int .i64 (-r2), .int .i64 (p - 1), .int .i64 (-p), .int .i64 (-9223372036854775808)] 3)).cell? ⟨w3.heap.size, k, none⟩ = some (.int .i64 (q6 n r1 r2 p k)) := fun k hk => by
            rw [cell_new]
            have : k = 0 ∨ k = 1 ∨ k = 2 ∨ k = 3 ∨ k = 4 ∨ k = 5 := by omega
            rcases this with rfl | rfl | rfl | rfl | rfl | rfl <;> rfl
          have hd4 := hd3.below ((Below.refl w3.heap.size w3).alloc (Nat.le_refl _) (.cells #[.int .i64 n, .int .i64 r1, .int .i64 (-r2), .int .i64 (p - 1), .int .i64 (-p), .int .i64 (-9223372036854775808)] 3)) hd3.size
          have hb4 := hb3.trans (But.alloc _ w3 (.cells #[.int .i64 n, .int .i64 r1, .int .i64 (-r2), .int .i64 (p - 1), .int .i64 (-p), .int .i64 (-9223372036854775808)] 3))
          have wq := q6_wf wn ⟨r10, r11⟩ ⟨r20, r21⟩ ⟨hp1, hp3⟩
          generalize w3.alloc (.cells #[.int .i64 n, .int .i64 r1, .int .i64 (-r2), .int .i64 (p - 1), .int .i64 (-p), .int .i64 (-9223372036854775808)] 3) = w4 at *
          generalize w3.heap.size = g3 at *
          have HD := Lib.hid hd4
          have HB := Lib.hid hb4
          have HC := Lib.hid hc
          have WQ := Lib.hid wq
          clear hd3 hb3 hd4 hb4 hc wq r10 r11 r20 r21
          go_loop [22, 121] (fun _ i => ∃ k : Nat, k ≤ 6 ∧ i = .int .i64 k) (fun _ i => 6 - (intOf i).toNat)
          case atStart => exact ⟨0, by omega, rfl⟩
          case round =>
            obtain ⟨k, hk, rfl⟩ := hrel
            by_cases hlt : k < 6
            · have hx := HC.out k hlt
              have wqk := WQ.out k
              generalize q6 n r1 r2 p k = q at *
              by_cases hq : q < 0
              · try have hz : (pz p x q != 0) = false := pz_ne HX0.out hq
                have hq0 : (q != 0) = true := by simp; omega
                go_wp2_with (first
                  | (go_at_call 23; refine (pow_el _ hp0 hp3 ex wqk).mono ?_; rintro e w' ⟨rfl, rfl⟩)
                  | (go_at_call 24; refine (ref_pow_el _ HP.out hp3 ex).mono ?_; rintro e w' ⟨rfl, rfl⟩))
                go_round
                case rel => exact ⟨k + 1, by omega, by go_num⟩
                case measure => simp [intOf]; omega
              · go_wp2_with (first
                  | (go_at_call 23; refine (pow_el _ hp0 hp3 ex wqk).mono ?_; rintro e w' ⟨rfl, rfl⟩)
                  | (go_at_call 24; refine (ref_pow_el _ HP.out hp3 ex).mono ?_; rintro e w' ⟨rfl, rfl⟩))
                go_round
                case rel => exact ⟨k + 1, by omega, by go_num⟩
                case measure => simp [intOf]; omega
            · go_wp2_with fail
              refine (next_any _ s l 6 _ HD.out (by omega) (by omega)).mono ?_
              rintro e w5 ⟨n1, n10, n11, rfl, hd5, hx5⟩
              obtain ⟨n1, rfl⟩ := Int.eq_ofNat_of_zero_le n10
              have hb5 := HB.out.trans hx5
              clear hx5
              go_wp2_with fail
              refine (dice_elements _ s l p n1 _ hd5 hp1 hp3 (by omega)).mono ?_
              rintro e w6 ⟨vg, zg, rfl, hzg, heg, hgg, hd6, hx6⟩
              have hb6 := hb5.trans hx6
              have hsz5 := hd5.size
              have hig := hgg.reads (by omega)
              have hng := hgg.block
              clear hx6 hb5 hd5 hgg
              go_wp2_with fail
              refine (next_any _ s l 6 _ hd6 (by omega) (by omega)).mono ?_
              rintro e w7 ⟨n2, n20, n21, rfl, hd7, hx7⟩
              obtain ⟨n2, rfl⟩ := Int.eq_ofNat_of_zero_le n20
              have hb7 := hb6.trans hx7
              have hig7 := hig.but hx7 (fun g hg => by have := hng g hg; omega)
              clear hx7 hb6 hd6 hig
              go_wp2_with fail
              refine (dice_elements _ s l p n2 _ hd7 hp1 hp3 (by omega)).mono ?_
              rintro e w8 ⟨vh, zh, rfl, hzh, heh, hgh, hd8, hx8⟩
              have hb8 := hb7.trans hx8
              have hig8 := hig7.but hx8 (fun g hg => by have := hng g hg; omega)
              have hih8 := hgh.reads (by omega)
              have hbel8 := hb8.below (Nat.le_refl _) (Nat.le_refl _)
              have hw8 := start_wheel hw hbel8
              have hsl8 := hsl.below (Nat.le_refl _) hbel8
              have H8 := Lib.hid hbel8
              have wp := wf64 (n := p) (by omega) (by omega)
              have hT := elB_true HP.out hp3 heg
              have lg : zg.length ≤ 1000 := by omega
              have lh : zh.length ≤ 1000 := by omega
              clear hx8 hb7 hd7 hd8 hgh hb8 hbel8 hig7 hng hzg hzh HC WQ HD HB
              go_wp2_with (first
                | (go_at_call 26; refine (elements_any _ _ _ _ hw8 wp (by assumption)).mono ?_; rintro e w' ⟨rfl, rfl⟩)
                | (go_at_call 27; refine (ref_elements _ _ _ _ wp (by assumption)).mono ?_; rintro e w' ⟨rfl, rfl⟩))
              refine (linear_any p y _ _ zg zh _ hp1 hp3 ey heg heh hig8 hih8 (by omega) (by omega)).mono ?_
              rintro e w9 ⟨v1, rfl, hg9, hbel9⟩
              have hv1 := hg9.reads (by rw [linF_len]; omega)
              have hig9 := hig8.below (Nat.le_refl _) hbel9
              have hih9 := hih8.below (Nat.le_refl _) hbel9
              have hw9 := start_wheel hw8 hbel9
              have H9 := Lib.hid (H8.out.trans (hbel9.mono H8.out.size))
              clear hg9 hbel9 hig8 hih8 hsl8 hw8 H8
              go_wp2_with fail
              refine (ref_linear_any p y _ _ zg zh _ hp1 hp3 ey heg heh hig9 hih9 (by omega) (by omega)).mono ?_
              rintro e w10 ⟨v2, rfl, hg10, hbel10⟩
              have hv2 := hg10.reads (by rw [linF_len]; omega)
              have hv1' := hv1.below (Nat.le_refl _) hbel10
              have hw10 := start_wheel hw9 hbel10
              have H10 := Lib.hid (H9.out.trans (hbel10.mono H9.out.size))
              clear hg10 hbel10 hig9 hih9 hv1 hw9 H9
              go_wp2_with (first
                | (go_at_call 28; refine (same_yes _ _ _ _ hv1' hv2).mono ?_; rintro e w' ⟨rfl, rfl⟩)
                | (go_at_call 9; refine (awake_any _ hw10).mono ?_; rintro e w' ⟨rfl, rfl⟩))
              go_ret
              exact ⟨rfl, H10.out⟩
      · clear hsl hsm
        go_enter Tryd.func3, Tryd.ntmps3
        go_wp2_with (first
          | (go_at_call 8; refine (light_any _ _ _ hs).mono ?_; rintro e w' ⟨rfl, rfl⟩)
          | (go_at_call 9; refine (awake_any _ hw).mono ?_; rintro e w' ⟨rfl, rfl⟩))
        go_ret
        exact ⟨rfl, Below.refl _ _⟩
    · clear hsl hsm
      go_enter Tryd.func3, Tryd.ntmps3
      go_wp2_with (first
        | (go_at_call 8; refine (light_any _ _ _ hs).mono ?_; rintro e w' ⟨rfl, rfl⟩)
        | (go_at_call 9; refine (awake_any _ hw).mono ?_; rintro e w' ⟨rfl, rfl⟩))
      go_ret
      exact ⟨rfl, Below.refl _ _⟩
  · have hl' : decide ((l.length : Int) ≤ 500) = false := by simpa using hl
    clear hl hsl hsm
    go_enter Tryd.func3, Tryd.ntmps3
    go_wp2_with (first
      | (go_at_call 8; refine (light_any _ _ _ hs).mono ?_; rintro e w' ⟨rfl, rfl⟩)
      | (go_at_call 9; refine (awake_any _ hw).mono ?_; rintro e w' ⟨rfl, rfl⟩))
    go_ret
    exact ⟨rfl, Below.refl _ _⟩
end Go.Proofs.YtdojjpbgmhkobaaDoor
