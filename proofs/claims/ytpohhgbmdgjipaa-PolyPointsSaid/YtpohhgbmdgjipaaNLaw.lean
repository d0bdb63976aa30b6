
/- The walk of PolyPoints. -/
import Derived.Test.YtpohhgbmdgjipaaApp
import Derived.Test.YtpohhgbmdgjipaaTLaw
namespace Go.Proofs.Ytpohhgbmdgjipaa
open Go.RowKit Go.Sort
open Num
set_option linter.unusedVariables false

structure PS (s : Value) (l : List Int) (vx vy : Value) (X Y : List Int) (w W : World) : Prop where
  ix : Ints W vx X
  iy : Ints W vy Y
  dice : DiceAt W w.heap.size s l
  bel : Below w.heap.size w W
theorem PS.next {s : Value} {l : List Int} {vx vy : Value} {X Y : List Int} {w W W' : World} (h : PS s l vx vy X Y w W) (k : Below W.heap.size W W') : PS s l vx vy X Y w W' :=
  ⟨h.ix.below (Nat.le_refl _) k, h.iy.below (Nat.le_refl _) k, h.dice.below k h.dice.size, h.bel.trans (k.mono h.bel.size)⟩
theorem PS.but {s : Value} {l : List Int} {vx vy : Value} {X Y : List Int} {w W W' : World} (h : PS s l vx vy X Y w W) (k : But w.heap.size W W') (hd : DiceAt W' w.heap.size s l)
    (hx : ∀ g, vx.ownBlock = some g → g ≠ w.heap.size) (hy : ∀ g, vy.ownBlock = some g → g ≠ w.heap.size) : PS s l vx vy X Y w W' :=
  ⟨h.ix.but k hx, h.iy.but k hy, hd, h.bel.trans (k.below (Nat.le_refl _) h.bel.size)⟩
def PSat {s : Value} {l : List Int} {vx vy : Value} {X Y : List Int} {w W : World} (_ : Hid (PS s l vx vy X Y w W)) (W' : World) : Prop := PS s l vx vy X Y w W'
theorem Gath.kept2 {w w' : World} {base : Nat} {v : Value} {zs : List Int} {row : Option Nat} (h : Gath w base v zs) (hgr : w.grownBy w' row) (hne : ∀ g, v.ownBlock = some g → row ≠ some g) : Gath w' base v zs :=
  World.ownsRow.kept h hgr (by
    cases e : v.ownBlock with
    | none => exact .inl rfl
    | some g => exact .inr (hne g e).symm)
theorem Gath.butD {w w' : World} {base b : Nat} {v : Value} {zs : List Int} (h : Gath w base v zs) (k : But b w w') (hb : b < base) : Gath w' base v zs := h.but k hb
theorem els_snoc2 {p z : Int} {l : List Int} (h : Els p l) (hz : El p z) : Els p (l ++ [z]) := fun x hx => by
  rcases List.mem_append.1 hx with h1 | h1
  · exact h x h1
  · rw [List.mem_singleton.1 h1]; exact hz

set_option maxRecDepth 100000 in
set_option maxHeartbeats 8000000 in
theorem polyPoints_walk (s : Value) (l : List Int) (w : World) (hs : Ints w s l) :
    Calls Try.prog 4 #[s] w fun e w' => e = .returned (.bool true) ∧ Below w.heap.size w w' := by
  by_cases hl : (l.length : Int) ≤ 500
  · have hl' : decide ((l.length : Int) ≤ 500) = true := by simpa using hl
    clear hl
    go_enter Try.func4, Try.ntmps4
    go_wp2_with (first
      | (go_at_call 8; refine (light_any _ _ _ hs).mono ?_; rintro e w' ⟨rfl, rfl⟩)
      | (go_at_call 10; refine (roll_any _ _ (slice_of hs)).mono ?_; rintro e w' ⟨rfl, rfl⟩))
    refine (prime_any _ s l _ (dice_new hs)).mono ?_
    rintro e w1 ⟨p, hprm, hp2, rfl, hd1, hbut⟩
    have hb1 := But.trans (But.alloc w.heap.size w _) hbut
    have hp0 : 2 ≤ p := hprm.1
    have hp1 : 1 ≤ p := by omega
    have hp3 : p ≤ 1073741824 := by omega
    have HPR := Lib.hid hprm
    have hs1 := hd1.size
    clear hbut hs hprm
    go_wp2_with fail
    refine (points_two _ s l p 6 _ hd1 hp0 hp3 (by omega)).mono ?_
    rintro e w2 ⟨vx, vy, xs, ys, rfl, hxl, hnd, hex, hyl, hey, hgx, hgy, hdj, hd2, hb2⟩
    have HB2 := Lib.hid (hb1.trans hb2)
    have hs12 := hb2.size
    obtain ⟨ax, cx, rfl, hcx1, hcx2, -⟩ := hgx.slc (by omega)
    obtain ⟨ay, cy, rfl, hcy1, hcy2, -⟩ := hgy.slc (by omega)
    have HGX2 := Lib.hid hgx
    have HGY2 := Lib.hid hgy
    have HDJ := Lib.hid hdj
    have HEX := Lib.hid hex
    have HEY := Lib.hid hey
    obtain ⟨nx, hnx⟩ : ∃ n, xs.length = n := ⟨_, rfl⟩
    obtain ⟨ny, hny⟩ : ∃ n, ys.length = n := ⟨_, rfl⟩
    obtain rfl : nx = ny := by omega
    have HNX : Hid (nx = xs.length) := hnx.symm
    have HNY : Hid (nx = ys.length) := hny.symm
    rw [hnx] at hxl hcx1 HGX2 HDJ ⊢
    rw [hny] at HGY2 HDJ hcy1 ⊢
    clear hnd hex hyl hey hgx hgy hdj hb1 hb2 hnx hny hd1
    go_wp2_with fail
    refine (next_any _ s l 8 _ hd2 (by omega) (by omega)).mono ?_
    rintro e w3 ⟨r, r0, r1, rfl, hd3, hb3⟩
    have HB3 := Lib.hid (HB2.out.trans hb3)
    have HGX3 := Lib.hid (HGX2.out.but hb3 hs1)
    have HGY3 := Lib.hid (HGY2.out.but hb3 hs1)
    have HD3 := Lib.hid hd3
    have hw3 : w1.heap.size ≤ w3.heap.size := Nat.le_trans hs12 hb3.size
    have HWB := Lib.hid (HB3.out.below (Nat.le_refl _) (Nat.le_refl _))
    have hcy : nx ≤ cy ∧ cy ≤ 9223372036854775807 := ⟨hcy1, hcy2⟩
    clear hb3 hd2 hd3 HGX2 HGY2 HB2
    have hcase : r = 1 ∨ (r = 2 ∧ 0 < nx) ∨ (r = 2 ∧ nx = 0) ∨ (r ≠ 1 ∧ r ≠ 2) := by omega
    rcases hcase with h | ⟨h, h0⟩ | ⟨h, h0⟩ | ⟨h, h0⟩
    case' inl =>
      subst h
      go_wp2_with (at_builtin; refine append_one2 _ rfl _ _ rfl w1.heap.size _ ys 0 rfl (HGY3.out.alloc _) ⟨w3.heap.size, 0, none⟩ rfl ?c1 ?c2 ?c3 ?_)
      case c1 => rw [cell_new]; rfl
      case c2 => rw [← HNY.out]; omega
      case c3 => first | omega | (simp; omega)
      intro v' w8 hg8 hgr hwh
      have hbel : Below w1.heap.size w3 w8 := ((Below.refl _ _).alloc hw3 _).grown hgr (by simp; omega) (fun g hg => HGY3.out.block g hg)
      have hgx8 := (HGX3.out.alloc _).kept2 hgr (fun g hg => HDJ.out g hg)
      obtain ⟨ay8, cy8, rfl, _, _, hIy⟩ := hg8.slc (by simp; rw [← HNY.out]; omega)
      have hby := hg8.block
      have hln : (ys ++ [0]).length = nx + 1 := by simp; exact HNY.out.symm
      have HEY8 := Lib.hid (els_snoc2 HEY.out (el_zero hp1))
      rw [hln] at hIy hby ⊢
      have HNY8 : Hid (nx + 1 = (ys ++ [0]).length) := hln.symm
      have hny8 : nx + 1 ≤ 8 := by omega
      have HPS : Hid (PS s l (.slice ax nx cx) _ xs _ w w8) := ⟨hgx8.reads (by rw [← HNX.out]; omega), hIy, HD3.out.below hbel hs1, HWB.out.trans (hbel.mono (by omega))⟩
      have HOX : Hid (∀ g, (Value.slice ax nx cx).ownBlock = some g → g ≠ w.heap.size) := fun g hg => by have := HGX3.out.block g hg; omega
      have HOY : Hid (∀ g, (Value.slice ay8 (nx + 1) cy8).ownBlock = some g → g ≠ w.heap.size) := fun g hg => by have := hby g hg; omega
      have HNX8 := HNX
      have HEX8 := HEX
      have hcx8 := hcx1
      have hcx82 := hcx2
      have hnx8 : nx ≤ 8 := by omega
      generalize ys ++ [0] = Y at *
      clear hbel hgx8 hg8 hgr hwh hby hln hIy HNX HNY HEX HEY HGX3 HGY3 HDJ HD3 HB3 HWB hcx1 hcx2
    case' inr.inl =>
      subst h
      obtain ⟨bx, ox, rfl, hcx0⟩ := ints_at (HGX3.out.reads (by rw [← HNX.out]; omega)) HNX.out (k := 0) h0
      rw [Nat.add_zero] at hcx0
      have e0 := els_at hp1 HEX.out 0
      obtain ⟨x0, hx0⟩ : ∃ x0, xs.getD 0 0 = x0 := ⟨_, rfl⟩
      rw [hx0] at hcx0 e0
      clear hx0
      go_wp2_with (at_builtin; refine append_one2 _ rfl _ _ rfl w1.heap.size _ xs x0 rfl (HGX3.out.alloc _) ⟨w3.heap.size, 0, none⟩ rfl ?c1 ?c2 ?c3 ?_)
      case c1 => rw [cell_new]; rfl
      case c2 => rw [← HNX.out]; omega
      case c3 => first | omega | (simp; omega)
      intro v' w4 hg4 hgr hwh
      have hbel : Below w1.heap.size w3 w4 := ((Below.refl _ _).alloc hw3 _).grown hgr (by simp; omega) (fun g hg => HGX3.out.block g hg)
      have HGY4 := Lib.hid ((HGY3.out.alloc (.cells #[.int .i64 x0] 3)).kept2 hgr (fun g hg e => HDJ.out g e hg))
      have HG4 := Lib.hid hg4
      have hsz4 := hgr.size
      have HDJ4 : Hid (∀ g, v'.ownBlock = some g → (Value.slice ay nx cy).ownBlock ≠ some g) := fun g hg e => by
        rcases hwh with h | h
        · rw [h] at hg; exact HDJ.out g hg e
        · have h1 := h g hg
          have h2 := (World.ownsRow.lt HGY3.out g e).2
          have h3 : w3.heap.size ≤ (w3.alloc (.cells #[.int .i64 x0] 3)).heap.size := by simp
          first
            | omega
            | (have h4 := Nat.le_trans h3 h1; omega)
      have hs34 : w3.heap.size ≤ w4.heap.size := by
        have h3 : w3.heap.size ≤ (w3.alloc (.cells #[.int .i64 x0] 3)).heap.size := by simp
        exact Nat.le_trans h3 hsz4
      have HBEL := Lib.hid hbel
      obtain ⟨ax8, cx8, rfl, hcx8, hcx82, hIx⟩ := hg4.slc (by simp; rw [← HNX.out]; omega)
      have hln : (xs ++ [x0]).length = nx + 1 := by simp; exact HNX.out.symm
      have HEX8 := Lib.hid (els_snoc2 HEX.out e0)
      rw [hln] at hIx HDJ4 HG4 hcx8 ⊢
      have HNX8 : Hid (nx + 1 = (xs ++ [x0]).length) := hln.symm
      clear hg4 hgr hwh hbel hIx hln hcx0 HGX3 HGY3
      generalize xs ++ [x0] = X at *
      go_wp2_with (at_builtin; refine append_one2 _ rfl _ _ rfl w1.heap.size _ ys 0 rfl (HGY4.out.alloc _) ⟨w4.heap.size, 0, none⟩ rfl ?c1 ?c2 ?c3 ?_)
      case c1 => rw [cell_new]; rfl
      case c2 => rw [← HNY.out]; omega
      case c3 => first | omega | (simp; omega)
      intro v' w8 hg8 hgr hwh
      have hbel : Below w1.heap.size w4 w8 := ((Below.refl _ _).alloc (by omega) _).grown hgr (by simp; omega) (fun g hg => HGY4.out.block g hg)
      have hgx8 := (HG4.out.alloc _).kept2 hgr (fun g hg => HDJ4.out g hg)
      obtain ⟨ay8, cy8, rfl, _, _, hIy⟩ := hg8.slc (by simp; rw [← HNY.out]; omega)
      have hby := hg8.block
      have hln : (ys ++ [0]).length = nx + 1 := by simp; exact HNY.out.symm
      have HEY8 := Lib.hid (els_snoc2 HEY.out (el_zero hp1))
      rw [hln] at hIy hby ⊢
      have HNY8 : Hid (nx + 1 = (ys ++ [0]).length) := hln.symm
      have hny8 : nx + 1 ≤ 8 := by omega
      have hnx8 : nx + 1 ≤ 8 := by omega
      have HPS : Hid (PS s l (.slice ax8 (nx + 1) cx8) _ X _ w w8) := ⟨hgx8.reads (by rw [← HNX8.out]; omega), hIy, (HD3.out.below HBEL.out hs1).below hbel hs1, (HWB.out.trans (HBEL.out.mono (by omega))).trans (hbel.mono (by omega))⟩
      have HOX : Hid (∀ g, (Value.slice ax8 (nx + 1) cx8).ownBlock = some g → g ≠ w.heap.size) := fun g hg => by have := HG4.out.block g hg; omega
      have HOY : Hid (∀ g, (Value.slice ay8 (nx + 1) cy8).ownBlock = some g → g ≠ w.heap.size) := fun g hg => by have := hby g hg; omega
      generalize ys ++ [0] = Y at *
      clear hbel hgx8 hg8 hgr hwh hby hln hIy HNX HNY HEX HEY HGY4 HDJ HDJ4 HD3 HB3 HWB HBEL HG4 hcx1 hcx2
    case' inr.inr.inl =>
      subst h
      have hn0 : ¬ (0 : Int) < (nx : Int) := by omega
      have hn1 : decide ((0 : Int) < (nx : Int)) = false := decide_eq_false hn0
      have hn2 : decide (0 < nx) = false := decide_eq_false (by omega)
      clear hn0 h0
      have HPS : Hid (PS s l (.slice ax nx cx) (.slice ay nx cy) xs ys w w3) := ⟨HGX3.out.reads (by rw [← HNX.out]; omega), HGY3.out.reads (by rw [← HNY.out]; omega), HD3.out, HWB.out⟩
      have HOX : Hid (∀ g, (Value.slice ax nx cx).ownBlock = some g → g ≠ w.heap.size) := fun g hg => by have := HGX3.out.block g hg; omega
      have HOY : Hid (∀ g, (Value.slice ay nx cy).ownBlock = some g → g ≠ w.heap.size) := fun g hg => by have := HGY3.out.block g hg; omega
      have HNX8 := HNX
      have HEX8 := HEX
      have HNY8 := HNY
      have HEY8 := HEY
      have hcx8 := hcx1
      have hcx82 := hcx2
      have hnx8 : nx ≤ 8 := by omega
      have hny8 : nx ≤ 8 := by omega
      clear HNX HNY HEX HEY HGX3 HGY3 HDJ HD3 HB3 HWB hcx1 hcx2
    case' inr.inr.inr =>
      have hr1 : (r == 1) = false := by simpa using h
      have hr2 : (r == 2) = false := by simpa using h0
      have HPS : Hid (PS s l (.slice ax nx cx) (.slice ay nx cy) xs ys w w3) := ⟨HGX3.out.reads (by rw [← HNX.out]; omega), HGY3.out.reads (by rw [← HNY.out]; omega), HD3.out, HWB.out⟩
      have HOX : Hid (∀ g, (Value.slice ax nx cx).ownBlock = some g → g ≠ w.heap.size) := fun g hg => by have := HGX3.out.block g hg; omega
      have HOY : Hid (∀ g, (Value.slice ay nx cy).ownBlock = some g → g ≠ w.heap.size) := fun g hg => by have := HGY3.out.block g hg; omega
      have HNX8 := HNX
      have HEX8 := HEX
      have HNY8 := HNY
      have HEY8 := HEY
      have hcx8 := hcx1
      have hcx82 := hcx2
      have hnx8 : nx ≤ 8 := by omega
      have hny8 : nx ≤ 8 := by omega
      clear HNX HNY HEX HEY HGX3 HGY3 HDJ HD3 HB3 HWB hcx1 hcx2
    all_goals
      go_wp2
      go_loopw [7, 8, 9, 10, 11, 12, 13, 14, 15, 55] (fun _ _ _ _ _ _ _ _ _ i wr => ∃ k : Nat, k ≤ 3 ∧ i = .int .i64 k ∧ Hid (PSat HPS wr)) (fun _ _ _ _ _ _ _ _ _ i _ => 3 - (intOf i).toNat)
      case atStart => exact ⟨0, Nat.zero_le _, rfl, HPS⟩
      case round =>
        obtain ⟨k, hk, rfl, hps⟩ := hrel
        have HP : Hid (PS s l _ _ _ _ w wr) := hps
        clear hps
        by_cases hk3 : k < 3
        · go_wp2_with fail
          refine (next_any _ s l p _ HP.out.dice (by omega) (by omega)).mono ?_
          rintro e w9 ⟨x, hx0, hx1, rfl, hd9, hb9⟩
          have ex : El p x := ⟨hx0, hx1⟩
          have H9 := Lib.hid (HP.out.but hb9 hd9 HOX.out HOY.out)
          clear hb9 hd9 HP hx0 hx1
          go_wp2_with fail
          refine (weights_all _ HPR.out hp3 ex HEX8.out H9.out.ix HNX8 (by omega)).mono ?_
          rintro e w10 ⟨v1, rfl, hv1, hb⟩
          have H10 := Lib.hid (H9.out.next hb)
          have HV1 := Lib.hid hv1
          obtain ⟨a1, c1, rfl, -, -⟩ := id hv1
          clear hb hv1 H9
          go_wp2_with fail
          refine (ref_weights_all _ HPR.out hp3 ex HEX8.out H10.out.ix HNX8 (by omega) hcx8 hcx82).mono ?_
          rintro e w11 ⟨v2, rfl, hv2, hb⟩
          have H11 := Lib.hid (H10.out.next hb)
          have HV11 := Lib.hid (HV1.out.below (Nat.le_refl _) hb)
          have HV2 := Lib.hid hv2
          obtain ⟨a2, c2, rfl, -, -⟩ := id hv2
          clear hb hv2 H10 HV1
          go_wp2_with fail
          refine (interp_all _ HPR.out hp3 ex HEX8.out HEY8.out H11.out.ix H11.out.iy HNX8 HNY8 (by omega) (by omega)).mono ?_
          rintro e w12 ⟨rfl, hb⟩
          have H12 := Lib.hid (H11.out.next hb)
          have HV12 := Lib.hid (HV11.out.below (Nat.le_refl _) hb)
          have HV22 := Lib.hid (HV2.out.below (Nat.le_refl _) hb)
          clear hb H11 HV11 HV2
          go_wp2_with fail
          refine (ref_interp_all _ HPR.out hp3 ex HEX8.out HEY8.out H12.out.ix H12.out.iy HNX8 HNY8 (by omega) (by omega) hcx8 hcx82).mono ?_
          rintro e w13 ⟨rfl, hb⟩
          have H13 := Lib.hid (H12.out.next hb)
          have HV13 := Lib.hid (HV12.out.below (Nat.le_refl _) hb)
          have HV23 := Lib.hid (HV22.out.below (Nat.le_refl _) hb)
          clear hb H12 HV12 HV22
          go_wp2_with fail
          refine (same_yes _ _ _ _ HV13.out HV23.out).mono ?_
          rintro e w' ⟨rfl, rfl⟩
          go_wp2
          go_roundw
          case rel => exact ⟨k + 1, by omega, by go_num, H13⟩
          case measure => simp [intOf]; omega
        · obtain rfl : k = 3 := by omega
          go_wp2_with fail
          refine (through_all _ HPR.out hp3 HEX8.out HEY8.out HP.out.ix HP.out.iy HNX8 HNY8 (by omega) (by omega)).mono ?_
          rintro e w10 ⟨v1, z1, rfl, hv1, ht1, hb⟩
          have H10 := Lib.hid (HP.out.next hb)
          have HV1 := Lib.hid hv1
          have HT1 := Lib.hid ht1
          obtain ⟨a1, c1, rfl, -, -⟩ := id hv1
          clear hb hv1 HP ht1
          go_wp2_with fail
          refine (ref_through_all _ HPR.out hp3 HEX8.out HEY8.out H10.out.ix H10.out.iy HNX8 HNY8 (by omega) (by omega) hcx8 hcx82).mono ?_
          rintro e w11 ⟨v2, z2, rfl, hv2, ht2, hb⟩
          obtain rfl := HT1.out.unique HPR.out HEX8.out ht2
          have H11 := Lib.hid (H10.out.next hb)
          have HV11 := Lib.hid (HV1.out.below (Nat.le_refl _) hb)
          have HV2 := Lib.hid hv2
          obtain ⟨a2, c2, rfl, -, -⟩ := id hv2
          clear hb hv2 H10 HV1 ht2 HT1
          go_wp2_with fail
          refine (same_yes _ _ _ _ HV11.out HV2.out).mono ?_
          rintro e w' ⟨rfl, rfl⟩
          go_wp2_with (go_at_call 9; refine (awake_any _).mono ?_; rintro e w17 ⟨rfl, hbe⟩)
          go_ret
          exact ⟨rfl, H11.out.bel.trans (hbe.mono H11.out.bel.size)⟩
  · have hl' := long_len hl
    clear hl
    go_enter Try.func4, Try.ntmps4
    go_wp2_with (first
      | (go_at_call 8; refine (light_any _ _ _ hs).mono ?_; rintro e w' ⟨rfl, rfl⟩)
      | (go_at_call 9; refine (awake_any _).mono ?_; rintro e w' ⟨rfl, hbe⟩))
    go_ret
    exact ⟨rfl, hbe⟩
end Go.Proofs.Ytpohhgbmdgjipaa
