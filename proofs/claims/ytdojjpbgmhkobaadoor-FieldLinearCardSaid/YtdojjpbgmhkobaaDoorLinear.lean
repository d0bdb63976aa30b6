/- The walk of FieldLinear. -/
import Derived.Test.YtdojjpbgmhkobaaDoorLin
import Derived.Test.YtdojjpbgmhkobaaDoorLawA
namespace Go.Proofs.YtdojjpbgmhkobaaDoor
open Go.RowKit
open Num
set_option linter.unusedVariables false

theorem linF_length (p : Int) (a b : List Int) (c : Int) : (linF p a b c).length = max a.length b.length := by simp [linF]
theorem linF_at {p : Int} {a b : List Int} {c : Int} {i : Nat} (h : i < max a.length b.length) : (linF p a b c).getD i 0 = linAt p a b c i := by
  simp [linF, List.getD, h]
theorem linF_els {p : Int} (hp : 1 ≤ p) (a b : List Int) (c : Int) : Els p (linF p a b c) := by
  intro x hx
  simp only [linF, List.mem_map] at hx
  obtain ⟨i, _, rfl⟩ := hx
  exact el_add hp _ _
/-- A combination can be taken back. -/
theorem back_at {p k : Int} (hp : 1 ≤ p) {a b : List Int} (ha : Els p a) (i : Nat) (h : i < max a.length b.length) : linAt p (linF p a b k) b (subF p 0 k) i = a.getD i 0 := by
  unfold linAt
  rw [linF_at h]
  unfold linAt
  have hx := els_at hp ha i
  generalize a.getD i 0 = x at *
  generalize b.getD i 0 = y at *
  unfold addF mulF subF
  rw [emod_mul_l, Int.add_emod_emod, Int.emod_add_emod, Int.add_assoc, Int.add_comm (k * y % p), ← Int.add_assoc, Int.add_emod_emod]
  rw [show x + (0 - k) * y + k * y = x by rw [Int.sub_mul]; omega]
  exact el_fix hx
theorem linF_nil {p k : Int} (hp : 1 ≤ p) {a : List Int} (ha : Els p a) : linF p a [] k = a := by
  apply List.ext_getElem
  · simp [linF]
  · intro i h1 h2
    simp only [linF, List.getElem_map, List.getElem_range, linAt]
    have hx : El p a[i] := ha _ (List.getElem_mem h2)
    rw [getD_at h2]
    unfold addF mulF
    simp
    exact el_fix hx

theorem back_row {p k : Int} {a b : List Int} {n : Nat} (hp : 1 ≤ p) (ha : Els p a) (hm : max a.length b.length = n) (j : Nat) (hj : j < n) :
    linRow p (linF p a b k) b (subF p 0 k) n j = .int .i64 (a.getD j 0) := by
  unfold linRow
  rw [if_pos hj, back_at hp ha j (by omega)]
theorem lin_reads {p k : Int} {a b : List Int} {n g : Nat} {w : World} (h : w.rowIs g 3 n (linRow p a b k n)) (hm : max a.length b.length = n) (hn : n ≤ 1000) :
    Ints w (.slice (some ⟨g, 0, none⟩) n n) (linF p a b k) := by
  have h1 := row_gath (f := linAt p a b k) (base := 0) (h.congr fun j hj => by simp [linRow, hj]) (Nat.zero_le _) (by unfold maxLen; omega)
  have h2 := h1.reads (by simp; omega)
  unfold linF
  rw [hm]
  exact h2

set_option maxHeartbeats 4000000 in
theorem fieldLinear_walk (s : Value) (l : List Int) (c : Int) (w : World) (hw : Wheel w) (hs : Ints w s l) (wc : (Lit.int .i64 c).wf = true) :
    Calls Tryd.prog 7 #[s, .int .i64 c] w fun e w' => e = .returned (.bool true) ∧ Below w.heap.size w w' := by
  by_cases hl : (l.length : Int) ≤ 500
  · have hl' : decide ((l.length : Int) ≤ 500) = true := by simpa using hl
    go_enter Tryd.func7, Tryd.ntmps7
    go_wp2_with (first
      | (go_at_call 8; refine (light_any _ _ _ hs).mono ?_; rintro e w' ⟨rfl, rfl⟩)
      | (go_at_call 10; refine (roll_any _ _ (by obtain ⟨x, y, h, _⟩ := hs; exact ⟨x, _, y, h⟩)).mono ?_; rintro e w' ⟨rfl, rfl⟩))
    refine (prime_any _ s l _ (dice_new hs)).mono ?_
    rintro e w1 ⟨p, hprm, hp2, rfl, hd1, hbut⟩
    have hb1 := But.trans (But.alloc w.heap.size w _) hbut
    have hp0 : 2 ≤ p := hprm.1
    have hp1 : 1 ≤ p := by omega
    have hp3 : p ≤ 1073741824 := by omega
    have hw1 := start_wheel hw (hb1.below (Nat.le_refl _) (Nat.le_refl _))
    have hsz1 := hd1.size
    clear hbut hs hprm
    go_wp2_with fail
    refine (next_any _ s l 8 _ hd1 (by omega) (by omega)).mono ?_
    rintro e w2 ⟨n1, n10, n11, rfl, hd2, hx2⟩
    obtain ⟨n1, rfl⟩ := Int.eq_ofNat_of_zero_le n10
    have hb2 := hb1.trans hx2
    have hsz2 := hd2.size
    clear hx2 hb1 hd1
    go_wp2_with fail
    refine (dice_elements _ s l p n1 _ hd2 hp1 hp3 (by omega)).mono ?_
    rintro e w3 ⟨va, za, rfl, hza, hea, hga, hd3, hx3⟩
    have hb3 := hb2.trans hx3
    have hsz3 := hd3.size
    have hia := hga.reads (by omega)
    have hna := hga.block
    clear hx3 hb2 hd2 hga
    go_wp2_with fail
    refine (next_any _ s l 8 _ hd3 (by omega) (by omega)).mono ?_
    rintro e w4 ⟨n2, n20, n21, rfl, hd4, hx4⟩
    obtain ⟨n2, rfl⟩ := Int.eq_ofNat_of_zero_le n20
    have hb4 := hb3.trans hx4
    have hia4 := hia.but hx4 (fun g hg => by have := hna g hg; omega)
    have hsz4 := hd4.size
    clear hx4 hb3 hd3 hia
    go_wp2_with fail
    refine (dice_elements _ s l p n2 _ hd4 hp1 hp3 (by omega)).mono ?_
    rintro e w5 ⟨vb, zb, rfl, hzb, heb, hgb, hd5, hx5⟩
    have hb5 := hb4.trans hx5
    have hib := hgb.reads (by omega)
    have hia5 := hia4.but hx5 (fun g hg => by have := hna g hg; omega)
    have hbel5 := hb5.below (Nat.le_refl _) (Nat.le_refl _)
    have hw5 := start_wheel hw hbel5
    clear hx5 hb4 hd4 hgb hb5 hd5 hia4 hw1 hw
    have HZ := Lib.hid hza
    have HZB := Lib.hid hzb
    clear hza hzb hna
    obtain ⟨aa, ca, hva, _, _⟩ := id hia5
    obtain ⟨ab, cb, hvb, _, _⟩ := id hib
    have la1 : za.length ≤ 7 := by rw [HZ.out]; omega
    have lb1 : zb.length ≤ 7 := by rw [HZB.out]; omega
    obtain ⟨la, hla⟩ : ∃ m, m = za.length := ⟨_, rfl⟩
    obtain ⟨lb, hlb⟩ : ∃ m, m = zb.length := ⟨_, rfl⟩
    rw [← hla] at hva la1
    rw [← hlb] at hvb lb1
    subst hva hvb
    have HLA := Lib.hid hla
    have HLB := Lib.hid hlb
    clear hla hlb HZ HZB
    go_wp2_with fail
    refine (mod_el _ hp1 hp3).mono ?_; rintro e w' ⟨k, hk, rfl, rfl⟩
    have H5 := Lib.hid hbel5
    clear hbel5
    obtain ⟨n, hn⟩ : ∃ n, (la < lb ∧ n = lb) ∨ (lb ≤ la ∧ n = la) := by
      rcases Nat.lt_or_ge la lb with h | h
      · exact ⟨_, .inl ⟨h, rfl⟩⟩
      · exact ⟨_, .inr ⟨h, rfl⟩⟩
    have hmax : Hid (max za.length zb.length = n) := by show max za.length zb.length = n; rw [← HLA.out, ← HLB.out]; omega
    have hmax2 : Hid (max (linF p za zb k).length zb.length = n) := by show max (linF p za zb k).length zb.length = n; rw [linF_length, hmax.out, ← HLB.out]; omega
    have hnb : lb ≤ n := by omega
    have hna : la ≤ n := by omega
    have hn9 : n ≤ 7 := by omega
    go_wp2_with fail
    refine (linear_core p k aa ab la lb ca cb n za zb _ hp1 hp3 hk hea heb hia5 hib hn (by omega)).mono ?_
    rintro e w6 ⟨rfl, hrow6, hbel6⟩
    have hl6 := lin_reads hrow6 hmax.out (by omega)
    have hia6 := hia5.below (Nat.le_refl _) hbel6
    have hib6 := hib.below (Nat.le_refl _) hbel6
    have hw6 := start_wheel hw5 hbel6
    have H6 := Lib.hid (H5.out.trans (hbel6.mono H5.out.size))
    clear hrow6 hbel6 hia5 hib hw5 H5
    rcases hn with ⟨hab, rfl⟩ | ⟨hab, rfl⟩
    · go_wp2_with (go_at_call 18; refine (sub_el _ hp1 hp3 (el_zero hp1) hk).mono ?_; rintro e w' ⟨rfl, rfl⟩)
      refine (linear_core p (subF p 0 k) _ ab n n _ cb n (linF p za zb k) zb _ hp1 hp3 (el_sub hp1 _ _) (linF_els hp1 _ _ _) heb hl6 hib6 (.inr ⟨by omega, rfl⟩) (by omega)).mono ?_
      rintro e w7 ⟨rfl, hrow7, hbel7⟩
      have hrow7' := hrow7.congr fun j hj => back_row hp1 hea hmax.out j hj
      have hia7 := hia6.below (Nat.le_refl _) hbel7
      have hw7 := start_wheel hw6 hbel7
      have H7 := Lib.hid (H6.out.trans (hbel7.mono H6.out.size))
      have HIA := Lib.hid hia7
      have HROW := Lib.hid hrow7'
      clear hrow7 hbel7 hl6 hib6 hia6 hw6 H6 hia7 hrow7' hab
      go_wp2_with fail
      go_loop [12, 13, 57] (fun _ _ i => ∃ j : Nat, j ≤ n ∧ i = .int .i64 j) (fun _ _ i => n - (intOf i).toNat)
      case atStart => exact ⟨0, Nat.zero_le _, rfl⟩
      case round =>
        obtain ⟨j, hj, rfl⟩ := hrel
        by_cases hlt : j < n
        · have hx := HROW.out.cell hlt
          by_cases hi : j < la
          · obtain ⟨a', c', hv, _, hcs⟩ := HIA.out
            obtain ⟨b', off, rfl, hc⟩ := hcs (fun e => by have := HLA.out; rw [e] at this; simp at this; omega)
            simp only [Value.slice.injEq] at hv
            obtain ⟨rfl, _⟩ := hv
            have hy := hc j (by have := HLA.out; omega)
            clear hc hcs
            generalize za.getD j 0 = y at *
            go_wp2
            exact ⟨⟨_, _, _, _, ⟨j + 1, by omega, by go_num⟩, rfl, rfl, rfl, rfl⟩, by simp [intOf]; omega⟩
          · have hz : za.getD j 0 = 0 := by have := HLA.out; simp [List.getD, show za.length ≤ j by omega]
            rw [hz] at hx
            clear hz
            go_wp2
            go_round
            case rel => exact ⟨j + 1, by omega, by go_num⟩
            case measure => simp [intOf]; omega
        · go_wp2_with fail
          refine (linear_core p k aa none la 0 ca 0 la za [] _ hp1 hp3 hk hea (fun x hx => by cases hx) HIA.out (ints_nil _) (.inr ⟨Nat.zero_le _, rfl⟩) (by omega)).mono ?_
          rintro e w8 ⟨rfl, hrow8, hbel8⟩
          have hl8 := lin_reads hrow8 (by have := HLA.out; simp; omega) (by omega)
          rw [linF_nil hp1 hea] at hl8
          have hia8 := HIA.out.below (Nat.le_refl _) hbel8
          have hw8 := start_wheel hw7 hbel8
          have H8 := Lib.hid (H7.out.trans (hbel8.mono H7.out.size))
          clear hrow8 hbel8
          go_wp2_with (first
            | (go_at_call 28; refine (same_yes _ _ za _ hl8 hia8).mono ?_; rintro e w' ⟨rfl, rfl⟩)
            | (go_at_call 9; refine (awake_any _ hw8).mono ?_; rintro e w' ⟨rfl, rfl⟩))
          go_ret
          exact ⟨rfl, H8.out⟩
    · go_wp2_with (go_at_call 18; refine (sub_el _ hp1 hp3 (el_zero hp1) hk).mono ?_; rintro e w' ⟨rfl, rfl⟩)
      refine (linear_core p (subF p 0 k) _ ab n lb _ cb n (linF p za zb k) zb _ hp1 hp3 (el_sub hp1 _ _) (linF_els hp1 _ _ _) heb hl6 hib6 (.inr ⟨by omega, rfl⟩) (by omega)).mono ?_
      rintro e w7 ⟨rfl, hrow7, hbel7⟩
      have hrow7' := hrow7.congr fun j hj => back_row hp1 hea hmax.out j hj
      have hia7 := hia6.below (Nat.le_refl _) hbel7
      have hw7 := start_wheel hw6 hbel7
      have H7 := Lib.hid (H6.out.trans (hbel7.mono H6.out.size))
      have HIA := Lib.hid hia7
      have HROW := Lib.hid hrow7'
      clear hrow7 hbel7 hl6 hib6 hia6 hw6 H6 hia7 hrow7' hab
      go_wp2_with fail
      go_loop [12, 13, 57] (fun _ _ i => ∃ j : Nat, j ≤ n ∧ i = .int .i64 j) (fun _ _ i => n - (intOf i).toNat)
      case atStart => exact ⟨0, Nat.zero_le _, rfl⟩
      case round =>
        obtain ⟨j, hj, rfl⟩ := hrel
        by_cases hlt : j < n
        · have hx := HROW.out.cell hlt
          by_cases hi : j < n
          · obtain ⟨a', c', hv, _, hcs⟩ := HIA.out
            obtain ⟨b', off, rfl, hc⟩ := hcs (fun e => by have := HLA.out; rw [e] at this; simp at this; omega)
            simp only [Value.slice.injEq] at hv
            obtain ⟨rfl, _⟩ := hv
            have hy := hc j (by have := HLA.out; omega)
            clear hc hcs
            generalize za.getD j 0 = y at *
            go_wp2
            exact ⟨⟨_, _, _, _, ⟨j + 1, by omega, by go_num⟩, rfl, rfl, rfl, rfl⟩, by simp [intOf]; omega⟩
          · exact absurd hlt hi
        · go_wp2_with fail
          refine (linear_core p k aa none n 0 ca 0 n za [] _ hp1 hp3 hk hea (fun x hx => by cases hx) HIA.out (ints_nil _) (.inr ⟨Nat.zero_le _, rfl⟩) (by omega)).mono ?_
          rintro e w8 ⟨rfl, hrow8, hbel8⟩
          have hl8 := lin_reads hrow8 (by have := HLA.out; simp; omega) (by omega)
          rw [linF_nil hp1 hea] at hl8
          have hia8 := HIA.out.below (Nat.le_refl _) hbel8
          have hw8 := start_wheel hw7 hbel8
          have H8 := Lib.hid (H7.out.trans (hbel8.mono H7.out.size))
          clear hrow8 hbel8
          go_wp2_with (first
            | (go_at_call 28; refine (same_yes _ _ za _ hl8 hia8).mono ?_; rintro e w' ⟨rfl, rfl⟩)
            | (go_at_call 9; refine (awake_any _ hw8).mono ?_; rintro e w' ⟨rfl, rfl⟩))
          go_ret
          exact ⟨rfl, H8.out⟩
  · have hl' : decide ((l.length : Int) ≤ 500) = false := by simpa using hl
    clear hl
    go_enter Tryd.func7, Tryd.ntmps7
    go_wp2_with (first
      | (go_at_call 8; refine (light_any _ _ _ hs).mono ?_; rintro e w' ⟨rfl, rfl⟩)
      | (go_at_call 9; refine (awake_any _ hw).mono ?_; rintro e w' ⟨rfl, rfl⟩))
    go_ret
    exact ⟨rfl, Below.refl _ _⟩
end Go.Proofs.YtdojjpbgmhkobaaDoor
