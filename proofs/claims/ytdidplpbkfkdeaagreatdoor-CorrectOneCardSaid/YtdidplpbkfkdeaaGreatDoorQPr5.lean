
/- The program's package correct: checkOne, One. -/
import Derived.Test.YtdidplpbkfkdeaaGreatDoorQPr4
namespace Go.Proofs.YtdidplpbkfkdeaaGreatDoor
open Go.RowKit
open Num
set_option linter.unusedVariables false

/-- Whether a number is outside. -/
def outB (p x : Int) : Bool := decide (x < 0) || decide (p ≤ x)
theorem outside_any (p x : Int) (b : Nat) (w : World) (hc : w.cell? ⟨b, 0, none⟩ = some (.int .i64 p)) :
    Calls Tryz.prog 86 #[.int .i64 x, .pointer (some ⟨b, 0, none⟩)] w fun e w' => e = .returned (.bool (outB p x)) ∧ w = w' := by
  by_cases h : x < 0
  · have HE : Hid (outB p x = true) := by show _ = _; unfold outB; simp [h]
    rw [HE.out]
    go_enter Tryz.func86, Tryz.ntmps86
    go_wp2
    go_ret
    exact ⟨rfl, rfl⟩
  · by_cases h2 : p ≤ x
    · have HE : Hid (outB p x = true) := by show _ = _; unfold outB; simp [h2]
      rw [HE.out]
      go_enter Tryz.func86, Tryz.ntmps86
      go_wp2
      go_ret
      exact ⟨by simp, rfl⟩
    · have HE : Hid (outB p x = false) := by show _ = _; unfold outB; simp [h2]; omega
      rw [HE.out]
      go_enter Tryz.func86, Tryz.ntmps86
      go_wp2
      go_ret
      exact ⟨by simp, rfl⟩
set_option maxRecDepth 100000 in
set_option maxHeartbeats 8000000 in
theorem index_out (p : Int) (b : Nat) (ax : Option Addr) (n cx : Nat) (xs : List Int) (w : World) (hc : w.cell? ⟨b, 0, none⟩ = some (.int .i64 p)) (hsx : Ints w (.slice ax n cx) xs) (hnx : xs.length = n) (hn : n ≤ 1000) :
    Calls Tryz.prog 107 #[.slice ax n cx, .func (.func 86) #[] #[.pointer (some ⟨b, 0, none⟩)]] w fun e w' => ∃ r, e = .returned (.int .i64 r) ∧ (decide (0 ≤ r) = xs.any (outB p)) ∧ w = w' := by
  have HSX := Lib.hid hsx
  have HNX := Lib.hid hnx
  have HC := Lib.hid hc
  clear hsx hnx hc
  go_enter Tryz.func107, Tryz.ntmps107
  go_wp2_with fail
  go_loop [5, 8] (fun _ i => ∃ k : Nat, k ≤ n ∧ i = .int .i64 k ∧ Hid (∀ j, j < k → outB p (xs.getD j 0) = false)) (fun _ i => n - (intOf i).toNat)
  case atStart => exact ⟨0, Nat.zero_le _, rfl, fun j hj => by omega⟩
  case round =>
    obtain ⟨k, hk, rfl, HA⟩ := hrel
    by_cases hlt : k < n
    · obtain ⟨bx, ox, rfl, cx0⟩ := HSX.out.pos hlt
      obtain ⟨x, hx⟩ : ∃ x, xs.getD k 0 = x := ⟨_, rfl⟩
      rw [hx] at cx0
      have HX := Lib.hid hx
      have HOU := Lib.hid (outside_any p x b w HC.out)
      clear hx
      cases hob : outB p x with
      | true =>
        rw [hob] at HOU
        have HAN : Hid (xs.any (outB p) = true) := List.any_eq_true.2 ⟨x, by rw [← HX.out, getD_lt (by rw [HNX.out]; exact hlt)]; exact List.getElem_mem _, hob⟩
        clear hob
        go_wp2_with (go_at_call 86; refine HOU.out.mono ?_; rintro e w' ⟨rfl, rfl⟩)
        go_ret
        exact ⟨_, rfl, by rw [HAN.out]; simp, rfl⟩
      | false =>
        rw [hob] at HOU
        have HAN : Hid (∀ j, j < k + 1 → outB p (xs.getD j 0) = false) := fun j hj => by
          by_cases e : j = k
          · subst e; rw [HX.out]; exact hob
          · exact HA.out j (by omega)
        clear hob
        go_wp2_with (go_at_call 86; refine HOU.out.mono ?_; rintro e w' ⟨rfl, rfl⟩)
        go_round
        case rel => exact ⟨k + 1, by omega, by go_num, HAN⟩
        case measure => simp [intOf]; omega
    · obtain rfl : k = n := by omega
      have HAN : Hid (xs.any (outB p) = false) := List.any_eq_false.2 fun x hx => by
        obtain ⟨j, hj, rfl⟩ := List.mem_iff_getElem.1 hx
        have := HA.out j (by rw [← HNX.out]; exact hj)
        rw [getD_lt hj] at this
        rw [this]; simp
      go_wp2
      go_ret
      exact ⟨_, rfl, by rw [HAN.out]; simp, rfl⟩
theorem contains_out (p : Int) (b : Nat) (ax : Option Addr) (n cx : Nat) (xs : List Int) (w : World) (hc : w.cell? ⟨b, 0, none⟩ = some (.int .i64 p)) (hsx : Ints w (.slice ax n cx) xs) (hnx : xs.length = n) (hn : n ≤ 1000) :
    Calls Tryz.prog 85 #[.slice ax n cx, .func (.func 86) #[] #[.pointer (some ⟨b, 0, none⟩)]] w fun e w' => e = .returned (.bool (xs.any (outB p))) ∧ w = w' := by
  have HI := Lib.hid (index_out p b ax n cx xs w hc hsx hnx hn)
  obtain ⟨y, hy⟩ : ∃ y, xs.any (outB p) = y := ⟨_, rfl⟩
  rw [hy] at HI ⊢
  clear hsx hnx hc hy
  go_enter Tryz.func85, Tryz.ntmps85
  go_wp2_with fail
  refine HI.out.mono ?_
  rintro e w' ⟨r, rfl, hr, rfl⟩
  have HR := Lib.hid hr
  clear hr
  go_wp2
  go_ret
  exact ⟨congrArg (fun b => Ending.returned (Value.bool b)) HR.out, rfl⟩
theorem elements_all {p : Int} {xs : List Int} : xs.any (outB p) = false ↔ Els p xs := by
  rw [List.any_eq_false]
  constructor
  · intro h x hx
    have := h x hx
    unfold outB at this
    simp at this
    exact this
  · intro h x hx
    have := h x hx
    unfold outB
    simp
    exact this
theorem correct_elements (p : Int) (ax : Option Addr) (n cx : Nat) (xs : List Int) (w : World) (hsx : Ints w (.slice ax n cx) xs) (hnx : xs.length = n) (hn : n ≤ 1000) :
    Calls Tryz.prog 59 #[.int .i64 p, .slice ax n cx] w fun e w' => e = .returned (.bool (!xs.any (outB p))) ∧ Below w.heap.size w w' := by
  have hal := (Below.refl w.heap.size w).alloc (Nat.le_refl _) (.cells #[.int .i64 p] 3)
  have HI := Lib.hid (contains_out p w.heap.size ax n cx xs _ (cell_alloc_new w (.int .i64 p) 3 _ rfl) (hsx.below (Nat.le_refl _) hal) hnx hn)
  have HB := Lib.hid hal
  obtain ⟨y, hy⟩ : ∃ y, xs.any (outB p) = y := ⟨_, rfl⟩
  rw [hy] at HI ⊢
  clear hsx hnx hy hal
  go_enter Tryz.func59, Tryz.ntmps59
  go_wp2_with fail
  refine HI.out.mono ?_
  rintro e w' ⟨rfl, rfl⟩
  go_wp2
  go_ret
  exact ⟨rfl, HB.out⟩
theorem permitted_any (p : Int) (w : World) (hw : Wheel w) (hp : (Lit.int .i64 p).wf = true) :
    Calls Tryz.prog 58 #[.int .i64 p] w fun e w' => e = .returned (.bool (vB p)) ∧ Below w.heap.size w w' := by
  have HV := Lib.hid (share_valid p 1 1 w hw hp)
  have HE : Hid (planB p 1 1 = vB p) := by
    show _ = _
    unfold planB
    cases h : vB p with
    | false => simp
    | true => have := (vB_out h).1.1; simp; omega
  rw [HE.out] at HV
  unfold planV at HV
  obtain ⟨y, hy⟩ : ∃ y, vB p = y := ⟨_, rfl⟩
  rw [hy] at HV ⊢
  clear hw hp HE hy
  go_enter Tryz.func58, Tryz.ntmps58
  go_wp2_with fail
  refine HV.out.mono ?_
  rintro e w' ⟨rfl, hb⟩
  have HB := Lib.hid hb
  clear hb
  go_wp2
  go_ret
  exact ⟨rfl, HB.out⟩

theorem oneC_bad {p need lies : Int} {xs ys : List Int} (h : ¬ (vB p = true ∧ 1 ≤ need ∧ 0 ≤ lies ∧ xs.length = ys.length ∧ xs.length ≤ 16 ∧ Els p xs ∧ Els p ys ∧ xs.Nodup)) : oneC p need lies xs ys = 1 := by
  unfold oneC; rw [if_neg h]
theorem oneC_few {p need lies : Int} {xs ys : List Int} (h : vB p = true ∧ 1 ≤ need ∧ 0 ≤ lies ∧ xs.length = ys.length ∧ xs.length ≤ 16 ∧ Els p xs ∧ Els p ys ∧ xs.Nodup) (h2 : (xs.length : Int) < need + 2 * lies) : oneC p need lies xs ys = 5 := by
  unfold oneC; rw [if_pos h, if_pos h2]
theorem oneC_ok {p need lies : Int} {xs ys : List Int} (h : vB p = true ∧ 1 ≤ need ∧ 0 ≤ lies ∧ xs.length = ys.length ∧ xs.length ≤ 16 ∧ Els p xs ∧ Els p ys ∧ xs.Nodup) (h2 : ¬ (xs.length : Int) < need + 2 * lies) : oneC p need lies xs ys = 0 := by
  unfold oneC; rw [if_pos h, if_neg h2]
set_option maxRecDepth 100000 in
set_option maxHeartbeats 16000000 in
theorem checkOne_any (p need lies : Int) (ax ay : Option Addr) (n m cx cy : Nat) (xs ys : List Int) (w : World) (hw : Wheel w) (hp : (Lit.int .i64 p).wf = true) (hnd : (Lit.int .i64 need).wf = true) (hls : (Lit.int .i64 lies).wf = true) (hsx : Ints w (.slice ax n cx) xs) (hsy : Ints w (.slice ay m cy) ys) (hnx : xs.length = n) (hny : ys.length = m) :
    Calls Tryz.prog 34 #[.int .i64 p, .int .i64 need, .int .i64 lies, .slice ax n cx, .slice ay m cy] w fun e w' => e = .returned (.int .i64 (oneC p need lies xs ys)) ∧ Below w.heap.size w w' := by
  obtain ⟨g, hg⟩ : ∃ g, w.heap.size = g := ⟨_, rfl⟩
  have hrn := wf_range hnd
  have hrl := wf_range hls
  have HPE := Lib.hid (permitted_any p w hw hp)
  have HSX := Lib.hid (fun W (hW : Below g w W) => hsx.below (Nat.le_of_eq hg) hW)
  have HSY := Lib.hid (fun W (hW : Below g w W) => hsy.below (Nat.le_of_eq hg) hW)
  have HND := Lib.hid hnd
  have HNX := Lib.hid hnx
  have HNY := Lib.hid hny
  have HGG := Lib.hid hg
  have hn47 : n ≤ 140737488355328 := by rw [← hnx]; obtain ⟨_, _, _, h, _⟩ := hsx; exact h
  have hm47 : m ≤ 140737488355328 := by rw [← hny]; obtain ⟨_, _, _, h, _⟩ := hsy; exact h
  obtain ⟨c0, hc0⟩ : ∃ c, oneC p need lies xs ys = c := ⟨_, rfl⟩
  have HC0 := Lib.hid hc0
  rw [hc0]
  clear hc0
  obtain ⟨b1, hb1⟩ : ∃ b, vB p = b := ⟨_, rfl⟩
  have HV := Lib.hid hb1
  rw [hb1, hg] at HPE
  rw [hg]
  clear hsx hsy hnx hny hw hp hnd hls hb1 hg
  go_enter Tryz.func34, Tryz.ntmps34
  go_wp2_with fail
  refine HPE.out.mono ?_
  rintro e w1 ⟨rfl, hb1⟩
  have HB1 := Lib.hid hb1
  have HS1 : Hid (g ≤ w1.heap.size) := by show _ ≤ _; have := hb1.size; have := HGG.out; omega
  clear hb1 HPE
  cases b1 with
  | false =>
    have HE := Lib.hid (oneC_bad (p := p) (need := need) (lies := lies) (xs := xs) (ys := ys) (fun h => by rw [HV.out] at h; cases h.1))
    go_wp2_with fail
    go_ret
    exact ⟨ret_int (HE.out.symm.trans HC0.out), HB1.out⟩
  | true =>
    by_cases h1 : need < 1
    · have HE := Lib.hid (oneC_bad (p := p) (need := need) (lies := lies) (xs := xs) (ys := ys) (fun h => by have := h.2.1; omega))
      go_wp2_with fail
      go_ret
      exact ⟨ret_int (HE.out.symm.trans HC0.out), HB1.out⟩
    by_cases h2 : lies < 0
    · have HE := Lib.hid (oneC_bad (p := p) (need := need) (lies := lies) (xs := xs) (ys := ys) (fun h => by have := h.2.2.1; omega))
      go_wp2_with fail
      go_ret
      exact ⟨ret_int (HE.out.symm.trans HC0.out), HB1.out⟩
    by_cases h3 : n = m
    · subst h3
      have hne : ((n : Int) != (n : Int)) = false := by simp
      by_cases h4 : 16 < n
      · have HE := Lib.hid (oneC_bad (p := p) (need := need) (lies := lies) (xs := xs) (ys := ys) (fun h => by have := h.2.2.2.2.1; rw [HNX.out] at this; omega))
        have h4i : (16 : Int) < (n : Int) := by omega
        go_wp2_with fail
        go_ret
        exact ⟨ret_int (HE.out.symm.trans HC0.out), HB1.out⟩
      · have hpm := vB_out HV.out
        have HPM := Lib.hid hpm
        have h4i : ¬ (16 : Int) < (n : Int) := by omega
        have HEX := Lib.hid (correct_elements p ax n cx xs w1 (HSX.out _ HB1.out) HNX.out (by omega))
        obtain ⟨y1, hy1⟩ : ∃ y, xs.any (outB p) = y := ⟨_, rfl⟩
        rw [hy1] at HEX
        have HY1 := Lib.hid hy1
        clear hpm hy1
        go_wp2_with fail
        refine HEX.out.mono ?_
        rintro e w2 ⟨rfl, hb2⟩
        have HB2 := Lib.hid (HB1.out.trans (hb2.mono HS1.out))
        have HS2 : Hid (g ≤ w2.heap.size) := Nat.le_trans HS1.out hb2.size
        clear hb2 HEX
        cases y1 with
        | true =>
          have HE := Lib.hid (oneC_bad (p := p) (need := need) (lies := lies) (xs := xs) (ys := ys) (fun h => by
            have h5 := elements_all.2 h.2.2.2.2.2.1
            rw [HY1.out] at h5; cases h5))
          go_wp2_with fail
          go_ret
          exact ⟨ret_int (HE.out.symm.trans HC0.out), HB2.out⟩
        | false =>
          have HEY := Lib.hid (correct_elements p ay n cy ys w2 (HSY.out _ HB2.out) HNY.out (by omega))
          obtain ⟨y2, hy2⟩ : ∃ y, ys.any (outB p) = y := ⟨_, rfl⟩
          rw [hy2] at HEY
          have HY2 := Lib.hid hy2
          clear hy2
          go_wp2_with fail
          refine HEY.out.mono ?_
          rintro e w3 ⟨rfl, hb3⟩
          have HB3 := Lib.hid (HB2.out.trans (hb3.mono HS2.out))
          have HS3 : Hid (g ≤ w3.heap.size) := Nat.le_trans HS2.out hb3.size
          clear hb3 HEY
          cases y2 with
          | true =>
            have HE := Lib.hid (oneC_bad (p := p) (need := need) (lies := lies) (xs := xs) (ys := ys) (fun h => by
              have h5 := elements_all.2 h.2.2.2.2.2.2.1
              rw [HY2.out] at h5; cases h5))
            go_wp2_with fail
            go_ret
            exact ⟨ret_int (HE.out.symm.trans HC0.out), HB3.out⟩
          | false =>
            have HDF := Lib.hid (different_any ax n cx xs w3 (HSX.out _ HB3.out) HNX.out (by omega) (els_wf HPM.out.2 (elements_all.1 HY1.out)))
            go_wp2_with fail
            refine HDF.out.mono ?_
            rintro e w4 ⟨b, rfl, hbn, hb4⟩
            have HB4 := Lib.hid (HB3.out.trans (hb4.mono HS3.out))
            have HS4 : Hid (g ≤ w4.heap.size) := Nat.le_trans HS3.out hb4.size
            have HBN := Lib.hid hbn
            clear hb4 HDF hbn
            cases b with
            | false =>
              have HE := Lib.hid (oneC_bad (p := p) (need := need) (lies := lies) (xs := xs) (ys := ys) (fun h => by
                have h5 := HBN.out.2 h.2.2.2.2.2.2.2
                cases h5))
              go_wp2_with fail
              go_ret
              exact ⟨ret_int (HE.out.symm.trans HC0.out), HB4.out⟩
            | true =>
              have HALL : Hid (vB p = true ∧ 1 ≤ need ∧ 0 ≤ lies ∧ xs.length = ys.length ∧ xs.length ≤ 16 ∧ Els p xs ∧ Els p ys ∧ xs.Nodup) := ⟨HV.out, by omega, by omega, by rw [HNX.out, HNY.out], by rw [HNX.out]; omega, elements_all.1 HY1.out, elements_all.1 HY2.out, HBN.out.1 rfl⟩
              have HRO := Lib.hid (room_any 0 need 0 (n : Int) w4 (by omega) HND.out (WalkArith.wf_i64 (by omega)))
              unfold planV at HRO
              obtain ⟨r, hr⟩ : ∃ r, roomV need (n : Int) = r := ⟨_, rfl⟩
              rw [hr] at HRO
              have hrr : r < lies ↔ (n : Int) < need + 2 * lies := by
                rw [← hr]; unfold roomV
                by_cases h : (n : Int) < need
                · rw [if_pos h]; omega
                · rw [if_neg h]; omega
              have HRR := Lib.hid hrr
              clear hrr hr
              go_wp2_with fail
              refine HRO.out.mono ?_
              rintro e w5 ⟨rfl, hb5⟩
              have HB5 := Lib.hid (HB4.out.trans (hb5.mono HS4.out))
              clear hb5 HRO
              by_cases h6 : r < lies
              · have HE := Lib.hid (oneC_few HALL.out (by rw [HNX.out]; exact HRR.out.1 h6))
                go_wp2_with fail
                go_ret
                exact ⟨ret_int (HE.out.symm.trans HC0.out), HB5.out⟩
              · have HE := Lib.hid (oneC_ok HALL.out (by rw [HNX.out]; exact fun h => h6 (HRR.out.2 h)))
                go_wp2_with fail
                go_ret
                exact ⟨ret_int (HE.out.symm.trans HC0.out), HB5.out⟩
    · have HE := Lib.hid (oneC_bad (p := p) (need := need) (lies := lies) (xs := xs) (ys := ys) (fun h => by have := h.2.2.2.1; rw [HNX.out, HNY.out] at this; exact h3 this))
      have hne : ((n : Int) != (m : Int)) = true := by simp only [bne_iff_ne, ne_eq]; omega
      go_wp2_with fail
      go_ret
      exact ⟨ret_int (HE.out.symm.trans HC0.out), HB1.out⟩
theorem oneC_out {p need lies : Int} {xs ys : List Int} (h : oneC p need lies xs ys = 0) : (vB p = true ∧ 1 ≤ need ∧ 0 ≤ lies ∧ xs.length = ys.length ∧ xs.length ≤ 16 ∧ Els p xs ∧ Els p ys ∧ xs.Nodup) ∧ need + 2 * lies ≤ (xs.length : Int) := by
  unfold oneC at h
  by_cases h1 : vB p = true ∧ 1 ≤ need ∧ 0 ≤ lies ∧ xs.length = ys.length ∧ xs.length ≤ 16 ∧ Els p xs ∧ Els p ys ∧ xs.Nodup
  · rw [if_pos h1] at h
    by_cases h2 : (xs.length : Int) < need + 2 * lies
    · rw [if_pos h2] at h; cases h
    · exact ⟨h1, by omega⟩
  · rw [if_neg h1] at h; cases h
/-- What One returns. -/
def OneA (p need lies : Int) (xs ys f : List Int) (c : Int) : Prop := (oneC p need lies xs ys ≠ 0 → f = [] ∧ c = oneC p need lies xs ys) ∧ (oneC p need lies xs ys = 0 → (c = 0 ∨ c = 9) ∧ OneR p need.toNat lies.toNat xs ys f c)
set_option maxRecDepth 100000 in
set_option maxHeartbeats 16000000 in
theorem one_any (p need lies : Int) (sx sy : Value) (xs ys : List Int) (w : World) (hw : Wheel w) (hp : (Lit.int .i64 p).wf = true) (hnd : (Lit.int .i64 need).wf = true) (hls : (Lit.int .i64 lies).wf = true) (hsx : Ints w sx xs) (hsy : Ints w sy ys) :
    Calls Tryz.prog 14 #[.int .i64 p, .int .i64 need, .int .i64 lies, sx, sy] w fun e w' => ∃ v f c, e = .returned (.tuple #[v, .int .i64 c]) ∧ OneA p need lies xs ys f c ∧ Ints w' v f ∧ Below w.heap.size w w' := by
  obtain ⟨ax, cx, rfl⟩ := hsx.shape
  obtain ⟨ay, cy, rfl⟩ := hsy.shape
  have HCK := Lib.hid (checkOne_any p need lies ax ay xs.length ys.length cx cy xs ys w hw hp hnd hls hsx hsy rfl rfl)
  have HSX := Lib.hid (fun W (hW : Below w.heap.size w W) => hsx.below (Nat.le_refl _) hW)
  have HSY := Lib.hid (fun W (hW : Below w.heap.size w W) => hsy.below (Nat.le_refl _) hW)
  obtain ⟨n, hn⟩ : ∃ n, xs.length = n := ⟨_, rfl⟩
  obtain ⟨m, hm⟩ : ∃ n, ys.length = n := ⟨_, rfl⟩
  have HN := Lib.hid hn
  have HM := Lib.hid hm
  rw [hn] at HSX
  rw [hm] at HSY
  rw [hn, hm] at HCK ⊢
  obtain ⟨c, hc⟩ : ∃ c, oneC p need lies xs ys = c := ⟨_, rfl⟩
  have HC := Lib.hid hc
  rw [hc] at HCK
  clear hsx hsy hn hm hw hp hnd hls
  by_cases h0 : c = 0
  · subst h0
    obtain ⟨⟨a1, a2, a3, a4, a5, a6, a7, a8⟩, a9⟩ := oneC_out hc
    obtain ⟨k, rfl⟩ := Int.eq_ofNat_of_zero_le (show 0 ≤ need by omega)
    obtain ⟨t, rfl⟩ := Int.eq_ofNat_of_zero_le a3
    have hmn : m = n := by rw [← HM.out, ← HN.out, a4]
    subst hmn
    have HHV := Lib.hid (fun W (hW : Below w.heap.size w W) => having_any p k t ax ay m cx cy xs ys W (vB_out a1).1 (vB_out a1).2 a6 a7 (HSX.out W hW) (HSY.out W hW) HN.out HM.out (by rw [← HN.out]; omega) (by omega) (by rw [← HN.out]; omega) a8)
    clear hc a1 a2 a3 a4 a5 a6 a7 a8 a9
    go_enter Tryz.func14, Tryz.ntmps14
    go_wp2_with fail
    refine HCK.out.mono ?_
    rintro e w1 ⟨rfl, hb1⟩
    have HB1 := Lib.hid hb1
    have HS1 := Lib.hid hb1.size
    clear hb1 HCK
    go_wp2_with fail
    refine (HHV.out w1 HB1.out).mono ?_
    rintro e w2 ⟨v, f, c2, rfl, hc2, hr, hi, _, hb2⟩
    have HR : Hid (OneA p (k : Int) (t : Int) xs ys f c2) := ⟨fun h => absurd HC.out h, fun _ => ⟨hc2, hr⟩⟩
    have HI := Lib.hid hi
    have HB2 := Lib.hid (HB1.out.trans (hb2.mono HS1.out))
    clear hc2 hr hi hb2 HHV
    go_wp2
    go_ret2
    exact ⟨_, f, c2, rfl, HR.out, HI.out, HB2.out⟩
  · have HR : Hid (OneA p need lies xs ys [] c) := ⟨fun _ => ⟨rfl, HC.out.symm⟩, fun h => absurd (HC.out.symm.trans h) h0⟩
    have hne : (c != 0) = true := by simp [h0]
    clear hc HC
    go_enter Tryz.func14, Tryz.ntmps14
    go_wp2_with fail
    refine HCK.out.mono ?_
    rintro e w1 ⟨rfl, hb1⟩
    have HB1 := Lib.hid hb1
    clear hb1 HCK
    go_wp2_with fail
    go_ret2
    exact ⟨_, [], c, rfl, HR.out, ints_zero _ _ _, HB1.out⟩
end Go.Proofs.YtdidplpbkfkdeaaGreatDoor
