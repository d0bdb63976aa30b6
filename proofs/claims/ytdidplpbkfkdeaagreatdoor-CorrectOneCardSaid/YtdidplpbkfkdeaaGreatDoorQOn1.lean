
/- The document's One: repeated places, points that a polynomial has. -/
import Derived.Test.YtdidplpbkfkdeaaGreatDoorQPr5
import Derived.Test.YtdidplpbkfkdeaaGreatDoorRfI
import Derived.Deep.RegionLaw
import Derived.Deep.RegionHeld3
namespace Go.Proofs.YtdidplpbkfkdeaaGreatDoor
open Go.RowKit Go.Sort
open Num
set_option linter.unusedVariables false

theorem dupB_take {xs : List Int} {k i : Nat} (hk : k < xs.length) (hi : i < k) (h : xs.getD i 0 = xs.getD k 0) : dupB xs = true :=
  dupB_true hk (by
    rw [List.contains_iff_mem, ← h, getD_lt (by omega)]
    exact List.mem_take_iff_getElem.2 ⟨i, by omega, rfl⟩)
theorem dupB_none {xs : List Int} (h : ∀ k, k < xs.length → ∀ i, i < k → xs.getD i 0 ≠ xs.getD k 0) : dupB xs = false := dupB_false fun k hk => by
  cases hc : (xs.take k).contains (xs.getD k 0) with
  | false => rfl
  | true =>
    exfalso
    rw [List.contains_iff_mem, getD_lt hk] at hc
    obtain ⟨i, hi, e⟩ := List.mem_take_iff_getElem.1 hc
    exact h k hk i (by omega) (by rw [getD_lt (by omega), getD_lt hk]; exact e)
set_option maxRecDepth 100000 in
set_option maxHeartbeats 4000000 in
theorem twice_any (ax : Option Addr) (n cx : Nat) (xs : List Int) (w : World) (hsx : Ints w (.slice ax n cx) xs) (hnx : xs.length = n) (hn : n ≤ 1000) (hc : n ≤ cx) (hc2 : cx ≤ 9223372036854775807) :
    Calls Tryz.prog 37 #[.slice ax n cx] w fun e w' => e = .returned (.bool (dupB xs)) ∧ w = w' := by
  have HSX := Lib.hid hsx
  have HNX := Lib.hid hnx
  have HD := Lib.hid (fun (h : ∀ k, k < xs.length → ∀ i, i < k → xs.getD i 0 ≠ xs.getD k 0) => dupB_none h)
  have HE := Lib.hid (fun (k i : Nat) (hk : k < xs.length) (hi : i < k) (h : xs.getD i 0 = xs.getD k 0) => dupB_take hk hi h)
  obtain ⟨B, hB⟩ : ∃ B, dupB xs = B := ⟨_, rfl⟩
  rw [hB] at HD HE ⊢
  have H0 : Hid (∀ k, k < 0 → ∀ i, i < k → xs.getD i 0 ≠ xs.getD k 0) := fun k h => by omega
  clear hsx hnx hB
  go_enter Tryz.func37, Tryz.ntmps37
  go_wp2_with fail
  go_loop [3, 4, 6, 9, 18] (fun _ _ _ i _ => ∃ k : Nat, k ≤ n ∧ i = .int .i64 k ∧ Hid (∀ k', k' < k → ∀ i, i < k' → xs.getD i 0 ≠ xs.getD k' 0)) (fun _ _ _ i _ => n - (intOf i).toNat)
  case atStart => exact ⟨0, Nat.zero_le _, rfl, H0⟩
  case round =>
    obtain ⟨k, hk, rfl, HK⟩ := hrel
    clear H0
    by_cases hlt : k < n
    · have i1 : (k : Int) < (n : Int) := by omega
      have hkc : k ≤ cx := by omega
      obtain ⟨bx, ox, rfl, cx0⟩ := HSX.out.pos hlt
      obtain ⟨x, hxv⟩ : ∃ x, xs.getD k 0 = x := ⟨_, rfl⟩
      rw [hxv] at cx0
      have HX := Lib.hid hxv
      have HJ0 : Hid (∀ i, i < 0 → xs.getD i 0 ≠ x) := fun i h => by omega
      clear hxv
      go_wp2_with fail
      go_loop [6, 18] (fun _ j => ∃ t : Nat, t ≤ k ∧ j = .int .i64 t ∧ Hid (∀ i, i < t → xs.getD i 0 ≠ x)) (fun _ j => k - (intOf j).toNat)
      case atStart => exact ⟨0, Nat.zero_le _, rfl, HJ0⟩
      case round =>
        obtain ⟨t, ht, rfl, HT⟩ := hrel
        clear HJ0
        by_cases hlt2 : t < k
        · have i2 : (t : Int) < (k : Int) := by omega
          obtain ⟨b2, o2, hb2, cx1⟩ := HSX.out.pos (k := t) (show t < n by omega)
          injection hb2 with hb2
          injection hb2 with e1 e2
          subst e1 e2
          obtain ⟨y, hyv⟩ : ∃ y, xs.getD t 0 = y := ⟨_, rfl⟩
          rw [hyv] at cx1
          by_cases hxy : x = y
          · have HB : Hid (B = true) := HE.out k t (by rw [HNX.out]; exact hlt) hlt2 (by rw [hyv, HX.out]; exact hxy.symm)
            have e3 : (x == y) = true := by simp [hxy]
            clear hxy hyv
            go_wp2_with fail
            go_ret
            exact ⟨by rw [HB.out]; rfl, rfl⟩
          · have e3 : (x == y) = false := by simp [hxy]
            have HTN : Hid (∀ i, i < t + 1 → xs.getD i 0 ≠ x) := fun i hi => by
              by_cases e : i = t
              · subst e; rw [hyv]; exact fun h => hxy h.symm
              · exact HT.out i (by omega)
            clear hxy hyv
            go_wp2_with fail
            go_round
            case rel => exact ⟨t + 1, by omega, by go_num, HTN⟩
            case measure => simp [intOf]; omega
        · obtain rfl : t = k := by omega
          have HKN : Hid (∀ k', k' < t + 1 → ∀ i, i < k' → xs.getD i 0 ≠ xs.getD k' 0) := fun k' hk' i hi => by
            by_cases e : k' = t
            · subst e; rw [HX.out]; exact HT.out i hi
            · exact HK.out k' (by omega) i hi
          go_wp2_with fail
          go_round
          case rel => exact ⟨t + 1, by omega, by go_num, HKN⟩
          case measure => simp [intOf]; omega
    · obtain rfl : k = n := by omega
      have HB : Hid (B = false) := HD.out fun k' h => HK.out k' (by rw [← HNX.out]; exact h)
      go_wp2_with fail
      go_ret
      exact ⟨by rw [HB.out]; rfl, rfl⟩
set_option maxRecDepth 100000 in
set_option maxHeartbeats 4000000 in
theorem agree_any (p : Int) (vf : Value) (ax ay : Option Addr) (n cx cy : Nat) (f xs ys : List Int) (w : World) (hp : 1 ≤ p) (hp2 : p ≤ 1073741824) (hf : Els p f) (hx : Els p xs) (hsf : Ints w vf f) (hfl : f.length ≤ 1000) (hsx : Ints w (.slice ax n cx) xs) (hsy : Ints w (.slice ay n cy) ys) (hnx : xs.length = n) (hny : ys.length = n) (hn : n ≤ 1000) :
    Calls Tryz.prog 42 #[.int .i64 p, vf, .slice ax n cx, .slice ay n cy] w fun e w' => ∃ c : Nat, e = .returned (.int .i64 (c : Int)) ∧ c + (mis p f xs ys).length = n ∧ Below w.heap.size w w' := by
  obtain ⟨g, hg⟩ : ∃ g, w.heap.size = g := ⟨_, rfl⟩
  have HGG := Lib.hid hg
  have HSX := Lib.hid hsx
  have HSY := Lib.hid hsy
  have HNX := Lib.hid hnx
  have HNY := Lib.hid hny
  have HEX := Lib.hid hx
  have HEV := Lib.hid (fun (x : Int) (hx : El p x) (W : World) (hW : Below g w W) => ref_eval_any p x vf f W hp hp2 hx hf (hsf.below (Nat.le_of_eq hg) hW) (by omega))
  have HW0 : Hid (Below g w w) := Below.refl _ _
  have HM0 : Hid (0 + (mis p f (xs.take 0) (ys.take 0)).length = 0) := rfl
  rw [hg]
  clear hsx hsy hnx hny hx hsf hf hg hfl
  go_enter Tryz.func42, Tryz.ntmps42
  go_wp2_with fail
  go_loopw [9, 10, 11, 14] (fun v _ _ i wr => ∃ c k : Nat, k ≤ n ∧ c ≤ k ∧ i = .int .i64 k ∧ v = .int .i64 c ∧ Hid (c + (mis p f (xs.take k) (ys.take k)).length = k) ∧ Hid (Below g w wr)) (fun _ _ _ i _ => n - (intOf i).toNat)
  case atStart => exact ⟨0, 0, Nat.zero_le _, Nat.zero_le _, rfl, rfl, HM0, HW0⟩
  case round =>
    obtain ⟨c, k, hk, hck, rfl, rfl, HC, HB⟩ := hrel
    clear HM0 HW0
    by_cases hlt : k < n
    · have i1 : (k : Int) < (n : Int) := by omega
      obtain ⟨bx, ox, rfl, cx0⟩ := (HSX.out.below (Nat.le_of_eq HGG.out) HB.out).pos hlt
      obtain ⟨by0, oy, rfl, cy0w⟩ := HSY.out.pos hlt
      have hby := cell_lt cy0w
      rw [HGG.out] at hby
      have cy0 := (HB.out.cell (p := ⟨by0, oy + k, none⟩) hby).trans cy0w
      have hxe : El p (xs.getD k 0) := els_getD hp HEX.out k
      have HMT := Lib.hid (mis_take (p := p) (f := f) (xs := xs) (ys := ys) (k := k) (by rw [HNX.out]; exact hlt) (by rw [HNX.out, HNY.out]))
      obtain ⟨x, hxv⟩ : ∃ x, xs.getD k 0 = x := ⟨_, rfl⟩
      obtain ⟨y, hyv⟩ : ∃ y, ys.getD k 0 = y := ⟨_, rfl⟩
      rw [hxv] at cx0 hxe HMT
      rw [hyv] at cy0 HMT
      have HBD : Hid (Below g w wr.drew) := HB.out.trans ((Below.refl _ _).drew)
      have HEW := Lib.hid (HEV.out x hxe wr.drew HBD.out)
      obtain ⟨z, hz⟩ : ∃ z, E f x % p = z := ⟨_, rfl⟩
      rw [hz] at HEW HMT
      clear hxv hyv hz hxe cy0w hby HEV
      go_wp2_with fail
      apply region_oneW (fun W => Hid (Below g w W))
      case hr =>
        refine wp_region_noPanic ?_
        go_region_held3 (fun W' => W'.cell? ⟨by0, oy + k, none⟩ = some (.int .i64 y)) (first | go_keep | exact HSK)
          ((go_at_call 53; refine HEW.out.mono ?_; rintro e w5 ⟨rfl, rfl⟩; have HSK := cy0))
        all_goals
          refine NoPanic.normal ?_
          exact ⟨rfl, rfl, HBD⟩
      rintro w6 HB6
      clear HBD HEW cy0 cx0 HB
      by_cases hzy : z = y
      · have hne : (z == y) = true := by simp [hzy]
        have HCN : Hid (c + 1 + (mis p f (xs.take (k + 1)) (ys.take (k + 1))).length = k + 1) := by
          show _ = _
          rw [HMT.out, if_pos hzy, List.append_nil]
          have := HC.out; omega
        clear hzy
        go_wp2_with fail
        go_roundw
        case rel => exact ⟨c + 1, k + 1, by omega, by omega, by go_num, by go_num, HCN, HB6⟩
        case measure => simp [intOf]; omega
      · have hne : (z == y) = false := by simp [hzy]
        have HCN : Hid (c + (mis p f (xs.take (k + 1)) (ys.take (k + 1))).length = k + 1) := by
          show _ = _
          rw [HMT.out, if_neg hzy, List.length_append]
          have := HC.out
          simp; omega
        clear hzy
        go_wp2_with fail
        go_roundw
        case rel => exact ⟨c, k + 1, by omega, by omega, by go_num, rfl, HCN, HB6⟩
        case measure => simp [intOf]; omega
    · obtain rfl : k = n := by omega
      have HF : Hid (c + (mis p f xs ys).length = k) := by
        have h := HC.out
        rw [List.take_of_length_le (Nat.le_of_eq HNX.out), List.take_of_length_le (Nat.le_of_eq HNY.out)] at h
        exact h
      go_wp2_with fail
      go_ret
      exact ⟨c, rfl, HF.out, HB.out⟩
end Go.Proofs.YtdidplpbkfkdeaaGreatDoor
