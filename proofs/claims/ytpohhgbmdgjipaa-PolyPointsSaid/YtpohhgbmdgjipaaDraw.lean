
/- The points that layer 2's statements draw. -/
import Derived.Test.YtpohhgbmdgjipaaPoints
namespace Go.Proofs.Ytpohhgbmdgjipaa
open Go.RowKit
open Num
set_option linter.unusedVariables false

theorem Gath.mono {w : World} {B B' : Nat} {v : Value} {zs : List Int} (h : Gath w B v zs) (hB : B' ≤ B) : Gath w B' v zs := by
  obtain ⟨h0, hn | ⟨g, cap, cur, rfl, hb, hr⟩⟩ := h
  · exact ⟨h0, .inl hn⟩
  · exact ⟨h0, .inr ⟨g, cap, cur, rfl, Nat.le_trans hB hb, hr⟩⟩
/-- What the drawn places are between two rounds. -/
structure PtI (p : Int) (b : Nat) (s : Value) (l : List Int) (w wr : World) (v : Value) (xs : List Int) : Prop where
  own : Gath wr w.heap.size v xs
  dice : DiceAt wr b s l
  but : But b w wr
  els : Els p xs
  nodup : xs.Nodup
theorem ptI_start {p : Int} {b : Nat} {s : Value} {l : List Int} {w : World} (h : DiceAt w b s l) : PtI p b s l w w (.slice none 0 0) [] :=
  ⟨gath_nil _ _, h, But.refl _ _, (fun x hx => by cases hx), List.nodup_nil⟩
theorem contains_take_succ {xs : List Int} {x y : Int} {k : Nat} (hk : k < xs.length) (h : xs.getD k 0 = y) : (xs.take (k + 1)).contains x = ((xs.take k).contains x || x == y) := by
  subst h
  rw [take_succ_getD hk, Bool.eq_iff_iff, Bool.or_eq_true, List.contains_iff_mem, List.contains_iff_mem, List.mem_append, List.mem_singleton, beq_iff_eq]
theorem nodup_snoc {xs : List Int} {x : Int} (h : xs.Nodup) (hx : xs.contains x = false) : (xs ++ [x]).Nodup := by
  rw [List.nodup_append]
  refine ⟨h, by simp, fun a ha b hb e => ?_⟩
  rw [List.mem_singleton] at hb
  subst hb; subst e
  rw [List.contains_iff_mem.2 ha] at hx; cases hx
theorem els_snoc {p : Int} {xs : List Int} {x : Int} (h : Els p xs) (hx : El p x) : Els p (xs ++ [x]) := fun z hz => by
  rcases List.mem_append.1 hz with h1 | h1
  · exact h z h1
  · rw [List.mem_singleton.1 h1]; exact hx
theorem ptI_step {p x : Int} {b : Nat} {s : Value} {l : List Int} {w wr w1 w2 : World} {v v' : Value} {xs : List Int} {o : Obj} (hown : Gath w1 w.heap.size v xs) (hd1 : DiceAt w1 b s l) (hbut : But b w w1) (hb : b < w.heap.size) (he : Els p xs) (hn : xs.Nodup) (hx : El p x) (hc : xs.contains x = false)
    (hown2 : Gath w2 w.heap.size v' (xs ++ [x])) (hgr : (w1.alloc o).grownBy w2 v.ownBlock) : PtI p b s l w w2 v' (xs ++ [x]) :=
  ⟨hown2, (hd1.below ((Below.refl _ _).alloc (Nat.le_refl _) o) hd1.size).grown (hown.alloc o) hgr hb, But.append (hbut.trans (But.alloc b w1 o)) (Nat.le_refl _) (hown.alloc o) hgr, els_snoc he hx, nodup_snoc hn hc⟩

set_option maxRecDepth 100000 in
set_option maxHeartbeats 4000000 in
theorem points_any (b : Nat) (s : Value) (l : List Int) (p : Int) (most : Nat) (w : World) (hd : DiceAt w b s l) (hp : 2 ≤ p) (hp2 : p ≤ 1073741824) (hm : most ≤ 100) :
    Calls Try.prog 23 #[.pointer (some ⟨b, 0, none⟩), .int .i64 p, .int .i64 most] w fun e w' =>
      ∃ vx vy xs ys, e = .returned (.tuple #[vx, vy]) ∧ xs.length ≤ most ∧ xs.Nodup ∧ Els p xs ∧ ys.length = xs.length ∧ Els p ys ∧ Gath w' w.heap.size vx xs ∧ Gath w' w.heap.size vy ys ∧ DiceAt w' b s l ∧ But b w w' := by
  have hsz := hd.size
  obtain ⟨mn, hmn, hmn2⟩ : ∃ mn : Int, (if p < (most : Int) then p else (most : Int)) = mn ∧ 0 ≤ mn ∧ mn ≤ most := by
    refine ⟨_, rfl, ?_⟩
    split <;> omega
  go_enter Try.func23, Try.ntmps23
  go_wp2_with fail
  refine (next_any b s l (mn + 1) _ hd (by omega) (by omega)).mono ?_
  rintro e w1 ⟨r, r0, r1, rfl, hd1, hb1⟩
  obtain ⟨n, rfl⟩ := Int.eq_ofNat_of_zero_le r0
  have hn : n ≤ most := by omega
  have hs1 := hb1.size
  have HP0 : Hid (PtI p b s l w w1 (.slice none 0 0) []) := ⟨gath_nil _ _, hd1, hb1, (fun x hx => by cases hx), List.nodup_nil⟩
  clear hd1 hb1 hd
  go_wp2
  go_loopw [8, 19] (fun v c wr => ∃ k : Nat, ∃ xs : List Int, k ≤ n ∧ c = .int .i64 k ∧ xs.length ≤ k ∧ Hid (PtI p b s l w wr v xs)) (fun _ c _ => n - (intOf c).toNat)
  case atStart => exact ⟨0, [], Nat.zero_le _, rfl, Nat.le_refl _, HP0⟩
  case round =>
    obtain ⟨k, xs, hk, rfl, hxl, hI⟩ := hrel
    by_cases hlt : k < n
    · go_wp2_with fail
      refine (next_any b s l p _ hI.out.dice (by omega) (by omega)).mono ?_
      rintro e w2 ⟨x, x0, x1, rfl, hd2, hb2⟩
      have hx : El p x := ⟨x0, x1⟩
      have hown2 := hI.out.own.but hb2 hsz
      have hbut2 := hI.out.but.trans hb2
      have HEL := Lib.hid hI.out.els
      have HND := Lib.hid hI.out.nodup
      have hir := hown2.reads (by omega)
      have HO := Lib.hid hown2
      have HBT := Lib.hid hbut2
      have HIR := Lib.hid hir
      have hsz2 := hbut2.size
      have HD2 := Lib.hid hd2
      obtain ⟨a, c, rfl, _, _⟩ := hir
      obtain ⟨m, hml⟩ : ∃ m, xs.length = m := ⟨_, rfl⟩
      rw [hml] at HO HIR hxl ⊢
      have HML := Lib.hid hml
      clear hd2 hb2 hown2 hbut2 hI hml
      go_wp2
      go_loop [10, 26] (fun t c => ∃ j : Nat, j ≤ m ∧ c = .int .i64 j ∧ t = .bool ((xs.take j).contains x)) (fun _ c => m - (intOf c).toNat)
      case atStart => exact ⟨0, Nat.zero_le _, rfl, by simp⟩
      case round =>
        obtain ⟨j, hj, rfl, rfl⟩ := hrel
        by_cases hjl : j < m
        · obtain ⟨x0, off, rfl, hcy⟩ := ints_at HIR.out HML.out.symm (k := j) hjl
          obtain ⟨y, hy⟩ : ∃ y, xs.getD j 0 = y := ⟨_, rfl⟩
          have HS := Lib.hid (contains_take_succ (x := x) (by rw [HML.out]; exact hjl) hy)
          rw [hy] at hcy
          clear hy
          cases hc0 : (xs.take j).contains x with
          | true =>
            rw [hc0] at HS
            have HS' : Hid ((xs.take (j + 1)).contains x = true) := by have h := HS.out; rw [Bool.true_or] at h; exact h
            clear hc0 HS
            go_wp2
            go_round
            case rel => exact ⟨j + 1, by omega, by go_num, by rw [HS'.out]⟩
            case measure => simp [intOf]; omega
          | false =>
            rw [hc0] at HS
            have HS' : Hid ((xs.take (j + 1)).contains x = (x == y)) := by have h := HS.out; rw [Bool.false_or] at h; exact h
            clear hc0 HS
            go_wp2
            go_round
            case rel => exact ⟨j + 1, by omega, by go_num, by rw [HS'.out]⟩
            case measure => simp [intOf]; omega
        · obtain rfl : j = m := by omega
          have ht : xs.take j = xs := by rw [← HML.out, List.take_length]
          rw [ht]
          clear ht
          cases hc : xs.contains x with
          | true =>
            have HP : Hid (PtI p b s l w w2 (.slice a j c) xs) := ⟨HO.out, HD2.out, HBT.out, HEL.out, HND.out⟩
            clear hc
            go_wp2
            go_roundw
            case rel => exact ⟨k + 1, xs, by omega, by go_num, by have := HML.out; omega, HP⟩
            case measure => simp [intOf]; omega
          | false =>
            have HC := Lib.hid hc
            clear hc
            go_wp2_with (at_builtin; refine append_one _ rfl _ _ rfl w.heap.size _ xs x rfl (HO.out.alloc _) ⟨w2.heap.size, 0, none⟩ rfl ?c1 ?c2 ?c3 ?_)
            case c2 => have := HML.out; omega
            case c3 => first | omega | (simp; omega)
            intro v' w4 hown4 hgr
            have HP := Lib.hid (ptI_step (wr := w2) HO.out HD2.out HBT.out hsz HEL.out HND.out hx HC.out hown4 hgr)
            clear hown4 hgr
            go_wp2
            go_roundw
            case rel => exact ⟨k + 1, xs ++ [x], by omega, by go_num, by have := HML.out; simp; omega, HP⟩
            case measure => simp [intOf]; omega
    · have hir := hI.out.own.reads (by omega)
      obtain ⟨a, c, rfl, _, _⟩ := hir
      have hsz2 := hI.out.but.size
      go_wp2_with fail
      refine (dice_elements b s l p xs.length _ hI.out.dice (by omega) hp2 (by omega)).mono ?_
      rintro e w5 ⟨vy, ys, rfl, hyl, hye, hgy, hd5, hb5⟩
      have HGX := Lib.hid (hI.out.own.but hb5 hsz)
      have HB5 := Lib.hid (hI.out.but.trans hb5)
      have HYL := Lib.hid hyl
      have HYE := Lib.hid hye
      have HGY : Hid (Gath w5 w.heap.size vy ys) := hgy.mono hsz2
      have HD5 := Lib.hid hd5
      clear hb5 hyl hye hgy hd5
      go_wp2
      go_ret2
      exact ⟨_, vy, xs, ys, rfl, by omega, hI.out.nodup, hI.out.els, HYL.out, HYE.out, HGX.out, HGY.out, HD5.out, HB5.out⟩
end Go.Proofs.Ytpohhgbmdgjipaa
