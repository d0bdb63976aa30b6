
/- Contracts of Linear: the program's and the document's answer. -/
import Derived.Test.YtpohhgbmdgjipaaOwn
import Derived.Deep.OwnRows
namespace Go.Proofs.Ytpohhgbmdgjipaa
open Go.RowKit
open Num
set_option linter.unusedVariables false

/-- The list a plus c times b, place by place. -/
def linAt (p : Int) (a b : List Int) (c : Int) (i : Nat) : Int := addF p (a.getD i 0) (mulF p c (b.getD i 0))
def linF (p : Int) (a b : List Int) (c : Int) : List Int := (List.range (max a.length b.length)).map (linAt p a b c)
theorem els_at {p : Int} (hp : 1 ≤ p) {l : List Int} (h : Els p l) (i : Nat) : El p (l.getD i 0) := by
  by_cases hi : i < l.length
  · rw [getD_at hi]; exact h _ (List.getElem_mem hi)
  · simp [List.getD, show l.length ≤ i by omega]; exact el_zero hp

theorem ints_at {w : World} {a : Option Addr} {n c : Nat} {l : List Int} (h : Ints w (.slice a n c) l) (hn : n = l.length) {k : Nat} (hk : k < n) :
    ∃ b off, a = some ⟨b, off, none⟩ ∧ w.cell? ⟨b, off + k, none⟩ = some (.int .i64 (l.getD k 0)) := by
  obtain ⟨a', c', hv, _, hc⟩ := h
  simp only [Value.slice.injEq] at hv
  obtain ⟨rfl, _⟩ := hv
  obtain ⟨b, off, ha, hx⟩ := hc (fun e => by subst e; simp at hn; omega)
  exact ⟨b, off, ha, hx k (by omega)⟩

/-- What has been stored behind k rounds. -/
def linRow (p : Int) (a b : List Int) (c : Int) (k j : Nat) : Value := .int .i64 (if j < k then linAt p a b c j else 0)

theorem lin_step {p c v : Int} {a b : List Int} {k : Nat} (h : linAt p a b c k = v) (j : Nat) : (if j = k then Value.int .i64 v else linRow p a b c k j) = linRow p a b c (k + 1) j := by
  subst h
  unfold linRow
  by_cases e : j = k
  · subst e; simp
  · rw [if_neg e]
    by_cases h1 : j < k
    · rw [if_pos h1, if_pos (by omega)]
    · rw [if_neg h1, if_neg (by omega)]

set_option maxHeartbeats 1000000 in
theorem linear_core (p c : Int) (aa ab : Option Addr) (la lb ca cb n : Nat) (a b : List Int) (w : World) (hp : 1 ≤ p) (hp2 : p ≤ 1073741824) (hc : El p c) (ha : Els p a) (hb : Els p b)
    (hsa : Ints w (.slice aa la ca) a) (hsb : Ints w (.slice ab lb cb) b) (hn : (la < lb ∧ n = lb) ∨ (lb ≤ la ∧ n = la)) (hn2 : n ≤ 1000000000) :
    Calls Try.prog 45 #[.int .i64 p, .slice aa la ca, .slice ab lb cb, .int .i64 c] w fun e w' =>
      e = .returned (.slice (some ⟨w.heap.size, 0, none⟩) n n) ∧ w'.rowIs w.heap.size 3 n (linRow p a b c n) ∧ Below w.heap.size w w' := by
  have hmk := run_make_row' (P := Try.prog) 22 3 (.int .i64 0) 8 Try.underlying22 infoInt rfl .i64 .i64 n (by omega) (by omega)
  rcases hn with ⟨hn, rfl⟩ | ⟨hn, rfl⟩
  all_goals
    go_enter Try.func45, Try.ntmps45
    go_wp2_with fail
    go_loopw [10, 19] (fun _ i wr => ∃ k : Nat, k ≤ n ∧ i = .int .i64 k ∧ wr.rowIs w.heap.size 3 n (linRow p a b c k) ∧ Below w.heap.size w wr) (fun _ i _ => n - (intOf i).toNat)
    case atStart => exact ⟨0, Nat.zero_le _, rfl, (World.rowIs_made w (.int .i64 0) n 3).congr (fun j _ => by simp [linRow]), (Below.refl _ _).alloc (Nat.le_refl _) _⟩
    case round =>
      obtain ⟨k, hk, rfl, hrow, hbel⟩ := hrel
      have HR := Lib.hid hrow
      have HB := Lib.hid hbel
      by_cases hlt : k < n
      · have hx := els_at hp ha k
        have hy := els_at hp hb k
        have c1 := Lib.hid (at_any _ a k wr (hsa.below (Nat.le_refl _) hbel) (by omega))
        have c2 := Lib.hid (at_any _ b k wr (hsb.below (Nat.le_refl _) hbel) (by omega))
        have hcl := hrow.cell hlt
        have hfr := hrow.frozen k
        have HV : Hid (linAt p a b c k = addF p (a.getD k 0) (mulF p c (b.getD k 0))) := rfl
        clear hrow hbel
        generalize a.getD k 0 = x at *
        generalize b.getD k 0 = y at *
        go_wp2_with fail
        refine c1.out.mono ?_; rintro e w' ⟨rfl, rfl⟩
        go_wp2_with fail
        refine c2.out.mono ?_; rintro e w' ⟨rfl, rfl⟩
        go_wp2_with (first
          | (go_at_call 35; refine (mul_el _ hp hp2 hc hy).mono ?_; rintro e w' ⟨rfl, rfl⟩)
          | (go_at_call 41; refine (add_el _ hp hp2 hx (el_mul hp _ _)).mono ?_; rintro e w' ⟨rfl, rfl⟩))
        have HR' : Hid ((wr.setCell ⟨w.heap.size, k, none⟩ (.int .i64 (addF p x (mulF p c y)))).rowIs w.heap.size 3 n (linRow p a b c (k + 1))) :=
          (HR.out.set k _).congr fun j hj => lin_step HV.out j
        go_roundw
        case rel => exact ⟨k + 1, by omega, by go_num, HR'.out, HB.out.setCell (Nat.le_refl _) _⟩
        case measure => simp [intOf]; omega
      · obtain rfl : k = n := by omega
        go_wp2
        go_ret
        exact ⟨rfl, HR.out, HB.out⟩

theorem row_gath {w : World} {g n base : Nat} {f : Nat → Int} (h : w.rowIs g 3 n (fun j => .int .i64 (f j))) (hg : base ≤ g) (hn : n ≤ maxLen) :
    Gath w base (.slice (some ⟨g, 0, none⟩) n n) ((List.range n).map f) := by
  obtain ⟨c, hb, hs, hc⟩ := h
  refine ⟨by simp, .inr ⟨g, n, c, by simp, hg, hb, by simp, hn, by simp [hs], ?_⟩⟩
  apply List.ext_getElem?
  intro i
  by_cases hi : i < n
  · rw [List.getElem?_take_of_lt (by simpa using hi)]
    have := hc i hi
    rw [Array.getElem?_toList, this]
    simp [hi]
  · rw [List.getElem?_eq_none (by simp [hs]; omega), List.getElem?_eq_none (by simp; omega)]

theorem linear_any (p c : Int) (sa sb : Value) (a b : List Int) (w : World) (hp : 1 ≤ p) (hp2 : p ≤ 1073741824) (hc : El p c) (ha : Els p a) (hb : Els p b) (hsa : Ints w sa a) (hsb : Ints w sb b)
    (hla : a.length ≤ 1000000000) (hlb : b.length ≤ 1000000000) :
    Calls Try.prog 45 #[.int .i64 p, sa, sb, .int .i64 c] w fun e w' =>
      ∃ v, e = .returned v ∧ Gath w' w.heap.size v (linF p a b c) ∧ Below w.heap.size w w' := by
  obtain ⟨aa, ca, rfl, _, _⟩ := id hsa
  obtain ⟨ab, cb, rfl, _, _⟩ := id hsb
  refine (linear_core p c aa ab a.length b.length ca cb (max a.length b.length) a b w hp hp2 hc ha hb hsa hsb (by omega) (by omega)).mono fun e w' ⟨he, hr, hbel⟩ => ⟨_, he, ?_, hbel⟩
  refine row_gath (f := linAt p a b c) (hr.congr fun j hj => ?_) (Nat.le_refl _) (by unfold maxLen; omega)
  simp [linRow, hj]
end Go.Proofs.Ytpohhgbmdgjipaa
