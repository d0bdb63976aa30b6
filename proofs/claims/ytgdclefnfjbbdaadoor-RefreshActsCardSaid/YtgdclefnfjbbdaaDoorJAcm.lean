
/- What RefreshActs keeps in memory. -/
import Derived.Test.YtgdclefnfjbbdaaDoorJRs
import Derived.Test.YtgdclefnfjbbdaaDoorJLsm
import Derived.Test.YtgdclefnfjbbdaaDoorHCbl
namespace Go.Proofs.YtgdclefnfjbbdaaDoor
open Go.RowKit Go.Sort
open Num
set_option linter.unusedVariables false

/-- The dice, the plan, some lists that are known, and some of which only the size is known. -/
structure Ad (w1 W : World) (g gp : Nat) (s : Value) (l : List Int) (p : Int) (K N : Nat) (G : List (Value × List Int)) (M : List (Value × List Shr)) (VS : List Value) : Prop where
  lw : Lw w1 W g gp s l p ((K : Int) + 1) (N : Int) G M
  ls : ∀ v ∈ VS, LstK w1 W g v
  sz : w1.heap.size ≤ g
theorem LstK.slice {w1 W : World} {g : Nat} {v : Value} (h : LstK w1 W g v) : ∃ a n c, v = .slice a n c := by
  obtain ⟨X, h1, _⟩ := h
  rcases h1 with ⟨a, c, h, _⟩ | ⟨a, c, h, _⟩
  · exact ⟨a, _, c, h⟩
  · exact ⟨a, _, c, h⟩
section
variable {w1 W W' : World} {g gp : Nat} {s : Value} {l : List Int} {p : Int} {K N : Nat} {G : List (Value × List Int)} {M : List (Value × List Shr)} {VS : List Value}
theorem Ad.but (h : Ad w1 W g gp s l p K N G M VS) (k : But g W W') (hd : DiceAt W' g s l) : Ad w1 W' g gp s l p K N G M VS :=
  ⟨h.lw.but k hd, fun v hv => (h.ls v hv).but k, h.sz⟩
theorem Ad.below (h : Ad w1 W g gp s l p K N G M VS) (k : Below W.heap.size W W') : Ad w1 W' g gp s l p K N G M VS :=
  h.but (But.of_below k (Nat.le_refl _)) (h.lw.st.di.below k h.lw.st.di.size)
theorem Ad.drew (h : Ad w1 W g gp s l p K N G M VS) : Ad w1 W.drew g gp s l p K N G M VS := h.below (Below.refl _ _).drew
theorem Ad.addK (h : Ad w1 W g gp s l p K N G M VS) {v : Value} (hv : LstK w1 W g v) : Ad w1 W g gp s l p K N G M (v :: VS) :=
  ⟨h.lw, fun x hx => by
    rcases List.mem_cons.1 hx with rfl | hx
    · exact hv
    · exact h.ls x hx, h.sz⟩
theorem Ad.get (h : Ad w1 W g gp s l p K N G M VS) {v : Value} (hv : LstK w1 W g v) : ∃ X : List Shr, Shares W v X ∧ X.length ≤ 100 ∧ ∀ x ∈ X, x.2.length ≤ 100001 := by
  obtain ⟨X, h1, h2, h3⟩ := hv
  exact ⟨X, h1.shares h.lw.st.be h.sz, h2, h3⟩
theorem Ad.known (h : Ad w1 W g gp s l p K N G M VS) {v : Value} {V : Int → List Int} (hv : (v, rowL N V) ∈ M) (hN : N ≤ 7) (hm : ∀ x, (V x).length ≤ 100) : LstK w1 W g v :=
  ⟨_, .inr (h.lw.getM hv), by rw [rowL_len]; omega, fun x hx => by
    obtain ⟨j, hj, rfl⟩ := rowL_mem hx
    have := hm ((j + 1 : Nat) : Int)
    show (V _).length ≤ _
    omega⟩
theorem row_bound {V : Int → List Int} (hm : ∀ x, (V x).length ≤ 100) : ∀ x ∈ rowL N V, x.2.length ≤ 100000 := fun x hx => by
  obtain ⟨j, hj, rfl⟩ := rowL_mem hx
  have := hm ((j + 1 : Nat) : Int)
  show (V _).length ≤ _
  omega
theorem Ad.odd (h : Ad w1 W g gp s l p K N G M VS) {v : Value} {V : Int → List Int} (hv : (v, rowL N V) ∈ M) (hN : N ≤ 7) (hm : ∀ x, (V x).length ≤ 100) :
    Calls Tryd.prog 21 #[.pointer (some ⟨g, 0, none⟩), v] W fun e w' => ∃ v', e = .returned v' ∧ Ad w1 w' g gp s l p K N G M (v' :: VS) :=
  (odd_any g s l v (rowL N V) W h.lw.st.di (h.lw.getM hv).shares (row_bound hm) (by rw [rowL_len]; omega)).mono fun e w' ⟨v', h1, L', h2, h3, h4, h5, h6⟩ =>
    ⟨v', h1, (h.but h6 h5).addK (LstK.ofN h2 h.lw.sz (by rw [rowL_len] at h3; omega) h4)⟩
theorem Ad.turn (h : Ad w1 W g gp s l p K N G M VS) {v : Value} {V : Int → List Int} (hv : (v, rowL N V) ∈ M) (hN : N ≤ 7) (hm : ∀ x, (V x).length ≤ 100) :
    Calls Tryd.prog 22 #[.pointer (some ⟨g, 0, none⟩), v, .int .i64 0] W fun e w' => ∃ v', e = .returned v' ∧ Ad w1 w' g gp s l p K N G M (v' :: VS) :=
  (turn_any g s l v (rowL N V) 0 W h.lw.st.di (h.lw.getM hv).shares (row_bound hm) (by rw [rowL_len]; omega) (by omega)).mono fun e w' ⟨v', L2, m, h1, h2, h3, h4, h5, h6, h7⟩ =>
    ⟨v', h1, (h.but h7 h6).addK (LstK.ofN h5 h.lw.sz (by rw [List.length_take]; rw [rowL_len] at h4; omega) (fun x hx => Nat.le_trans (take_bound h2 (row_bound hm) x hx) (by omega)))⟩
theorem Ad.elements (h : Ad w1 W g gp s l p K N G M VS) (q : Pf p K N) (c : Nat) (hc : c ≤ 1000000) :
    Calls Tryd.prog 16 #[.pointer (some ⟨g, 0, none⟩), .int .i64 p, .int .i64 (c : Int)] W fun e w' => ∃ v zs, e = .returned v ∧ zs.length = c ∧ Els p zs ∧ Ad w1 w' g gp s l p K N ((v, zs) :: G) M VS :=
  (dice_elements g s l p c W h.lw.st.di q.p1 q.p2 hc).mono fun e w' ⟨v, zs, h1, h2, h3, h4, h5, h6⟩ => ⟨v, zs, h1, h2, h3, ⟨(h.lw.but h6 h5).addG h4 h.lw.sz, fun v hv => (h.ls v hv).but h6, h.sz⟩⟩
theorem Ad.random (h : Ad w1 W g gp s l p K N G M VS) (q : Pf p K N) {c Z : Nat} (hZ : c * K = Z) (hc : c ≤ 1000000) :
    Calls Tryd.prog 17 #[.agg #[.int .i64 p, .int .i64 ((K : Int) + 1), .int .i64 (N : Int)], .int .i64 (c : Int)] W fun e w' => e = .returned (.int .i64 (Z : Int)) ∧ Ad w1 w' g gp s l p K N G M VS := by
  have hr := ref6_random p ((K : Int) + 1) (N : Int) c W (by omega) (by have := q.kn; omega) hc
  rw [show (c : Int) * ((K : Int) + 1 - 1) = (Z : Int) by rw [← hZ, Int.add_sub_cancel]; push_cast; rfl] at hr
  exact hr.mono fun e w' ⟨h1, h2⟩ => ⟨h1, h.below h2⟩
theorem Ad.zero8 (h : Ad w1 W g gp s l p K N G M VS) (q : Pf p K N) {c Z : Nat} (hZ : c * K = Z) (hc : c ≤ 100) {vr : Value} {R : List Int} (hr : (vr, R) ∈ G) (hR : R.length = Z) (hE : Els p R) :
    Calls Tryd.prog 15 #[.agg #[.int .i64 p, .int .i64 ((K : Int) + 1), .int .i64 (N : Int)], .int .i64 (c : Int), vr] W fun e w' => ∃ v, e = .returned (.tuple #[v, .int .i64 0]) ∧ Ad w1 w' g gp s l p K N G ((v, rowL N (dealV p K (List.replicate c 0) R)) :: M) VS := by
  have hz : Z ≤ 100 * 7 := by rw [← hZ]; exact Nat.mul_le_mul hc (by have := q.kn; omega)
  have hx := ref8_zero p ((K : Int) + 1) (N : Int) (c : Int) vr R W q.wf ((h.lw.getG hr).slc (by omega)) (by omega)
  have hk := zero_ok (p := p) (k := (K : Int) + 1) (n := (N : Int)) (c := (c : Int)) (K := K) (N := N) (C := c) (r := R) q.pl (by omega) rfl rfl (by omega) hE (by rw [hR, hZ])
  rw [hk.1, hk.2] at hx
  exact hx.mono fun e w' ⟨v, h1, h2, h3⟩ => ⟨v, h1, ⟨((h.below h3).lw).addM h2 h.lw.sz, (h.below h3).ls, h.sz⟩⟩
theorem Ad.dealt (h : Ad w1 W g gp s l p K N G M VS) (q : Pf p K N) (most : Nat) (hm : 1 ≤ most ∧ most ≤ 4) :
    Calls Tryd.prog 14 #[.pointer (some ⟨g, 0, none⟩), .agg #[.int .i64 p, .int .i64 ((K : Int) + 1), .int .i64 (N : Int)], .int .i64 (most : Int)] W fun e w' => ∃ v1 v2 S R, e = .returned (.tuple #[v1, v2]) ∧ 1 ≤ S.length ∧ S.length ≤ most ∧ Els p S ∧ Ad w1 w' g gp s l p K N ((v1, S) :: G) ((v2, rowL N (dealV p K S R)) :: M) VS :=
  (dealt_all g s l p K N most W h.lw.st.di q.prm q.p2 q.pl q.kn hm).mono fun e w' ⟨v1, v2, S, R, h1, h2, h3, h4, h5, h6, h7, h8⟩ =>
    ⟨v1, v2, S, R, h1, h2, h3, h4, ⟨((h.lw.but h8 h7).addG h5 h.lw.sz).addM h6 h.lw.sz, fun v hv => (h.ls v hv).but h8, h.sz⟩⟩
theorem lists_three {W : World} {va vb vc : Value} {A B C : List Shr} {t : TypeId} (ha : Shares W va A) (hb : Shares W vb B) (hc : Shares W vc C) {q : Nat} (hq : W.heap.size = q) : ListsS (W.alloc (.cells #[va, vb, vc] t)) (.slice (some ⟨q, 0, none⟩) 3 3) [A, B, C] := by
  subst hq
  have hal : Below W.heap.size W (W.alloc (.cells #[va, vb, vc] t)) := (Below.refl _ _).alloc (Nat.le_refl _) _
  refine ⟨_, 3, rfl, by simp, by simp, by omega, fun _ => ⟨W.heap.size, 0, rfl, fun i hi => ?_⟩⟩
  match i, hi with
  | 0, _ => exact ⟨va, by rw [cell_new]; rfl, ha.below (Nat.le_refl _) hal⟩
  | 1, _ => exact ⟨vb, by rw [cell_new]; rfl, hb.below (Nat.le_refl _) hal⟩
  | 2, _ => exact ⟨vc, by rw [cell_new]; rfl, hc.below (Nat.le_refl _) hal⟩
theorem lists_one {W : World} {va : Value} {A : List Shr} {t : TypeId} (ha : Shares W va A) {q : Nat} (hq : W.heap.size = q) : ListsS (W.alloc (.cells #[va] t)) (.slice (some ⟨q, 0, none⟩) 1 1) [A] := by
  subst hq
  have hal : Below W.heap.size W (W.alloc (.cells #[va] t)) := (Below.refl _ _).alloc (Nat.le_refl _) _
  refine ⟨_, 1, rfl, by simp, by simp, by omega, fun _ => ⟨W.heap.size, 0, rfl, fun i hi => ?_⟩⟩
  match i, hi with
  | 0, _ => exact ⟨va, by rw [cell_new]; rfl, ha.below (Nat.le_refl _) hal⟩
theorem lists_nil (W : World) : ListsS W (.slice none 0 0) [] := ⟨none, 0, rfl, by simp, by simp, by omega, fun h => absurd rfl h⟩
end
end Go.Proofs.YtgdclefnfjbbdaaDoor
