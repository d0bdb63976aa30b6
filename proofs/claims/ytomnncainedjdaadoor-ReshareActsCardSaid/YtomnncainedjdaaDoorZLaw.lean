
/- What the statements of layer 9 keep in memory, and each call in its terms. -/
import Derived.Test.YtomnncainedjdaaDoorZAwk
import Derived.Test.YtomnncainedjdaaDoorJLaw
namespace Go.Proofs.YtomnncainedjdaaDoor
open Go.RowKit Go.Sort
open Num
set_option linter.unusedVariables false

/-- The dice, two plans and the table; some lists of numbers and of shares of the call's own. -/
structure Mw (w0 W : World) (b gp gq : Nat) (s : Value) (l : List Int) (p : Int) (K N K2 N2 : Nat) (G : List (Value × List Int)) (M : List (Value × List Shr)) : Prop where
  lw : Lw w0 W b gp s l p ((K : Int) + 1) (N : Int) G M
  tp : PlanAt W gq p ((K2 : Int) + 1) (N2 : Int)
  gt : b < gq
section
variable {w0 W W' : World} {b gp gq : Nat} {s : Value} {l : List Int} {p : Int} {K N K2 N2 : Nat} {G : List (Value × List Int)} {M : List (Value × List Shr)}
theorem Mw.below (h : Mw w0 W b gp gq s l p K N K2 N2 G M) (k : Below W.heap.size W W') : Mw w0 W' b gp gq s l p K N K2 N2 G M :=
  ⟨h.lw.below k, h.tp.below h.tp.lt k, h.gt⟩
theorem Mw.drew (h : Mw w0 W b gp gq s l p K N K2 N2 G M) : Mw w0 W.drew b gp gq s l p K N K2 N2 G M := h.below (Below.refl _ _).drew
theorem Mw.but (h : Mw w0 W b gp gq s l p K N K2 N2 G M) (k : But b W W') (hd : DiceAt W' b s l) : Mw w0 W' b gp gq s l p K N K2 N2 G M :=
  ⟨h.lw.but k hd, h.tp.but k (by have := h.gt; omega), h.gt⟩
theorem Mw.addG (h : Mw w0 W b gp gq s l p K N K2 N2 G M) {v : Value} {z : List Int} {B : Nat} (hg : Gath W B v z) (hB : b + 1 ≤ B) : Mw w0 W b gp gq s l p K N K2 N2 ((v, z) :: G) M := ⟨h.lw.addG hg hB, h.tp, h.gt⟩
theorem Mw.addM (h : Mw w0 W b gp gq s l p K N K2 N2 G M) {v : Value} {L : List Shr} {B : Nat} (hg : SharesN W B v L) (hB : b + 1 ≤ B) : Mw w0 W b gp gq s l p K N K2 N2 G ((v, L) :: M) := ⟨h.lw.addM hg hB, h.tp, h.gt⟩
theorem Mw.cells (h : Mw w0 W b gp gq s l p K N K2 N2 G M) : W.cell? ⟨gp, 0, none⟩ = some (.int .i64 p) ∧ W.cell? ⟨gp, 1, none⟩ = some (.int .i64 ((K : Int) + 1)) ∧ W.cell? ⟨gp, 2, none⟩ = some (.int .i64 (N : Int)) ∧ W.cell? ⟨gq, 0, none⟩ = some (.int .i64 p) ∧ W.cell? ⟨gq, 1, none⟩ = some (.int .i64 ((K2 : Int) + 1)) ∧ W.cell? ⟨gq, 2, none⟩ = some (.int .i64 (N2 : Int)) :=
  ⟨h.lw.cells.1, h.lw.cells.2.1, h.lw.cells.2.2, h.tp.c0, h.tp.c1, h.tp.c2⟩
theorem Mw.sub {G' : List (Value × List Int)} {M' : List (Value × List Shr)} (h : Mw w0 W b gp gq s l p K N K2 N2 G M) (hG : ∀ x ∈ G', x ∈ G) (hM : ∀ x ∈ M', x ∈ M) : Mw w0 W b gp gq s l p K N K2 N2 G' M' :=
  ⟨⟨h.lw.st, fun x hx => h.lw.g x (hG x hx), fun x hx => h.lw.m x (hM x hx)⟩, h.tp, h.gt⟩
theorem Mw.dealt (h : Mw w0 W b gp gq s l p K N K2 N2 G M) (q : Pf p K N) (most : Nat) (hm : 1 ≤ most ∧ most ≤ 4) :
    Calls Tryd.prog 16 #[.pointer (some ⟨b, 0, none⟩), .agg #[.int .i64 p, .int .i64 ((K : Int) + 1), .int .i64 (N : Int)], .int .i64 (most : Int)] W fun e w' => ∃ v1 v2 S R, e = .returned (.tuple #[v1, v2]) ∧ 1 ≤ S.length ∧ S.length ≤ most ∧ Els p S ∧ Mw w0 w' b gp gq s l p K N K2 N2 ((v1, S) :: G) ((v2, rowL N (dealV p K S R)) :: M) :=
  (dealt_all b s l p K N most W h.lw.st.di q.prm q.p2 q.pl q.kn hm).mono fun e w' ⟨v1, v2, S, R, h1, h2, h3, h4, h5, h6, h7, h8⟩ =>
    ⟨v1, v2, S, R, h1, h2, h3, h4, ((h.but h8 h7).addG h5 h.lw.sz).addM h6 h.lw.sz⟩
theorem Mw.elements (h : Mw w0 W b gp gq s l p K N K2 N2 G M) (q : Pf p K N) (c : Nat) (hc : c ≤ 1000000) :
    Calls Tryd.prog 17 #[.pointer (some ⟨b, 0, none⟩), .int .i64 p, .int .i64 (c : Int)] W fun e w' => ∃ v zs, e = .returned v ∧ zs.length = c ∧ Els p zs ∧ Gath w' W.heap.size v zs ∧ But b W w' ∧ DiceAt w' b s l ∧ Mw w0 w' b gp gq s l p K N K2 N2 ((v, zs) :: G) M :=
  (dice_elements b s l p c W h.lw.st.di q.p1 q.p2 hc).mono fun e w' ⟨v, zs, h1, h2, h3, h4, h5, h6⟩ => ⟨v, zs, h1, h2, h3, h4, h6, h5, (h.but h6 h5).addG h4 h.lw.sz⟩
theorem Mw.turn (h : Mw w0 W b gp gq s l p K N K2 N2 G M) {z : Value} {n : Nat} {V : Int → List Int} (hn : n ≤ 16) (hz : (z, rowL n V) ∈ M) (hm : ∀ x, (V x).length ≤ 100) (least : Nat) (hle : least ≤ 1000) :
    Calls Tryd.prog 22 #[.pointer (some ⟨b, 0, none⟩), z, .int .i64 (least : Int)] W fun e w' => ∃ (v' : Value) (L2 : List Shr) (m : Nat), e = .returned v' ∧ L2.Perm (rowL n V) ∧ min least n ≤ m ∧ m ≤ n ∧ But b W w' ∧ DiceAt w' b s l ∧ Mw w0 w' b gp gq s l p K N K2 N2 G ((v', L2.take m) :: M) := by
  have hx := turn_any b s l z (rowL n V) least W h.lw.st.di (h.lw.getM hz).shares (fun x hx => by
    obtain ⟨j, hj, rfl⟩ := rowL_mem hx
    have := hm ((j + 1 : Nat) : Int)
    show (V _).length ≤ _
    omega) (by rw [rowL_len]; omega) hle
  rw [rowL_len] at hx
  exact hx.mono fun e w' ⟨v', L2, m, h1, h2, h3, h4, h5, h6, h7⟩ => ⟨v', L2, m, h1, h2, h3, h4, h7, h6, (h.but h7 h6).addM h5 h.lw.sz⟩
theorem Mw.fits (h : Mw w0 W b gp gq s l p K N K2 N2 G M) (k n : Int) (hwf : (Lit.int .i64 p).wf = true) {z : Value} {L : List Shr} (hz : (z, L) ∈ M) {y : Bool} (hy : fitB p k n L = y) :
    Calls Tryd.prog 27 #[.agg #[.int .i64 p, .int .i64 k, .int .i64 n], z] W fun e w' => e = .returned (.bool y) ∧ Below W.heap.size W w' ∧ Mw w0 w' b gp gq s l p K N K2 N2 G M := by
  have hx := ref6_fits p k n z L W hwf (h.lw.getM hz).shares
  rw [hy] at hx
  exact hx.mono fun e w' ⟨h1, h2⟩ => ⟨h1, h2, h.below h2⟩
theorem Mw.combine (h : Mw w0 W b gp gq s l p K N K2 N2 G M) (k n : Int) (hwf : (Lit.int .i64 p).wf = true) {z : Value} {L : List Shr} {S : List Int} (hz : (z, L) ∈ M) (hS : combE p k n L = 0 ∧ combL p k n L = S) :
    Calls Tryd.prog 28 #[.agg #[.int .i64 p, .int .i64 k, .int .i64 n], z] W fun e w' => ∃ v', e = .returned (.tuple #[v', .int .i64 0]) ∧ Below W.heap.size W w' ∧ Mw w0 w' b gp gq s l p K N K2 N2 ((v', S) :: G) M := by
  have hx := ref6_combine_any p k n z L W hwf (h.lw.getM hz).shares
  rw [hS.1, hS.2] at hx
  exact hx.mono fun e w' ⟨v', h1, h2, h3⟩ => ⟨v', h1, h3, (h.below h3).addG h2 h.lw.sz⟩
theorem Mw.move (h : Mw w0 W b gp gq s l p K N K2 N2 G M) (hwf : (Lit.int .i64 p).wf = true) (k n k2 : Int) (n2 : Nat) {z u : Value} {L : List Shr} {RR : List (List Int)} {U : Int → List Int} (hz : (z, L) ∈ M) (hu : ListsI W u RR) (hR : ∀ r ∈ RR, r.length ≤ 1000000) (hm : moveE p k n p k2 (n2 : Int) L RR = 0 ∧ moveR p k n p k2 (n2 : Int) L RR = rowL n2 U) :
    Calls Tryd.prog 25 #[.agg #[.int .i64 p, .int .i64 k, .int .i64 n], .agg #[.int .i64 p, .int .i64 k2, .int .i64 (n2 : Int)], z, u] W fun e w' => ∃ v', e = .returned (.tuple #[v', .int .i64 0]) ∧ Below W.heap.size W w' ∧ Mw w0 w' b gp gq s l p K N K2 N2 G ((v', rowL n2 U) :: M) := by
  have hx := reshare_move p k n p k2 (n2 : Int) z u L RR W h.lw.st.wh hwf hwf (h.lw.getM hz).shares hu hR
  rw [hm.1, hm.2] at hx
  exact hx.mono fun e w' ⟨v', h1, h2, h3⟩ => ⟨v', h1, h3, (h.below h3).addM h2 h.lw.sz⟩
theorem Mw.same (h : Mw w0 W b gp gq s l p K N K2 N2 G M) {va vb : Value} {A : List Int} (ha : (va, A) ∈ G) (hb : (vb, A) ∈ G) (hl : A.length ≤ 1000) :
    Calls Tryd.prog 29 #[va, vb] W fun e w' => e = .returned (.bool true) ∧ W = w' :=
  same_yes va vb A W ((h.lw.getG ha).reads (by omega)) ((h.lw.getG hb).reads (by omega))
theorem Mw.awake (h : Mw w0 W b gp gq s l p K N K2 N2 G M) :
    Calls Tryd.prog 10 #[] W fun e w' => e = .returned (.bool true) ∧ Below b w0 w' :=
  (awake9_any W h.lw.st.wh).mono fun e w' ⟨h1, h2⟩ => ⟨h1, h.lw.st.be.trans (h2.mono (by have := h.lw.sz; omega))⟩
end
/-- What a loop keeps that gathers random numbers: all that was there but the dice, and the list that grows. -/
structure Kr (wo W : World) (b : Nat) (s : Value) (l : List Int) (u : Value) (RR : List (List Int)) : Prop where
  but : But b wo W
  di : DiceAt W b s l
  gi : GathI W wo.heap.size u RR
section
variable {wo W W' : World} {b : Nat} {s u : Value} {l : List Int} {RR : List (List Int)}
theorem Kr.below (h : Kr wo W b s l u RR) (k : Below W.heap.size W W') : Kr wo W' b s l u RR :=
  ⟨h.but.above k h.but.size, h.di.below k h.di.size, h.gi.below k (Nat.le_refl _)⟩
theorem Kr.buts (h : Kr wo W b s l u RR) (hb : b < wo.heap.size) (k : But b W W') (hd : DiceAt W' b s l) : Kr wo W' b s l u RR :=
  ⟨h.but.trans k, hd, h.gi.but k hb⟩
end
end Go.Proofs.YtomnncainedjdaaDoor
