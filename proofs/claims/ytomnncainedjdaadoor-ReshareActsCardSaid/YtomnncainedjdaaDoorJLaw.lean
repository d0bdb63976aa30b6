
/- What the statements of layer 8 keep in memory, and each call in its terms. -/
import Derived.Test.YtomnncainedjdaaDoorJAwk
import Derived.Test.YtomnncainedjdaaDoorJSum
import Derived.Test.YtomnncainedjdaaDoorHDlt
namespace Go.Proofs.YtomnncainedjdaaDoor
open Go.RowKit Go.Sort
open Num
set_option linter.unusedVariables false

/-- The dice, the plan and the table; some lists of numbers and of shares of the call's own. -/
structure Lw (w0 W : World) (b gp : Nat) (s : Value) (l : List Int) (p k n : Int) (G : List (Value × List Int)) (M : List (Value × List Shr)) : Prop where
  st : StL w0 W b gp s l p k n
  g : ∀ x ∈ G, Gath W (b + 1) x.1 x.2
  m : ∀ x ∈ M, SharesN W (b + 1) x.1 x.2
section
variable {w0 W W' : World} {b gp : Nat} {s : Value} {l : List Int} {p k n : Int} {G : List (Value × List Int)} {M : List (Value × List Shr)}
theorem Lw.below (h : Lw w0 W b gp s l p k n G M) (k' : Below W.heap.size W W') : Lw w0 W' b gp s l p k n G M :=
  ⟨h.st.below k', fun x hx => (h.g x hx).kept k' (Nat.le_refl _), fun x hx => (h.m x hx).below k' (Nat.le_refl _)⟩
theorem Lw.drew (h : Lw w0 W b gp s l p k n G M) : Lw w0 W.drew b gp s l p k n G M := h.below (Below.refl _ _).drew
theorem Lw.but (h : Lw w0 W b gp s l p k n G M) (k' : But b W W') (hd : DiceAt W' b s l) : Lw w0 W' b gp s l p k n G M :=
  ⟨h.st.but k' hd, fun x hx => (h.g x hx).but k' (Nat.lt_succ_self b), fun x hx => (h.m x hx).but k' (Nat.lt_succ_self b)⟩
theorem Lw.addG (h : Lw w0 W b gp s l p k n G M) {v : Value} {z : List Int} {B : Nat} (hg : Gath W B v z) (hB : b + 1 ≤ B) : Lw w0 W b gp s l p k n ((v, z) :: G) M :=
  ⟨h.st, fun x hx => by
    rcases List.mem_cons.1 hx with rfl | hx
    · exact hg.mono hB
    · exact h.g x hx, h.m⟩
theorem Lw.addM (h : Lw w0 W b gp s l p k n G M) {v : Value} {L : List Shr} {B : Nat} (hg : SharesN W B v L) (hB : b + 1 ≤ B) : Lw w0 W b gp s l p k n G ((v, L) :: M) :=
  ⟨h.st, h.g, fun x hx => by
    rcases List.mem_cons.1 hx with rfl | hx
    · exact hg.mono hB
    · exact h.m x hx⟩
theorem Lw.sz (h : Lw w0 W b gp s l p k n G M) : b + 1 ≤ W.heap.size := by have := h.st.lt; have := h.st.sz; omega
theorem Lw.cells (h : Lw w0 W b gp s l p k n G M) : W.cell? ⟨gp, 0, none⟩ = some (.int .i64 p) ∧ W.cell? ⟨gp, 1, none⟩ = some (.int .i64 k) ∧ W.cell? ⟨gp, 2, none⟩ = some (.int .i64 n) := ⟨h.st.pl.c0, h.st.pl.c1, h.st.pl.c2⟩
theorem Lw.getG (h : Lw w0 W b gp s l p k n G M) {v : Value} {z : List Int} (hx : (v, z) ∈ G) : Gath W (b + 1) v z := h.g _ hx
theorem Lw.getM (h : Lw w0 W b gp s l p k n G M) {v : Value} {L : List Shr} (hx : (v, L) ∈ M) : SharesN W (b + 1) v L := h.m _ hx
end
/-- What is known of a plan. -/
structure Pf (p : Int) (K N : Nat) : Prop where
  prm : PrmI p
  p2 : p ≤ 1073741824
  pl : planB p ((K : Int) + 1) (N : Int) = true
  kn : K + 1 ≤ N ∧ N ≤ 7
  np : (N : Int) < p
theorem Pf.p1 {p : Int} {K N : Nat} (h : Pf p K N) : 1 ≤ p := by have := h.prm.1; omega
theorem Pf.wf {p : Int} {K N : Nat} (h : Pf p K N) : (Lit.int .i64 p).wf = true := wf_small h.p1 h.p2
section
variable {w0 W : World} {b gp : Nat} {s : Value} {l : List Int} {p : Int} {K N : Nat} {G : List (Value × List Int)} {M : List (Value × List Shr)}
theorem Lw.dealt (h : Lw w0 W b gp s l p ((K : Int) + 1) (N : Int) G M) (q : Pf p K N) (most : Nat) (hm : 1 ≤ most ∧ most ≤ 4) :
    Calls Tryd.prog 16 #[.pointer (some ⟨b, 0, none⟩), .agg #[.int .i64 p, .int .i64 ((K : Int) + 1), .int .i64 (N : Int)], .int .i64 (most : Int)] W fun e w' => ∃ v1 v2 S R, e = .returned (.tuple #[v1, v2]) ∧ 1 ≤ S.length ∧ S.length ≤ most ∧ Els p S ∧ Lw w0 w' b gp s l p ((K : Int) + 1) (N : Int) ((v1, S) :: G) ((v2, rowL N (dealV p K S R)) :: M) :=
  (dealt_all b s l p K N most W h.st.di q.prm q.p2 q.pl q.kn hm).mono fun e w' ⟨v1, v2, S, R, h1, h2, h3, h4, h5, h6, h7, h8⟩ =>
    ⟨v1, v2, S, R, h1, h2, h3, h4, ((h.but h8 h7).addG h5 h.sz).addM h6 h.sz⟩
theorem Lw.elements (h : Lw w0 W b gp s l p ((K : Int) + 1) (N : Int) G M) (q : Pf p K N) (c : Nat) (hc : c ≤ 1000000) :
    Calls Tryd.prog 17 #[.pointer (some ⟨b, 0, none⟩), .int .i64 p, .int .i64 (c : Int)] W fun e w' => ∃ v zs, e = .returned v ∧ zs.length = c ∧ Els p zs ∧ Lw w0 w' b gp s l p ((K : Int) + 1) (N : Int) ((v, zs) :: G) M :=
  (dice_elements b s l p c W h.st.di q.p1 q.p2 hc).mono fun e w' ⟨v, zs, h1, h2, h3, h4, h5, h6⟩ => ⟨v, zs, h1, h2, h3, (h.but h6 h5).addG h4 h.sz⟩
theorem Lw.random (h : Lw w0 W b gp s l p ((K : Int) + 1) (N : Int) G M) (q : Pf p K N) {c Z : Nat} (hZ : c * K = Z) (hc : c ≤ 1000000) :
    Calls Tryd.prog 33 #[.agg #[.int .i64 p, .int .i64 ((K : Int) + 1), .int .i64 (N : Int)], .int .i64 (c : Int)] W fun e w' => e = .returned (.int .i64 (Z : Int)) ∧ Lw w0 w' b gp s l p ((K : Int) + 1) (N : Int) G M := by
  have hr := ref6_random p ((K : Int) + 1) (N : Int) c W (by omega) (by have := q.kn; omega) hc
  rw [show (c : Int) * ((K : Int) + 1 - 1) = (Z : Int) by rw [← hZ, Int.add_sub_cancel]; push_cast; rfl] at hr
  exact hr.mono fun e w' ⟨h1, h2⟩ => ⟨h1, h.below h2⟩
theorem Lw.deal (h : Lw w0 W b gp s l p ((K : Int) + 1) (N : Int) G M) (q : Pf p K N) {Z : Nat} {vs vr : Value} {S R : List Int} (hs : (vs, S) ∈ G) (hS : S.length ≤ 100) (hES : Els p S) (hZ : S.length * K = Z) (hr : (vr, R) ∈ G) (hR : R.length = Z) (hE : Els p R) :
    Calls Tryd.prog 32 #[.agg #[.int .i64 p, .int .i64 ((K : Int) + 1), .int .i64 (N : Int)], vs, vr] W fun e w' => ∃ v, e = .returned (.tuple #[v, .int .i64 0]) ∧ Lw w0 w' b gp s l p ((K : Int) + 1) (N : Int) G ((v, rowL N (dealV p K S R)) :: M) := by
  have hz : Z ≤ 100 * 7 := by rw [← hZ]; exact Nat.mul_le_mul hS (by have := q.kn; omega)
  obtain ⟨a5, c5, rfl⟩ := (h.getG hs).shape
  have hx := ref6_deal_ok p ((K : Int) + 1) K N a5 S.length c5 S R vr W q.wf (by omega) q.pl ((h.getG hs).reads (by omega)) rfl ((h.getG hr).slc (by omega)) (by omega) (elB_of q.prm q.p2 hES) (elB_of q.prm q.p2 hE) (by rw [hR, hZ])
  exact hx.mono fun e w' ⟨v, h1, h2, h3⟩ => ⟨v, h1, (h.below h3).addM (h2.sharesN (by rw [dealF_len]; have := q.kn; omega)) h.sz⟩
theorem Lw.fits (h : Lw w0 W b gp s l p ((K : Int) + 1) (N : Int) G M) (q : Pf p K N) {z : Value} {L : List Shr} (hz : (z, L) ∈ M) {y : Bool} (hy : fitB p ((K : Int) + 1) (N : Int) L = y) :
    Calls Tryd.prog 27 #[.agg #[.int .i64 p, .int .i64 ((K : Int) + 1), .int .i64 (N : Int)], z] W fun e w' => e = .returned (.bool y) ∧ Lw w0 w' b gp s l p ((K : Int) + 1) (N : Int) G M := by
  have hx := ref6_fits p ((K : Int) + 1) (N : Int) z L W q.wf (h.getM hz).shares
  rw [hy] at hx
  exact hx.mono fun e w' ⟨h1, h2⟩ => ⟨h1, h.below h2⟩
theorem Lw.combine (h : Lw w0 W b gp s l p ((K : Int) + 1) (N : Int) G M) (q : Pf p K N) {z : Value} {L : List Shr} {S : List Int} (hz : (z, L) ∈ M) (hS : combE p ((K : Int) + 1) (N : Int) L = 0 ∧ combL p ((K : Int) + 1) (N : Int) L = S) :
    Calls Tryd.prog 28 #[.agg #[.int .i64 p, .int .i64 ((K : Int) + 1), .int .i64 (N : Int)], z] W fun e w' => ∃ v', e = .returned (.tuple #[v', .int .i64 0]) ∧ Lw w0 w' b gp s l p ((K : Int) + 1) (N : Int) ((v', S) :: G) M := by
  have hx := ref6_combine_any p ((K : Int) + 1) (N : Int) z L W q.wf (h.getM hz).shares
  rw [hS.1, hS.2] at hx
  exact hx.mono fun e w' ⟨v', h1, h2, h3⟩ => ⟨v', h1, (h.below h3).addG h2 h.sz⟩
theorem Lw.same (h : Lw w0 W b gp s l p ((K : Int) + 1) (N : Int) G M) {va vb : Value} {A : List Int} (ha : (va, A) ∈ G) (hb : (vb, A) ∈ G) (hl : A.length ≤ 1000) :
    Calls Tryd.prog 29 #[va, vb] W fun e w' => e = .returned (.bool true) ∧ W = w' :=
  same_yes va vb A W ((h.getG ha).reads (by omega)) ((h.getG hb).reads (by omega))
theorem Lw.turn (h : Lw w0 W b gp s l p ((K : Int) + 1) (N : Int) G M) (q : Pf p K N) {z : Value} {V : Int → List Int} (hz : (z, rowL N V) ∈ M) (hm : ∀ x, (V x).length ≤ 100) (least : Nat) (hle : least ≤ 1000) :
    Calls Tryd.prog 22 #[.pointer (some ⟨b, 0, none⟩), z, .int .i64 (least : Int)] W fun e w' => ∃ (v' : Value) (L2 : List Shr) (m : Nat), e = .returned v' ∧ L2.Perm (rowL N V) ∧ min least N ≤ m ∧ m ≤ N ∧ Lw w0 w' b gp s l p ((K : Int) + 1) (N : Int) G ((v', L2.take m) :: M) := by
  have hx := turn_any b s l z (rowL N V) least W h.st.di (h.getM hz).shares (fun x hx => by
    obtain ⟨j, hj, rfl⟩ := rowL_mem hx
    have := hm ((j + 1 : Nat) : Int)
    show (V _).length ≤ _
    omega) (by rw [rowL_len]; have := q.kn; omega) hle
  rw [rowL_len] at hx
  exact hx.mono fun e w' ⟨v', L2, m, h1, h2, h3, h4, h5, h6, h7⟩ => ⟨v', L2, m, h1, h2, h3, h4, (h.but h7 h6).addM h5 h.sz⟩
theorem Lw.next (h : Lw w0 W b gp s l p ((K : Int) + 1) (N : Int) G M) (n : Int) (hn : 1 ≤ n) (hn2 : n ≤ 4611686018427387904) :
    Calls Tryd.prog 14 #[.pointer (some ⟨b, 0, none⟩), .int .i64 n] W fun e w' => ∃ r : Int, 0 ≤ r ∧ r < n ∧ e = .returned (.int .i64 r) ∧ Lw w0 w' b gp s l p ((K : Int) + 1) (N : Int) G M :=
  (next_any b s l n W h.st.di hn hn2).mono fun e w' ⟨r, h1, h2, h3, h4, h5⟩ => ⟨r, h1, h2, h3, h.but h5 h4⟩
end
end Go.Proofs.YtomnncainedjdaaDoor
