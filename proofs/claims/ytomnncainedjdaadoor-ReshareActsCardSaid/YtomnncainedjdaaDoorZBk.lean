
/- What ReshareBack keeps in memory: two plans, of which one is written to, and a list that changes. -/
import Derived.Test.YtomnncainedjdaaDoorZLaw
namespace Go.Proofs.YtomnncainedjdaaDoor
open Go.RowKit Go.Sort
open Num
set_option linter.unusedVariables false

/-- A plan in memory that may be written to. -/
def PlanZ (w : World) (g : Nat) (p k n : Int) : Prop := ∃ t, w.heap[g]? = some (.cells #[.int .i64 p, .int .i64 k, .int .i64 n] t (0, 0))
theorem planZ_new (w : World) (p k n : Int) (t : TypeId) : PlanZ (w.alloc (.cells #[.int .i64 p, .int .i64 k, .int .i64 n] t)) w.heap.size p k n := ⟨t, heap_alloc_new w _⟩
section
variable {w w' : World} {g : Nat} {p k n : Int}
theorem PlanZ.at' (h : PlanZ w g p k n) : PlanAt w g p k n := by
  obtain ⟨t, h⟩ := h
  exact ⟨t, (0, 0), h⟩
theorem PlanZ.lt (h : PlanZ w g p k n) : g < w.heap.size := h.at'.lt
theorem PlanZ.fr (h : PlanZ w g p k n) (j : Nat) : w.frozen? ⟨g, j, none⟩ = false := by
  obtain ⟨t, h⟩ := h
  exact frozen_of_row w g j _ t h
theorem PlanZ.below {B : Nat} (h : PlanZ w g p k n) (hB : g < B) (b : Below B w w') : PlanZ w' g p k n := by
  obtain ⟨t, h⟩ := h
  exact ⟨t, by rw [b.block _ hB]; exact h⟩
theorem PlanZ.but {b : Nat} (h : PlanZ w g p k n) (hb : But b w w') (hg : g ≠ b) : PlanZ w' g p k n := by
  have hl := h.lt
  obtain ⟨t, h⟩ := h
  exact ⟨t, by rw [hb.block g hl hg]; exact h⟩
theorem PlanZ.set0 (h : PlanZ w g p k n) (x : Int) : PlanZ (w.setCell ⟨g, 0, none⟩ (.int .i64 x)) g x k n := by
  obtain ⟨t, h⟩ := h
  exact ⟨t, by rw [heap_setCell_same w g 0 _ t _ h]; rfl⟩
theorem PlanZ.set1 (h : PlanZ w g p k n) (x : Int) : PlanZ (w.setCell ⟨g, 1, none⟩ (.int .i64 x)) g p x n := by
  obtain ⟨t, h⟩ := h
  exact ⟨t, by rw [heap_setCell_same w g 1 _ t _ h]; rfl⟩
theorem PlanZ.set2 (h : PlanZ w g p k n) (x : Int) : PlanZ (w.setCell ⟨g, 2, none⟩ (.int .i64 x)) g p k x := by
  obtain ⟨t, h⟩ := h
  exact ⟨t, by rw [heap_setCell_same w g 2 _ t _ h]; rfl⟩
/-- What a plan becomes that another is written into. -/
def planSet (w : World) (g : Nat) (p k n : Int) : World := ((w.setCell ⟨g, 0, none⟩ (.int .i64 p)).setCell ⟨g, 1, none⟩ (.int .i64 k)).setCell ⟨g, 2, none⟩ (.int .i64 n)
theorem PlanZ.write (h : PlanZ w g p k n) (x y z : Int) : PlanZ (planSet w g x y z) g x y z ∧ But g w (planSet w g x y z) ∧ w.frozen? ⟨g, 0, none⟩ = false ∧ (w.setCell ⟨g, 0, none⟩ (.int .i64 x)).frozen? ⟨g, 1, none⟩ = false ∧ ((w.setCell ⟨g, 0, none⟩ (.int .i64 x)).setCell ⟨g, 1, none⟩ (.int .i64 y)).frozen? ⟨g, 2, none⟩ = false :=
  ⟨((h.set0 x).set1 y).set2 z, ((But.set _ ⟨g, 0, none⟩ _).trans (But.set _ ⟨g, 1, none⟩ _)).trans (But.set _ ⟨g, 2, none⟩ _), h.fr 0, (h.set0 x).fr 1, ((h.set0 x).set1 y).fr 2⟩
end
structure Bk (w0 W : World) (g gp gh : Nat) (s : Value) (l : List Int) (p : Int) (K N Ka Na : Nat) (vS : Value) (S : List Int) (vL : Value) (V : Int → List Int) : Prop where
  st : StL w0 W g gp s l p ((K : Int) + 1) (N : Int)
  ap : PlanZ W gh p ((Ka : Int) + 1) (Na : Int)
  lt : gp < gh
  sS : Gath W (g + 1) vS S
  nS : ∀ q, vS.ownBlock = some q → q ≠ gh
  sL : SharesP W (fun q => g < q ∧ q ≠ gh) vL (rowL Na V)
section
variable {w0 W W' : World} {g gp gh : Nat} {s : Value} {l : List Int} {p : Int} {K N Ka Na Kt Nt : Nat} {vS : Value} {S : List Int} {vL : Value} {V : Int → List Int}
theorem Bk.below (h : Bk w0 W g gp gh s l p K N Ka Na vS S vL V) (k : Below W.heap.size W W') : Bk w0 W' g gp gh s l p K N Ka Na vS S vL V :=
  ⟨h.st.below k, h.ap.below h.ap.lt k, h.lt, h.sS.kept k (Nat.le_refl _), h.nS, h.sL.kept (grownBy_of_below k (Nat.le_refl _)) (fun q hq _ => ⟨fun e => (nomatch e), hq⟩)⟩
theorem Bk.but (h : Bk w0 W g gp gh s l p K N Ka Na vS S vL V) (k : But g W W') (hd : DiceAt W' g s l) : Bk w0 W' g gp gh s l p K N Ka Na vS S vL V :=
  ⟨h.st.but k hd, h.ap.but k (by have := h.st.lt; have := h.lt; omega), h.lt, h.sS.but k (Nat.lt_succ_self g), h.nS, h.sL.kept k.grown (fun q hq _ => ⟨fun e => by simp at e; have := hq.1; omega, hq⟩)⟩
/-- The plan and the list give way to others. -/
theorem Bk.write (h : Bk w0 W g gp gh s l p K N Ka Na vS S vL V) (k : But gh W W') (hp : PlanZ W' gh p ((Kt : Int) + 1) (Nt : Int)) {v : Value} {U : Int → List Int} {B : Nat} (hv : SharesN W B v (rowL Nt U)) (hB : gh < B) : Bk w0 W' g gp gh s l p K N Kt Nt vS S v U := by
  have h1 := h.lt
  have h2 := h.st.lt
  have h3 := h.ap.lt
  have h4 := h.st.ta
  have b : Below gh W W' := k.below (Nat.le_refl _) (by omega)
  exact ⟨⟨h.st.di.below b (by omega), h.st.pl.below h1 b, h.st.wh.below (by omega) b, h.st.be.trans (b.mono (by omega)), h2, Nat.lt_of_lt_of_le h.st.sz k.size, h4⟩, hp, h1,
    gath_kept_row h.sS k.grown (fun q hq e => h.nS q hq (by simpa using e.symm)), h.nS,
    (hv.toP (P := fun q => gh < q) (fun q hq _ => by omega)).kept k.grown (fun q hq _ => ⟨fun e => by simp at e; omega, ⟨by omega, by omega⟩⟩)⟩
theorem Bk.start (h : Lw w0 W g gp s l p ((K : Int) + 1) (N : Int) [(vS, S)] [(vL, rowL N V)]) (t : TypeId) : Bk w0 (W.alloc (.cells #[.int .i64 p, .int .i64 ((K : Int) + 1), .int .i64 (N : Int)] t)) g gp W.heap.size s l p K N K N vS S vL V := by
  have hal : Below W.heap.size W (W.alloc (.cells #[.int .i64 p, .int .i64 ((K : Int) + 1), .int .i64 (N : Int)] t)) := (Below.refl _ _).alloc (Nat.le_refl _) _
  have hg := h.getG (v := vS) (z := S) (by simp)
  exact ⟨h.st.below hal, planZ_new _ _ _ _ _, h.st.sz, hg.kept hal (Nat.le_refl _), fun q hq => by have := (gath_lt hg q hq).2; omega,
    ((h.getM (v := vL) (L := rowL N V) (by simp)).toP (P := fun q => g < q ∧ q < W.heap.size) (fun q h1 h2 => ⟨by omega, h2⟩)).kept (grownBy_of_below hal (Nat.le_refl _)) (fun q hq _ => ⟨fun e => (nomatch e), ⟨hq.1, by have := hq.2; omega⟩⟩)⟩
theorem Bk.move (h : Bk w0 W g gp gh s l p K N Ka Na vS S vL V) (q : Pf p Ka Na) (q2 : Pf p Kt Nt) {u : Value} {RR : List (List Int)} {f : Nat → List Int} (hS : SecV p (Ka + 1) S f V) (hm : S.length ≤ 2) (hu : ListsI W u RR) (hl : Ka + 1 ≤ RR.length) (hr : ∀ r ∈ RR, Els p r ∧ r.length = S.length * Kt) :
    Calls Tryd.prog 25 #[.agg #[.int .i64 p, .int .i64 ((Ka : Int) + 1), .int .i64 (Na : Int)], .agg #[.int .i64 p, .int .i64 ((Kt : Int) + 1), .int .i64 (Nt : Int)], vL, u] W fun e w' => ∃ v' f' U, e = .returned (.tuple #[v', .int .i64 0]) ∧ SecV p (Kt + 1) S f' U ∧ SharesN w' W.heap.size v' (rowL Nt U) ∧ Below W.heap.size W w' := by
  obtain ⟨f', U, h1, h2, h3⟩ := hS.moved (m := Na) q.pl q2.pl (by omega) (List.Perm.refl _) q.kn.1 (Nat.le_refl _) hl hr
  rw [List.take_of_length_le (by rw [rowL_len]; exact Nat.le_refl _)] at h2 h3
  have hx := reshare_move p ((Ka : Int) + 1) (Na : Int) p ((Kt : Int) + 1) (Nt : Int) vL u (rowL Na V) RR W h.st.wh q.wf q.wf h.sL.shares hu (fun r hrr => by
    rw [(hr r hrr).2]
    have h1 : S.length * Kt ≤ 2 * 7 := Nat.mul_le_mul hm (by have := q2.kn; omega)
    omega)
  rw [h2, h3] at hx
  exact hx.mono fun e w' ⟨v', k1, k2, k3⟩ => ⟨v', f', U, k1, h1, k2, k3⟩
theorem Bk.awake (h : Bk w0 W g gp gh s l p K N Ka Na vS S vL V) :
    Calls Tryd.prog 10 #[] W fun e w' => e = .returned (.bool true) ∧ Below g w0 w' :=
  (awake9_any W h.st.wh).mono fun e w' ⟨h1, h2⟩ => ⟨h1, h.st.be.trans (h2.mono (by have := h.st.sz; have := h.st.lt; omega))⟩
theorem Bk.planCells (h : Bk w0 W g gp gh s l p K N Ka Na vS S vL V) : W.cell? ⟨gp, 0, none⟩ = some (.int .i64 p) ∧ W.cell? ⟨gp, 1, none⟩ = some (.int .i64 ((K : Int) + 1)) ∧ W.cell? ⟨gp, 2, none⟩ = some (.int .i64 (N : Int)) ∧ W.cell? ⟨gh, 0, none⟩ = some (.int .i64 p) ∧ W.cell? ⟨gh, 1, none⟩ = some (.int .i64 ((Ka : Int) + 1)) ∧ W.cell? ⟨gh, 2, none⟩ = some (.int .i64 (Na : Int)) :=
  ⟨h.st.pl.c0, h.st.pl.c1, h.st.pl.c2, h.ap.at'.c0, h.ap.at'.c1, h.ap.at'.c2⟩
end
end Go.Proofs.YtomnncainedjdaaDoor
