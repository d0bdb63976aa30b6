
/- What ReshareActs keeps in memory. -/
import Derived.Test.YtomnncainedjdaaDoorZQf
import Derived.Test.YtomnncainedjdaaDoorZLaw
import Derived.Test.YtomnncainedjdaaDoorHOdd
import Derived.Test.YtomnncainedjdaaDoorZGon
import Derived.Test.YtomnncainedjdaaDoorZGi
/-! What ReshareActs keeps in memory. -/
namespace Go.Proofs.YtomnncainedjdaaDoor
open Go.RowKit Go.Sort
open Num
set_option linter.unusedVariables false

/-- A list of shares of which only the size is known: from before the dice, or made since. -/
def LstV (w1 W : World) (g : Nat) (v : Value) : Prop := ∃ X : List Shr, (Shares w1 v X ∨ SharesN W (g + 1) v X) ∧ X.length ≤ 100 ∧ ∀ x ∈ X, x.2.length ≤ 1000
theorem LstV.but {w1 W W' : World} {g : Nat} {v : Value} (h : LstV w1 W g v) (k : But g W W') : LstV w1 W' g v := by
  obtain ⟨X, h1, h2, h3⟩ := h
  rcases h1 with h1 | h1
  · exact ⟨X, .inl h1, h2, h3⟩
  · exact ⟨X, .inr (h1.but k (Nat.lt_succ_self g)), h2, h3⟩
theorem LstV.ofN {w1 W : World} {g B : Nat} {v : Value} {X : List Shr} (h : SharesN W B v X) (hB : g + 1 ≤ B) (h2 : X.length ≤ 100) (h3 : ∀ x ∈ X, x.2.length ≤ 1000) : LstV w1 W g v := ⟨X, .inr (h.mono hB), h2, h3⟩
/-- The dice, the plan, another plan that may be anything, lists that are known, and lists of which only the size is known. -/
structure Rw (w1 W : World) (g gp gq : Nat) (s : Value) (l : List Int) (p : Int) (K N : Nat) (p2 k2 n2 : Int) (G : List (Value × List Int)) (M : List (Value × List Shr)) (VS : List Value) : Prop where
  lw : Lw w1 W g gp s l p ((K : Int) + 1) (N : Int) G M
  tp : PlanAt W gq p2 k2 n2
  gt : g < gq
  ls : ∀ v ∈ VS, LstV w1 W g v
  sz : w1.heap.size ≤ g
section
variable {w1 W W' : World} {g gp gq : Nat} {s : Value} {l : List Int} {p p2 k2 n2 : Int} {K N : Nat} {G : List (Value × List Int)} {M : List (Value × List Shr)} {VS : List Value}
theorem Rw.but (h : Rw w1 W g gp gq s l p K N p2 k2 n2 G M VS) (k : But g W W') (hd : DiceAt W' g s l) : Rw w1 W' g gp gq s l p K N p2 k2 n2 G M VS :=
  ⟨h.lw.but k hd, h.tp.but k (by have := h.gt; omega), h.gt, fun v hv => (h.ls v hv).but k, h.sz⟩
theorem Rw.below (h : Rw w1 W g gp gq s l p K N p2 k2 n2 G M VS) (k : Below W.heap.size W W') : Rw w1 W' g gp gq s l p K N p2 k2 n2 G M VS :=
  h.but (But.of_below k (Nat.le_refl _)) (h.lw.st.di.below k h.lw.st.di.size)
theorem Rw.drew (h : Rw w1 W g gp gq s l p K N p2 k2 n2 G M VS) : Rw w1 W.drew g gp gq s l p K N p2 k2 n2 G M VS := h.below (Below.refl _ _).drew
theorem Rw.addG (h : Rw w1 W g gp gq s l p K N p2 k2 n2 G M VS) {v : Value} {z : List Int} {B : Nat} (hg : Gath W B v z) (hB : g + 1 ≤ B) : Rw w1 W g gp gq s l p K N p2 k2 n2 ((v, z) :: G) M VS := ⟨h.lw.addG hg hB, h.tp, h.gt, h.ls, h.sz⟩
theorem Rw.addM (h : Rw w1 W g gp gq s l p K N p2 k2 n2 G M VS) {v : Value} {L : List Shr} {B : Nat} (hg : SharesN W B v L) (hB : g + 1 ≤ B) : Rw w1 W g gp gq s l p K N p2 k2 n2 G ((v, L) :: M) VS := ⟨h.lw.addM hg hB, h.tp, h.gt, h.ls, h.sz⟩
theorem Rw.addK (h : Rw w1 W g gp gq s l p K N p2 k2 n2 G M VS) {v : Value} (hv : LstV w1 W g v) : Rw w1 W g gp gq s l p K N p2 k2 n2 G M (v :: VS) :=
  ⟨h.lw, h.tp, h.gt, fun x hx => by
    rcases List.mem_cons.1 hx with rfl | hx
    · exact hv
    · exact h.ls x hx, h.sz⟩
theorem Rw.get (h : Rw w1 W g gp gq s l p K N p2 k2 n2 G M VS) {v : Value} (hv : v ∈ VS) : ∃ X : List Shr, Shares W v X ∧ X.length ≤ 100 ∧ ∀ x ∈ X, x.2.length ≤ 1000 := by
  obtain ⟨X, h1, h2, h3⟩ := h.ls v hv
  rcases h1 with h1 | h1
  · exact ⟨X, h1.below h.sz h.lw.st.be, h2, h3⟩
  · exact ⟨X, h1.shares, h2, h3⟩
theorem Rw.cells (h : Rw w1 W g gp gq s l p K N p2 k2 n2 G M VS) : W.cell? ⟨gp, 0, none⟩ = some (.int .i64 p) ∧ W.cell? ⟨gp, 1, none⟩ = some (.int .i64 ((K : Int) + 1)) ∧ W.cell? ⟨gp, 2, none⟩ = some (.int .i64 (N : Int)) ∧ W.cell? ⟨gq, 0, none⟩ = some (.int .i64 p2) ∧ W.cell? ⟨gq, 1, none⟩ = some (.int .i64 k2) ∧ W.cell? ⟨gq, 2, none⟩ = some (.int .i64 n2) :=
  ⟨h.lw.cells.1, h.lw.cells.2.1, h.lw.cells.2.2, h.tp.c0, h.tp.c1, h.tp.c2⟩
theorem Rw.dealt (h : Rw w1 W g gp gq s l p K N p2 k2 n2 G M VS) (q : Pf p K N) (most : Nat) (hm : 1 ≤ most ∧ most ≤ 4) :
    Calls Tryd.prog 16 #[.pointer (some ⟨g, 0, none⟩), .agg #[.int .i64 p, .int .i64 ((K : Int) + 1), .int .i64 (N : Int)], .int .i64 (most : Int)] W fun e w' => ∃ v1 v2 S R, e = .returned (.tuple #[v1, v2]) ∧ 1 ≤ S.length ∧ S.length ≤ most ∧ Els p S ∧ Rw w1 w' g gp gq s l p K N p2 k2 n2 ((v1, S) :: G) ((v2, rowL N (dealV p K S R)) :: M) VS :=
  (dealt_all g s l p K N most W h.lw.st.di q.prm q.p2 q.pl q.kn hm).mono fun e w' ⟨v1, v2, S, R, h1, h2, h3, h4, h5, h6, h7, h8⟩ =>
    ⟨v1, v2, S, R, h1, h2, h3, h4, ((h.but h8 h7).addG h5 h.lw.sz).addM h6 h.lw.sz⟩
theorem Rw.elements (h : Rw w1 W g gp gq s l p K N p2 k2 n2 G M VS) (q : Pf p K N) (c : Nat) (hc : c ≤ 1000000) :
    Calls Tryd.prog 17 #[.pointer (some ⟨g, 0, none⟩), .int .i64 p, .int .i64 (c : Int)] W fun e w' => ∃ v zs, e = .returned v ∧ zs.length = c ∧ Els p zs ∧ Rw w1 w' g gp gq s l p K N p2 k2 n2 ((v, zs) :: G) M VS :=
  (dice_elements g s l p c W h.lw.st.di q.p1 q.p2 hc).mono fun e w' ⟨v, zs, h1, h2, h3, h4, h5, h6⟩ => ⟨v, zs, h1, h2, h3, (h.but h6 h5).addG h4 h.lw.sz⟩
theorem Rw.odd (h : Rw w1 W g gp gq s l p K N p2 k2 n2 G M VS) {v : Value} {X : List Shr} (hX : Shares W v X) (hl : X.length ≤ 90) (hm : ∀ x ∈ X, x.2.length ≤ 900) :
    Calls Tryd.prog 18 #[.pointer (some ⟨g, 0, none⟩), v] W fun e w' => ∃ v', e = .returned v' ∧ Rw w1 w' g gp gq s l p K N p2 k2 n2 G M (v' :: VS) :=
  (odd_anyM 900 (by omega) g s l v X W h.lw.st.di hX hm (by omega)).mono fun e w' ⟨v', h1, L', h2, h3, h4, h5, h6⟩ =>
    ⟨v', h1, (h.but h6 h5).addK (LstV.ofN h2 h.lw.sz (by omega) (fun x hx => Nat.le_trans (h4 x hx) (by omega)))⟩
theorem Rw.oddO (h : Rw w1 W g gp gq s l p K N p2 k2 n2 G M VS) {v : Value} {X : List Shr} (hX : Shares W v X) (hl : X.length ≤ 90) (hm : ∀ x ∈ X, x.2.length ≤ 900) :
    Calls Tryd.prog 18 #[.pointer (some ⟨g, 0, none⟩), v] W fun e w' => ∃ v' L', e = .returned v' ∧ SharesO w' W.heap.size v' L' ∧ L'.length ≤ X.length + 1 ∧ (∀ x ∈ L', x.2.length ≤ 901) ∧ W.heap.size ≤ w'.heap.size ∧ Below w1.heap.size w1 w' ∧ (∀ W2, Below W.heap.size w' W2 → Rw w1 W2 g gp gq s l p K N p2 k2 n2 G M VS) :=
  (odd_anyO 900 (by omega) g s l v X W h.lw.st.di hX hm (by omega)).mono fun e w' ⟨v', h1, L', h2, h3, h4, h5, h6⟩ => ⟨v', L', h1, h2, h3, h4, h6.size, ((h.but h6 h5).lw.st.be).mono h.sz, fun W2 k => h.but (h6.above k (Nat.le_refl _)) (h5.below k h.lw.st.di.size)⟩
theorem Rw.turn (h : Rw w1 W g gp gq s l p K N p2 k2 n2 G M VS) {v : Value} {V : Int → List Int} (hv : (v, rowL N V) ∈ M) (hN : N ≤ 7) (hm : ∀ x, (V x).length ≤ 100) :
    Calls Tryd.prog 22 #[.pointer (some ⟨g, 0, none⟩), v, .int .i64 0] W fun e w' => ∃ (v' : Value) (L2 : List Shr) (m : Nat), e = .returned v' ∧ L2.Perm (rowL N V) ∧ m ≤ N ∧ Rw w1 w' g gp gq s l p K N p2 k2 n2 G ((v', L2.take m) :: M) VS := by
  have hx := turn_any g s l v (rowL N V) 0 W h.lw.st.di (h.lw.getM hv).shares (fun x hx => by
    obtain ⟨j, hj, rfl⟩ := rowL_mem hx
    have := hm ((j + 1 : Nat) : Int)
    show (V _).length ≤ _
    omega) (by rw [rowL_len]; omega) (by omega)
  rw [rowL_len] at hx
  exact hx.mono fun e w' ⟨v', L2, m, h1, h2, h3, h4, h5, h6, h7⟩ => ⟨v', L2, m, h1, h2, h4, (h.but h7 h6).addM h5 h.lw.sz⟩
theorem Rw.awake (h : Rw w1 W g gp gq s l p K N p2 k2 n2 G M VS) :
    Calls Tryd.prog 10 #[] W fun e w' => e = .returned (.bool true) ∧ Below g w1 w' :=
  (awake9_any W h.lw.st.wh).mono fun e w' ⟨h1, h2⟩ => ⟨h1, h.lw.st.be.trans (h2.mono (by have := h.lw.sz; omega))⟩
/-- Both sides' Split, for a share of small size and any list of random numbers. -/
theorem Rw.split2 (h : Rw w1 W g gp gq s l p K N p2 k2 n2 G M VS) (q : Pf p K N) (hp2 : (Lit.int .i64 p2).wf = true) (hh : Int) {v vr : Value} {x r : List Int} (hv : Ints W v x) (hr : Slc W vr r) (hl : x.length ≤ 1000) (hrb : r.length ≤ 1000000) :
    Calls Tryd.prog 19 #[.agg #[.int .i64 p, .int .i64 ((K : Int) + 1), .int .i64 (N : Int)], .agg #[.int .i64 p2, .int .i64 k2, .int .i64 n2], .agg #[.int .i64 hh, v], vr] W fun e w' => ∃ v', e = .returned (.tuple #[v', .int .i64 (splitE p ((K : Int) + 1) (N : Int) p2 k2 n2 (hh, x) r)]) ∧ SharesN w' W.heap.size v' (splitR p ((K : Int) + 1) (N : Int) p2 k2 n2 (hh, x) r) ∧ Below W.heap.size W w' ∧
      Calls Tryd.prog 20 #[.agg #[.int .i64 p, .int .i64 ((K : Int) + 1), .int .i64 (N : Int)], .agg #[.int .i64 p2, .int .i64 k2, .int .i64 n2], .agg #[.int .i64 hh, v], vr] w' fun e w'' => ∃ v'', e = .returned (.tuple #[v'', .int .i64 (splitE p ((K : Int) + 1) (N : Int) p2 k2 n2 (hh, x) r)]) ∧ GathS w'' w'.heap.size v'' (splitR p ((K : Int) + 1) (N : Int) p2 k2 n2 (hh, x) r) ∧ Below w'.heap.size w' w'' :=
  (reshare_split p ((K : Int) + 1) (N : Int) p2 k2 n2 hh v vr x r W h.lw.st.wh q.wf hp2 hv hr (by omega) hrb).mono fun e w' ⟨v', h1, h2, h3⟩ =>
    ⟨v', h1, h2, h3, ref9_split p ((K : Int) + 1) (N : Int) p2 k2 n2 hh v vr x r w' (h.below h3).lw.st.wh q.wf hp2 (hv.below (Nat.le_refl _) h3) (hr.below (Nat.le_refl _) h3) (by omega)⟩
end
end Go.Proofs.YtomnncainedjdaaDoor
/-! What ReshareActs keeps while holders, parts and lists are gathered. -/
namespace Go.Proofs.YtomnncainedjdaaDoor
open Go.RowKit Go.Sort
open Num
set_option linter.unusedVariables false
set_option linter.unusedSimpArgs false

/-- A growing list of holders and a growing list of their parts. -/
structure Hw (wo W : World) (g : Nat) (s : Value) (l : List Int) (vh : Value) (zs : List Int) (vp : Value) (L : List Shr) (P : Nat → Prop) : Prop where
  but : But g wo W
  di : DiceAt W g s l
  fr : Gath W wo.heap.size vh zs
  pt : GathP W wo.heap.size P vp L
  pb : ∀ r, P r → wo.heap.size ≤ r ∧ r < W.heap.size
  hf : ∀ r, vh.ownBlock = some r → ¬ P r ∧ vp.ownBlock ≠ some r
  pf : ∀ r, vp.ownBlock = some r → ¬ P r
  gl : g < wo.heap.size
section
variable {wo W W' : World} {g : Nat} {s : Value} {l : List Int} {vh vp : Value} {zs : List Int} {L : List Shr} {P : Nat → Prop}
theorem hw_start (wo : World) (g : Nat) (s : Value) (l : List Int) (hd : DiceAt wo g s l) : Hw wo wo g s l (.slice none 0 0) [] (.slice none 0 0) [] (fun _ => False) :=
  ⟨But.refl _ _, hd, gath_nil _ _, gathP_nil _ _ _, fun r h => h.elim, fun r h => by simp [Value.ownBlock] at h, fun r h => by simp [Value.ownBlock] at h, hd.size⟩
/-- Memory that grows above, or a store at the dice. -/
theorem Hw.kept (h : Hw wo W g s l vh zs vp L P) {r : Nat} (k : W.grownBy W' (some r)) (hr : r < wo.heap.size ∨ W.heap.size ≤ r) (hb : But g wo W') (hd : DiceAt W' g s l) : Hw wo W' g s l vh zs vp L P := by
  refine ⟨hb, hd, gath_kept_row h.fr k fun q hq e => ?_, h.pt.kept k (fun q hq e => ?_) (fun q hq e => ?_) (fun q hq => hq), fun q hq => ⟨(h.pb q hq).1, Nat.lt_of_lt_of_le (h.pb q hq).2 k.size⟩, h.hf, h.pf, h.gl⟩
  · have h1 := gath_lt h.fr q hq
    have := Option.some.inj e
    rcases hr with h | h <;> omega
  · have h1 := h.pt.lt q hq
    have := Option.some.inj e
    rcases hr with h | h <;> omega
  · have h1 := h.pb q hq
    have := Option.some.inj e
    rcases hr with h | h <;> omega
theorem Hw.below (h : Hw wo W g s l vh zs vp L P) (k : Below W.heap.size W W') : Hw wo W' g s l vh zs vp L P :=
  h.kept (r := W.heap.size) (But.of_below k (Nat.le_refl _)).grown (.inr (Nat.le_refl _)) (h.but.above k h.but.size) (h.di.below k h.di.size)
theorem Hw.buts (h : Hw wo W g s l vh zs vp L P) (k : But g W W') (hd : DiceAt W' g s l) : Hw wo W' g s l vh zs vp L P :=
  h.kept k.grown (.inl h.gl) (h.but.trans k) hd
/-- What has been laid since may be values, too. -/
theorem Hw.wide (h : Hw wo W g s l vh zs vp L P) (k : Below W.heap.size W W') : Hw wo W' g s l vh zs vp L (fun x => P x ∨ (W.heap.size ≤ x ∧ x < W'.heap.size)) := by
  have h' := h.below k
  have hB : wo.heap.size ≤ W.heap.size := h.but.size
  refine ⟨h'.but, h'.di, h'.fr, ?_, fun r hr => ?_, fun r hr => ⟨fun e => ?_, (h.hf r hr).2⟩, fun r hr e => ?_, h.gl⟩
  · refine h.pt.kept (row := some W.heap.size) (But.of_below k (Nat.le_refl _)).grown (fun q hq e => ?_) (fun q hq e => ?_) (fun q hq => .inl hq)
    · have := h.pt.lt q hq; have := Option.some.inj e; omega
    · have := h.pb q hq; have := Option.some.inj e; omega
  · rcases hr with hr | hr
    · exact h'.pb r hr
    · exact ⟨by omega, hr.2⟩
  · rcases e with e | e
    · exact (h.hf r hr).1 e
    · have := gath_lt h.fr r hr; omega
  · rcases e with e | e
    · exact h.pf r hr e
    · have := h.pt.lt r hr; omega
/-- The next holder. -/
theorem Hw.from (h : Hw wo W g s l vh zs vp L P) {v' : Value} {z : Int} (fr' : Gath W' wo.heap.size v' (zs ++ [z])) (gr : W.grownBy W' vh.ownBlock) (hb : v'.ownBlock = vh.ownBlock ∨ v'.ownBlock = some W.heap.size) : Hw wo W' g s l v' (zs ++ [z]) vp L P :=
  ⟨But.append h.but (Nat.le_refl _) h.fr gr, h.di.grown h.fr gr h.gl, fr', h.pt.kept gr (fun q hq e => (h.hf q e).2 hq) (fun q hq e => (h.hf q e).1 hq) (fun q hq => hq), fun q hq => ⟨(h.pb q hq).1, Nat.lt_of_lt_of_le (h.pb q hq).2 gr.size⟩, fun r hr => by
    rcases hb with hb | hb
    · rw [hb] at hr; exact h.hf r hr
    · rw [hb] at hr
      have e := Option.some.inj hr
      exact ⟨fun hp => by have := (h.pb r hp).2; omega, fun hp => by have := (h.pt.lt r hp).2; omega⟩, h.pf, h.gl⟩
/-- The next part. -/
theorem Hw.app (h : Hw wo W g s l vh zs vp L P) (ad : Nat) (hd : Int) (gv : Value) (x : List Int) (hc0 : W.cell? ⟨ad, 0, none⟩ = some (.int .i64 hd)) (hc1 : W.cell? ⟨ad, 1, none⟩ = some gv)
    (hI : Ints W gv x) (hP : ∀ g, gv.ownBlock = some g → x ≠ [] → P g) (hlen : L.length < 1000) (ty : TypeId) :
    ∃ v' W', (Builtin.append_ #[23, 23] ty #[vp, .slice (some ⟨ad, 0, none⟩) 1 1]).run Tryd.prog W = .ok v' W' ∧ Hw wo W' g s l vh zs v' (L ++ [(hd, x)]) P ∧ W.grownBy W' vp.ownBlock := by
  obtain ⟨v', W', h0, h1, h2, h5⟩ := run_appendP h.pt ad hd gv x hc0 hc1 hI hP h.pf hlen h.but.size ty
  have hB : wo.heap.size ≤ W.heap.size := h.but.size
  have hbl : Below wo.heap.size W W' := (Below.refl _ W).grown h2 hB fun b hb => (h.pt.lt b hb).1
  refine ⟨v', W', h0, ⟨h.but.above hbl (Nat.le_refl _), h.di.below hbl h.gl, gath_kept_row h.fr h2 fun r hr e => (h.hf r hr).2 e, h1, fun r hr => ⟨(h.pb r hr).1, Nat.lt_of_lt_of_le (h.pb r hr).2 h2.size⟩, fun r hr => ⟨(h.hf r hr).1, fun e => ?_⟩, fun r hr e => ?_, h.gl⟩, h2⟩
  · rcases h5 with h5 | h5
    · rw [h5] at e; exact (h.hf r hr).2 e
    · rw [h5] at e; have := Option.some.inj e; have := (gath_lt h.fr r hr).2; omega
  · rcases h5 with h5 | h5
    · rw [h5] at hr; exact h.pf r hr e
    · rw [h5] at hr; have := Option.some.inj hr; have := (h.pb r e).2; omega
/-- The parts, when all of them have values. -/
theorem Hw.parts (h : Hw wo W g s l vh zs vp L P) (hl : L.length ≤ 1000) (hne : ∀ x ∈ L, x.2 ≠ []) : SharesN W wo.heap.size vp L := by
  obtain ⟨Z, z1, z2, z3⟩ := h.pt
  obtain ⟨a, c, e, h1, h2, h3, h4⟩ := h.pt.shares hl
  refine ⟨a, c, e, h1, h2, h3, fun hne' => ?_⟩
  have hlen : 0 < L.length := List.length_pos_iff.2 hne'
  rcases id z2.2 with ⟨hv, h0⟩ | ⟨q, cap, cur, hv, hb, hg, hr1, hr2, hr3⟩
  · omega
  · have hcell := World.ownsRow.cells z2 (g := q) (by rw [hv]; rfl)
    have had : ∀ j, (⟨q, 0, none⟩ : Addr).add j = ⟨q, j, none⟩ := fun j => by unfold Addr.add; split <;> simp_all
    have ha : a = some ⟨q, 0, none⟩ := by rw [e] at hv; injection hv
    refine ⟨q, 0, ha, hb, fun i hi => ?_⟩
    obtain ⟨f1, f2⟩ := flatZ_get Z i (by omega)
    have c1 := hcell _ _ f1
    have c2 := hcell _ _ f2
    rw [had] at c1 c2
    obtain ⟨e1, e2, e3⟩ := z3 i hi
    rw [Nat.zero_add]
    refine ⟨_, by rw [← e1]; exact c1, c2, e2, fun r hr => (h.pb r (e3 r hr (hne _ ?_))).1⟩
    have : L.getD i (0, []) = L[i] := by simp [List.getD, hi]
    rw [this]
    exact List.getElem_mem hi
end

/-- A list of lists that grows by the same list again and again. -/
structure Gj (wo W : World) (g : Nat) (v : Value) (LL : List (List Int)) : Prop where
  gi : GathI W (g + 1) v LL
  ow : ∀ r, v.ownBlock = some r → wo.heap.size ≤ r
  be : Below wo.heap.size wo W
theorem gj_start (wo : World) (g : Nat) : Gj wo wo g (.slice none 0 0) [] := ⟨gathI_nil _ _, fun r h => by simp [Value.ownBlock] at h, Below.refl _ _⟩
theorem Gj.below {wo W W' : World} {g : Nat} {v : Value} {LL : List (List Int)} (h : Gj wo W g v LL) (k : Below W.heap.size W W') : Gj wo W' g v LL :=
  ⟨h.gi.below k (Nat.le_refl _), h.ow, h.be.trans (k.mono h.be.size)⟩
section
variable {ops : Array Oper} {rest : List Oper} {o : Oper} {a : Act} {Q : Exit → Act → World → Prop}
theorem append_intssB (w wo : World) (g : Nat) (hgd : o.guard = none) (s x : Operand) (ho : o.op = .call { callee := .builtin .append, args := #[s, x], argTypes := #[41, 41] })
    (v : Value) (LL : List (List Int)) (z : Value) (L : List Int) (hs : a.eval s = v) (hown : Gj wo w g v LL) (ad : Nat) (hx : a.eval x = .slice (some ⟨ad, 0, none⟩) 1 1) (hcell : w.cell? ⟨ad, 0, none⟩ = some z)
    (hz : Slc w z L) (hzb : ∀ r, z.ownBlock = some r → g + 1 ≤ r ∧ r < wo.heap.size) (hlen : LL.length ≤ 1000) (hbase : g + 1 ≤ wo.heap.size)
    (h : ∀ v' w', Gj wo w' g v' (LL ++ [L]) → wpList Tryd.prog ops Q rest (a.put o.dst v') w') : wpList Tryd.prog ops Q (o :: rest) a w := by
  obtain ⟨i0, hi, hz0, hz1, hz2⟩ := info_parts infoIntSl
  obtain ⟨Z, z1, z2, z3⟩ := hown.gi
  have hsz := hown.be.size
  have hsh : ∃ a c, z = .slice a L.length c := by obtain ⟨a, c, h1, _⟩ := hz; exact ⟨a, c, h1⟩
  refine wpList_append_own_at (w := w) hgd s x 41 ho (g + 1) 22 i0 (.slice none 0 0) 1 24 Tryd.underlying41 hi hz0 hz1 hz2 rfl (by decide) v LL.length Z hs z2 ⟨ad, 0, none⟩ 1 1 [z] hx rfl ?_ ?_ ?_ ?_ (by omega) ?_
  · intro j u hj
    match j, hj with
    | 0, hj =>
      simp at hj; subst hj
      have e : (⟨ad, 0, none⟩ : Addr).add 0 = ⟨ad, 0, none⟩ := by unfold Addr.add; simp
      rw [e]; exact hcell
  · intro u hu; simp at hu; subst hu; obtain ⟨_, _, rfl⟩ := hsh; rfl
  · unfold maxLen; omega
  · omega
  · intro v' w' h1 h2 _ h5
    have how : ∀ r, v'.ownBlock = some r → wo.heap.size ≤ r := fun r hr => by
      rcases h5 with h5 | h5
      · rw [h5] at hr; exact hown.ow r hr
      · rw [h5] at hr; have := Option.some.inj hr; omega
    have hne' : ∀ g, v.ownBlock ≠ some g → g < w.heap.size → v'.ownBlock ≠ some g := fun g e1 e2 e3 => by
      rcases h5 with h5 | h5
      · rw [h5] at e3; exact e1 e3
      · rw [h5] at e3; simp at e3; omega
    refine h v' w' ⟨⟨Z ++ [z], by simp [z1], by rw [List.length_append]; exact h1, fun i hi => ?_⟩, how, hown.be.trans ((Below.refl _ w).grown h2 hsz fun g hg => hown.ow g hg)⟩
    rw [List.length_append, List.length_singleton] at hi
    by_cases hlt : i < LL.length
    · have e1 : (Z ++ [z]).getD i undef = Z.getD i undef := by simp [List.getD, List.getElem?_append, z1, hlt]
      have e2 : (LL ++ [L]).getD i [] = LL.getD i [] := by simp [List.getD, List.getElem?_append, hlt]
      rw [e1, e2]
      exact (z3 i hlt).kept h2 fun g hg hl => ⟨hg.2, hg.1, hne' g hg.2 hl⟩
    · obtain rfl : i = LL.length := by omega
      have e1 : (Z ++ [z]).getD LL.length undef = z := by simp [List.getD, ← z1]
      have e2 : (LL ++ [L]).getD LL.length [] = L := by simp [List.getD]
      rw [e1, e2]
      refine SlcP.kept (P := fun r => g + 1 ≤ r ∧ r < wo.heap.size) ⟨hz, fun r hr _ => hzb r hr⟩ h2 fun r hr hl => ⟨fun e => ?_, hr.1, fun e => ?_⟩
      · have := hown.ow r e; omega
      · have := how r e; omega
end
section
variable {ops : Array Oper} {rest : List Oper} {o : Oper} {a : Act} {Q : Exit → Act → World → Prop}
theorem wp_listV (w : World) (hgd : o.guard = none) (s x : Operand) (t1 t2 : TypeId) (ho : o.op = .call { callee := .builtin .append, args := #[s, x], argTypes := #[t1, t2] }) (v sv : Value) (hs : a.eval s = v) (hx : a.eval x = sv) (R : Value → World → Prop)
    (hrun : ∃ v' W', (Builtin.append_ #[t1, t2] o.type #[v, sv]).run Tryd.prog w = .ok v' W' ∧ R v' W') (h : ∀ v' W', R v' W' → wpList Tryd.prog ops Q rest (a.put o.dst v') W') : wpList Tryd.prog ops Q (o :: rest) a w := by
  refine wpList_plain hgd fun K hK => ?_
  obtain ⟨v', W', hr, hR⟩ := hrun
  unfold Oper.wp execOp
  simp only [ho, resolve, invoke, builtin, Sem.run_bind, Sem.run_pure, Result.andThen_ok, List.map_toArray, List.map_cons, List.map_nil, hs, hx, hr]
  exact hK _ _ (h v' W' hR)
end
theorem max_lay9 (P : Program) (a b : Int) : ∀ (ts : Array TypeId) (t : TypeId) (W : World), (Builtin.max_ ts t #[.int .i64 a, .int .i64 b]).run P W = .ok (.int .i64 (max a b)) W := fun ts t W => by
  rw [run_max_int2]; congr 2; split <;> omega
theorem shares1 {W : World} {ad : Nat} {h : Int} {v : Value} {l : List Int} (k : ShAt W ad h v) (hI : Ints W v l) : Shares W (.slice (some ⟨ad, 0, none⟩) 1 1) [(h, l)] := by
  refine ⟨_, 1, rfl, by simp, by simp, by omega, fun _ => ⟨ad, 0, rfl, fun i hi => ?_⟩⟩
  obtain rfl : i = 0 := by simp at hi; omega
  exact ⟨v, by simpa using k.c0, by simpa using k.c1, hI⟩
theorem splitR_few (p k n p2 k2 n2 : Int) (s : Shr) (r : List Int) : (splitR p k n p2 k2 n2 s r).length ≤ 100 ∧ ∀ x ∈ splitR p k n p2 k2 n2 s r, x.2.length = s.2.length := by
  unfold splitR
  split
  · rename_i h
    have hpl : planB p2 k2 n2 = true := by
      unfold splitE at h
      split at h
      · unfold dealE at h
        split at h
        · assumption
        · omega
      · omega
    obtain ⟨q1, q2, q3, q4, q5, q6⟩ := planB_parts hpl
    refine ⟨by rw [dealF_len]; omega, fun x hx => ?_⟩
    obtain ⟨j, hj, rfl⟩ := List.mem_map.1 hx
    exact dealV_len _ _ _ _ _
  · simp
theorem joinL_le {p : Int} (hp : 1 ≤ p) (xs : List Int) (L : List Shr) {m : Nat} (h : ∀ j, (L.getD j (0, [])).2.length ≤ m) : ∀ k, (joinL p xs L (k + 1)).length ≤ m
  | 0 => by rw [← joinL_one, linF_len']; have := h 0; simpa using this
  | k + 1 => by
    rw [← joinL_succ hp, linF_len', linF_len']
    have h1 := joinL_le hp xs L h k
    have h2 := h (k + 1)
    simp only [List.length_nil]
    omega
theorem joinR_le {p k n p2 k2 n2 : Int} (hp : 1 ≤ p) (hk : 1 ≤ k) (xs : List Int) (L : List Shr) {m : Nat} (h : ∀ x ∈ L, x.2.length ≤ m) : (joinR p k n p2 k2 n2 xs L).2.length ≤ m := by
  unfold joinR
  split
  · rename_i h0
    have hx : k ≤ (xs.length : Int) := by
      unfold joinE at h0
      split at h0
      · split at h0 <;> omega
      · omega
    obtain ⟨q, hq⟩ : ∃ q, xs.length = q + 1 := ⟨xs.length - 1, by omega⟩
    show (joinL p xs L xs.length).length ≤ m
    rw [hq]
    refine joinL_le hp xs L (fun j => ?_) q
    by_cases hj : j < L.length
    · rw [List.getD_eq_getElem?_getD, List.getElem?_eq_getElem hj]; exact h _ (List.getElem_mem _)
    · rw [List.getD_eq_getElem?_getD, List.getElem?_eq_none (by omega)]; simp
  · simp
theorem lst_getD {L : List Shr} {P : Shr → Prop} (h : ∀ x ∈ L, P x) {j n : Nat} (hn : L.length = n) (hj : j < n) : P (L.getD j (0, [])) := by
  rw [List.getD_eq_getElem?_getD, List.getElem?_eq_getElem (by rw [hn]; exact hj)]
  exact h _ (List.getElem_mem _)
theorem shAt_alloc1 (w : World) (o : Obj) (h : Int) (v : Value) (t : TypeId) : ShAt ((w.alloc o).alloc (.cells #[.int .i64 h, v] t)) (w.heap.size + 1) h v := by
  have h1 := shAt_new (w.alloc o) h v t
  rwa [show (w.alloc o).heap.size = w.heap.size + 1 by simp] at h1
theorem ShAt.allocC {w : World} {g : Nat} {h : Int} {v : Value} (hs : ShAt w g h v) (o : Obj) : ShAt (w.alloc o) g h v :=
  hs.below ((Below.refl w.heap.size w).alloc (Nat.le_refl _) o) hs.lt
theorem Ints.allocC {w : World} {v : Value} {l : List Int} (h : Ints w v l) (o : Obj) : Ints (w.alloc o) v l :=
  h.below (Nat.le_refl _) ((Below.refl w.heap.size w).alloc (Nat.le_refl _) o)
theorem Rw.turnB {w1 W : World} {g gp gq : Nat} {s : Value} {l : List Int} {p p2 k2 n2 : Int} {K N : Nat} {G : List (Value × List Int)} {M : List (Value × List Shr)} {VS : List Value} (h : Rw w1 W g gp gq s l p K N p2 k2 n2 G M VS) {v : Value} {V : Int → List Int} (hv : (v, rowL N V) ∈ M) (hN : N ≤ 7) (hm : ∀ x, (V x).length ≤ 100) :
    Calls Tryd.prog 22 #[.pointer (some ⟨g, 0, none⟩), v, .int .i64 0] W fun e w' => ∃ (v' : Value) (L2 : List Shr) (m : Nat), e = .returned v' ∧ L2.Perm (rowL N V) ∧ m ≤ N ∧ SharesN w' W.heap.size v' (L2.take m) ∧ DiceAt w' g s l ∧ But g W w' := by
  have hx := turn_any g s l v (rowL N V) 0 W h.lw.st.di (h.lw.getM hv).shares (fun x hx => by
    obtain ⟨j, hj, rfl⟩ := rowL_mem hx
    have := hm ((j + 1 : Nat) : Int)
    show (V _).length ≤ _
    omega) (by rw [rowL_len]; omega) (by omega)
  rw [rowL_len] at hx
  exact hx.mono fun e w' ⟨v', L2, m, h1, h2, h3, h4, h5, h6, h7⟩ => ⟨v', L2, m, h1, h2, h4, h5, h6, h7⟩
end Go.Proofs.YtomnncainedjdaaDoor
