
/- Contract of poly.Divide. -/
import Derived.Test.YtpgbjnenllfmlaaGreatDoorWts
import Derived.Test.YtpgbjnenllfmlaaGreatDoorDv
import Derived.Deep.RegionHeld3
namespace Go.Proofs.YtpgbjnenllfmlaaGreatDoor
open Go.RowKit Go.Shelf Go.Sort
open Num
set_option linter.unusedVariables false
attribute [local go_sem] Oper.semAt_some

theorem Gath.but' {w w' : World} {base b : Nat} {v : Value} {zs : List Int} (h : Gath w base v zs) (k : But b w w') (hb : ∀ g, v.ownBlock = some g → g ≠ b) : Gath w' base v zs :=
  World.ownsRow.kept h k.grown (by
    by_cases e : v.ownBlock = none
    · exact .inl e
    · obtain ⟨g, hg⟩ := Option.ne_none_iff_exists'.1 e
      exact .inr (by rw [hg]; have := hb g hg; simpa using this))
/-- Between two rounds of the division. -/
structure DvW (p : Int) (P0 D1 S4 base : Nat) (n L la lb cb cR : Nat) (inv : Int) (bb ob : Nat) (aR : Option Addr) (b : List Int) (w3 : World) (s : List Int × List Int) (W : World) : Prop where
  c0 : W.cell? ⟨P0, 0, none⟩ = some (.int .i64 p)
  c1 : W.cell? ⟨P0 + 1, 0, none⟩ = some (.slice (some ⟨bb, ob, none⟩) lb cb)
  c2 : W.cell? ⟨D1, 0, none⟩ = some (.int .i64 n)
  c3 : W.cell? ⟨D1 + 1, 0, none⟩ = some (.int .i64 inv)
  c4 : W.cell? ⟨S4, 0, none⟩ = some (.slice aR la cR)
  c5 : W.cell? ⟨S4 + 1 + 1, 0, none⟩ = some (.slice (some ⟨S4 + 1, 0, none⟩) L L)
  c6 : W.cell? ⟨S4 + 1 + 1 + 1, 0, none⟩ = some (.slice (some ⟨S4 + 1, 0, none⟩) L L)
  gR : Gath W base (.slice aR la cR) s.1
  rQ : Row W (S4 + 1) s.2
  iB : Ints W (.slice (some ⟨bb, ob, none⟩) lb cb) b
  bel : Below base w3 W
theorem Gath.kept_row {w w' : World} {base : Nat} {v : Value} {zs : List Int} {row : Option Nat} (h : Gath w base v zs) (hg : w.grownBy w' row) (hr : ∀ r, row = some r → ∃ o : Obj, w.heap[r]? = some o ∧ o.isCells = false) : Gath w' base v zs :=
  World.ownsRow.kept h hg (by
    obtain ⟨_, hn | ⟨g, cap, cur, rfl, hb, hh, _⟩⟩ := h
    · exact .inl (by rw [hn.1]; rfl)
    · refine .inr fun e => ?_
      obtain ⟨o, ho, hc⟩ := hr g (by rw [← e]; rfl)
      rw [hh] at ho
      cases ho
      cases hc)
theorem dvW_own {α : Type} {p : Int} {P0 D1 S4 base n L la lb cb cR B : Nat} {inv : Int} {bb ob : Nat} {aR : Option Addr} {b : List Int} {w3 : World} (f : α → List Int × List Int) (hB : base ≤ B) (hS : base ≤ w3.heap.size) :
    OwnFrom B (fun x W => DvW p P0 D1 S4 base n L la lb cb cR inv bb ob aR b w3 (f x) W) := fun s A A' row h hg hr => by
  have hr' : ∀ r, row = some r → ∃ o : Obj, A.heap[r]? = some o ∧ o.isCells = false := fun r e => (hr r e).2
  exact ⟨cell_kept h.c0 hg hr', cell_kept h.c1 hg hr', cell_kept h.c2 hg hr', cell_kept h.c3 hg hr', cell_kept h.c4 hg hr', cell_kept h.c5 hg hr', cell_kept h.c6 hg hr', h.gR.kept_row hg hr', h.rQ.kept hg hr', h.iB.of_cells fun q v hq => cell_kept hq hg hr', h.bel.grown hg (Nat.le_trans hS h.bel.size) (fun k e => Nat.le_trans hB (hr k e).1)⟩

section
variable {p : Int} {P0 D1 S4 base n L la lb cb cR : Nat} {inv : Int} {bb ob : Nat} {aR : Option Addr} {b : List Int} {w3 : World} {s : List Int × List Int} {W : World}
theorem DvW.reads (h : DvW p P0 D1 S4 base n L la lb cb cR inv bb ob aR b w3 s W) (hL : s.2.length = L) : Reads (fun _ _ => True) (S4 + 1 + 1 + 1) (some ⟨S4 + 1, 0, none⟩) L L W :=
  ⟨h.c6, fun j hj => ⟨S4 + 1, 0, _, rfl, trivial, by rw [Nat.zero_add]; exact h.rQ.cell (by omega)⟩⟩
theorem DvW.setR (h : DvW p P0 D1 S4 base n L la lb cb cR inv bb ob aR b w3 s W) {g : Nat} (haR : aR = some ⟨g, 0, none⟩) (h1 : base ≤ g) (h2 : g < S4) (h3 : P0 + 1 < base) (h4 : D1 + 1 < base) (h5 : bb < base) (i : Nat) (v : Int) :
    DvW p P0 D1 S4 base n L la lb cb cR inv bb ob aR b w3 (s.1.set i v, s.2) ((W.setCell ⟨g, i, none⟩ (.int .i64 v)).drew) := by
  subst haR
  have k : But g W ((W.setCell ⟨g, i, none⟩ (.int .i64 v)).drew) := (But.set W ⟨g, i, none⟩ _).trans (But.drewN _ _ 1)
  exact ⟨(k.cell (p := ⟨P0, 0, none⟩) (cell_lt h.c0) (by show P0 ≠ g; omega)).trans h.c0, (k.cell (p := ⟨P0 + 1, 0, none⟩) (cell_lt h.c1) (by show P0 + 1 ≠ g; omega)).trans h.c1, (k.cell (p := ⟨D1, 0, none⟩) (cell_lt h.c2) (by show D1 ≠ g; omega)).trans h.c2,
    (k.cell (p := ⟨D1 + 1, 0, none⟩) (cell_lt h.c3) (by show D1 + 1 ≠ g; omega)).trans h.c3, (k.cell (p := ⟨S4, 0, none⟩) (cell_lt h.c4) (by show S4 ≠ g; omega)).trans h.c4, (k.cell (p := ⟨S4 + 1 + 1, 0, none⟩) (cell_lt h.c5) (by show S4 + 1 + 1 ≠ g; omega)).trans h.c5,
    (k.cell (p := ⟨S4 + 1 + 1 + 1, 0, none⟩) (cell_lt h.c6) (by show S4 + 1 + 1 + 1 ≠ g; omega)).trans h.c6, h.gR.set i v, World.rowIs.of_block h.rQ (k.block _ h.rQ.lt (by omega)), h.iB.but k (fun g' e => by simp [Value.ownBlock] at e; omega), (h.bel.setCell (p := ⟨g, i, none⟩) h1 _).drew⟩
theorem DvW.setQ (h : DvW p P0 D1 S4 base n L la lb cb cR inv bb ob aR b w3 s W) {g : Nat} (haR : aR = some ⟨g, 0, none⟩) (h1 : base ≤ S4) (h2 : g < S4) (h3 : P0 + 1 < base) (h4 : D1 + 1 < base) (h5 : bb < base) {i : Nat} (hi : i < s.2.length) (v : Int) :
    DvW p P0 D1 S4 base n L la lb cb cR inv bb ob aR b w3 (s.1, s.2.set i v) ((W.setCell ⟨S4 + 1, i, none⟩ (.int .i64 v)).drew) := by
  have k : But (S4 + 1) W ((W.setCell ⟨S4 + 1, i, none⟩ (.int .i64 v)).drew) := (But.set W ⟨S4 + 1, i, none⟩ _).trans (But.drewN _ _ 1)
  exact ⟨(k.cell (p := ⟨P0, 0, none⟩) (cell_lt h.c0) (by show P0 ≠ S4 + 1; omega)).trans h.c0, (k.cell (p := ⟨P0 + 1, 0, none⟩) (cell_lt h.c1) (by show P0 + 1 ≠ S4 + 1; omega)).trans h.c1, (k.cell (p := ⟨D1, 0, none⟩) (cell_lt h.c2) (by show D1 ≠ S4 + 1; omega)).trans h.c2,
    (k.cell (p := ⟨D1 + 1, 0, none⟩) (cell_lt h.c3) (by show D1 + 1 ≠ S4 + 1; omega)).trans h.c3, (k.cell (p := ⟨S4, 0, none⟩) (cell_lt h.c4) (by show S4 ≠ S4 + 1; omega)).trans h.c4, (k.cell (p := ⟨S4 + 1 + 1, 0, none⟩) (cell_lt h.c5) (by show S4 + 1 + 1 ≠ S4 + 1; omega)).trans h.c5,
    (k.cell (p := ⟨S4 + 1 + 1 + 1, 0, none⟩) (cell_lt h.c6) (by show S4 + 1 + 1 + 1 ≠ S4 + 1; omega)).trans h.c6, h.gR.but' k (fun g' e => by subst haR; simp [Value.ownBlock] at e; omega), h.rQ.set hi v, h.iB.but k (fun g' e => by simp [Value.ownBlock] at e; omega), (h.bel.setCell (p := ⟨S4 + 1, i, none⟩) (by show base ≤ S4 + 1; omega) _).drew⟩
end
/-- Lengths and elements, whatever the steps were. -/
theorem runD_wf {p : Int} (hp : 1 ≤ p) (b : List Int) (n : Nat) (inv : Int) {s : List Int × List Int} (h1 : Els p s.1) (h2 : Els p s.2) : ∀ ks : List Nat, Els p (runD p b n inv s ks).1 ∧ Els p (runD p b n inv s ks).2 ∧ (runD p b n inv s ks).1.length = s.1.length ∧ (runD p b n inv s ks).2.length = s.2.length := by
  intro ks
  induction ks generalizing s with
  | nil => exact ⟨h1, h2, rfl, rfl⟩
  | cons k ks ih =>
    have hq := el_mul hp (s.1.getD (k + n) 0) inv
    obtain ⟨a1, a2, a3, a4⟩ := ih (s := stepD p b n inv s k) (subN_els hp h1 _) (els_set' h2 hq _)
    exact ⟨a1, a2, by rw [show runD p b n inv s (k :: ks) = runD p b n inv (stepD p b n inv s k) ks from rfl, a3, stepD, subN_len], by rw [show runD p b n inv s (k :: ks) = runD p b n inv (stepD p b n inv s k) ks from rfl, a4, stepD, List.length_set]⟩
theorem runD_down {p : Int} (hp : PrmI p) {a b : List Int} {n L : Nat} (ha : Els p a) (hb : Els p b) (hn : dg b = n + 1) (hL : a.length ≤ L + n) (hL2 : 0 < L → L + n = a.length) : ∀ k, k ≤ L → DvI p a b n L (L - k) (runD p b n (iv0 p (b.getD n 0)) (a, List.replicate L 0) (down L k))
  | 0, _ => dvI_start (by have := hp.1; omega) ha hL
  | k + 1, h => by
    have ih := runD_down hp ha hb hn hL hL2 k (by omega)
    rw [down_succ, runD_snoc]
    have e : L - k = (L - 1 - k) + 1 := by omega
    rw [e] at ih
    have e2 : L - (k + 1) = L - 1 - k := by omega
    rw [e2]
    exact dvI_step hp hb hn (by omega) (by have := hL2 (by omega); omega) ih

/-- A region whose orders all end alike. -/
theorem region_once {P : Program} {id : Nat} {ops : Array Oper} {d : Bool} {Q : Exit → Act → World → Prop} {a : Act} {w : World} (A : Act) (X : World) (hr : (Code.region id ops d).wp P (fun e a' W => e = .normal ∧ a' = A ∧ W = X) a w) (h : Q .normal A X) : (Code.region id ops d).wp P Q a w :=
  Code.wp_mono (fun _ _ _ ⟨h1, h2, h3⟩ => by subst h1; subst h2; subst h3; exact h) hr

set_option maxRecDepth 100000 in
set_option maxHeartbeats 8000000 in
theorem divide_in (p : Int) (aa ab : Option Addr) (la lb ca cb n : Nat) (a b : List Int) (w : World) (hp : PrmI p) (hp2 : p ≤ 1073741824) (ha : Els p a) (hb : Els p b)
    (hsa : Ints w (.slice aa la ca) a) (hsb : Ints w (.slice ab lb cb) b) (hla : Hid (la = a.length)) (hlb : Hid (lb = b.length)) (hn : Hid (dg b = n + 1)) (hl : la ≤ 1000) (hl2 : lb ≤ 1000) (hcb : n + 1 ≤ cb) (hnl : n < lb) (L : Nat) (hL : Hid (n < la ∧ L = la - n)) :
    CallsIn Fence.wide 6 Tryz.prog 85 #[.int .i64 p, .slice aa la ca, .slice ab lb cb] w fun e w' =>
      ∃ vq vr q r, e = .returned (.tuple #[vq, vr, .int .i64 0]) ∧ Ints w' vq q ∧ Slc w' vr r ∧ (∀ g, vq.ownBlock = some g → w.heap.size ≤ g) ∧ DivS p a b q r ∧ q.length ≤ 1000 ∧ Below w.heap.size w w' := by
  have hp0 := hp.1
  have hp1 : 1 ≤ p := by omega
  have hb0 : Below w.heap.size w ((w.alloc (.cells #[.int .i64 p] 3)).alloc (.cells #[.slice ab lb cb] 22)) := ((Below.refl _ _).alloc (Nat.le_refl _) _).alloc (by simp) _
  have HDG := Lib.hid (degree_any _ b _ (hsb.below (Nat.le_refl _) hb0))
  rw [hn.out] at HDG
  have HB0 := Lib.hid hb0
  have b0 := Boxed.new w 3 (.int .i64 p)
  have b1 := Boxed.new (w.alloc (.cells #[.int .i64 p] 3)) 22 (.slice ab lb cb)
  rw [World.size_alloc] at b1
  have C0 := Lib.hid (b0.alloc (.cells #[.slice ab lb cb] 22)).cell
  have C1 := Lib.hid b1.cell
  have e0 : ((n + 1 : Nat) : Int) - 1 = (n : Int) := by omega
  have hmx : Tryz.prog.follows .mixedOrders = true := by kernel_rfl
  clear hb0 b0 b1
  refine callsIn_of_wp_marks Tryz.func85 rfl trivial ?_ rfl
  simp only [Tryz.ntmps85, List.size_toArray, List.length_cons, List.length_nil, Nat.reduceAdd, Nat.reduceSub, Array.replicate_succ, Array.replicate_zero, List.push_toArray, List.append_toArray, List.nil_append, List.cons_append]
  have c0 := C0.out
  have c1 := C1.out
  have hsz0 : ((w.alloc (.cells #[.int .i64 p] 3)).alloc (.cells #[.slice ab lb cb] 22)).heap.size = w.heap.size + 2 := by simp
  generalize hw0 : (w.alloc (.cells #[.int .i64 p] 3)).alloc (.cells #[.slice ab lb cb] 22) = w0 at *
  have HW0 := Lib.hid hw0
  clear hw0
  gi_wp2_with (rw [HW0.out]; refine ⟨trivial, ?_⟩; gi_at_call 57; refine (callsIn_wide.2 HDG.out).mono ?_; rintro e w1 ⟨rfl, hb1⟩)
  have hbb := hb1
  have hc0 := (hb1.cell (p := ⟨w.heap.size, 0, none⟩) (by show w.heap.size < w0.heap.size; omega)).trans c0
  have hc1 := (hb1.cell (p := ⟨w.heap.size + 1, 0, none⟩) (by show w.heap.size + 1 < w0.heap.size; omega)).trans c1
  have HBW := Lib.hid (HB0.out.trans (hb1.mono HB0.out.size))
  have hs1 := hb1.size
  have hbx := (Boxed.new w1 3 (.int .i64 n)).cell
  have hbw1 : Below w1.heap.size w1 (w1.alloc (.cells #[.int .i64 n] 3)) := (Below.refl _ _).alloc (Nat.le_refl _) _
  have hd0 := (hbw1.cell (p := ⟨w.heap.size, 0, none⟩) (cell_lt hc0)).trans hc0
  have hd1 := (hbw1.cell (p := ⟨w.heap.size + 1, 0, none⟩) (cell_lt hc1)).trans hc1
  have HBW2 := Lib.hid (HBW.out.trans (hbw1.mono HBW.out.size))
  obtain ⟨bb, ob, rfl, hcl⟩ := ints_at (hsb.below (Nat.le_refl _) HBW2.out) hlb.out (k := n) hnl
  have el := els_at hp1 hb n
  obtain ⟨lead, hlead⟩ : ∃ v, b.getD n 0 = v := ⟨_, rfl⟩
  rw [hlead] at hcl el
  have HL := Lib.hid hlead
  have hs2 : (w1.alloc (.cells #[.int .i64 n] 3)).heap.size = w1.heap.size + 1 := by simp
  have hsw : w.heap.size + 2 ≤ w1.heap.size := by omega
  clear hb1 hbb hc0 hc1 hlead HDG hsz0 c0 c1 hbw1
  generalize w1.alloc (.cells #[.int .i64 n] 3) = w2 at *
  refine wpIn_wide.2 ?_
  apply region_once
  case hr =>
   go_region_held3 (fun w' => w'.cell? ⟨w.heap.size, 0, none⟩ = some (.int .i64 p) ∧ w'.cell? ⟨w.heap.size + 1, 0, none⟩ = some (.slice (some ⟨bb, ob, none⟩) lb cb) ∧ w'.cell? ⟨w1.heap.size, 0, none⟩ = some (.int .i64 n) ∧ w'.cell? ⟨bb, ob + n, none⟩ = some (.int .i64 lead)) (go_keep)
    (first | (go_at_call 102; refine (inverseOf_any _ hp0 hp2 el).mono ?_; rintro e w' ⟨rfl, rfl⟩))
   all_goals exact ⟨rfl, rfl, rfl⟩
  have hbx2 := (Boxed.new w2 3 (.int .i64 (iv0 p lead))).cell
  have hbw3 : Below w2.heap.size w2 ((w2.alloc (.cells #[.int .i64 (iv0 p lead)] 3)).drew) := ((Below.refl _ _).alloc (Nat.le_refl _) _).drew
  have f0 := (hbw3.cell (p := ⟨w.heap.size, 0, none⟩) (cell_lt hd0)).trans hd0
  have f1 := (hbw3.cell (p := ⟨w.heap.size + 1, 0, none⟩) (cell_lt hd1)).trans hd1
  have f2 := (hbw3.cell (p := ⟨w1.heap.size, 0, none⟩) (cell_lt hbx)).trans hbx
  have f3 : ((w2.alloc (.cells #[.int .i64 (iv0 p lead)] 3)).drew).cell? ⟨w1.heap.size + 1, 0, none⟩ = some (.int .i64 (iv0 p lead)) := by rw [← hs2]; exact hbx2
  have HBW3 := Lib.hid (HBW2.out.trans (hbw3.mono HBW2.out.size))
  have hs3 : ((w2.alloc (.cells #[.int .i64 (iv0 p lead)] 3)).drew).heap.size = w1.heap.size + 2 := by show (w2.alloc _).heap.size = _; simp; omega
  have ei := iv0_el hp1 lead
  have HBb : Hid (bb < w1.heap.size + 1) := by show bb < _; rw [← hs2]; exact cell_lt hcl
  clear hbx hbx2 hbw3 hd0 hd1 hcl hs2
  generalize (w2.alloc (.cells #[.int .i64 (iv0 p lead)] 3)).drew = w3 at *
  have HSA := Lib.hid (hsa.below (Nat.le_refl _) HBW3.out)
  have HSB3 := Lib.hid (hsb.below (Nat.le_refl _) HBW3.out)
  have hmk := run_make_row' (P := Tryz.prog) 22 3 (.int .i64 0) 8 Tryz.underlying22 infoInt rfl .i64 .i64 L (by have := hL.out; omega) (by have := hL.out; omega)
  have e1 : (la : Int) - (n : Int) = (L : Int) := by have := hL.out; omega
  have e2 : (0 : Int) < (L : Int) := by have := hL.out; omega
  gi_wp2_with fail
  refine ⟨trivial, (callsIn_wide.2 (clone_any _ a _ HSA.out (by rw [← hla.out]; omega))).mono ?_⟩
  rintro e w4 ⟨vR, rfl, hgR, hb4⟩
  have hsl : ∃ aR cR, vR = .slice aR la cR ∧ la ≤ cR ∧ cR ≤ 9223372036854775807 := by
    obtain ⟨aR, cR, e, q1, q2, _⟩ := hgR.slc (by rw [← hla.out]; omega)
    rw [← hla.out] at e q1
    exact ⟨aR, cR, e, q1, q2⟩
  obtain ⟨aR, cR, rfl, hr1, hr2⟩ := hsl
  have g0 := (hb4.cell (p := ⟨w.heap.size, 0, none⟩) (cell_lt f0)).trans f0
  have g1 := (hb4.cell (p := ⟨w.heap.size + 1, 0, none⟩) (cell_lt f1)).trans f1
  have g2 := (hb4.cell (p := ⟨w1.heap.size, 0, none⟩) (cell_lt f2)).trans f2
  have g3 := (hb4.cell (p := ⟨w1.heap.size + 1, 0, none⟩) (cell_lt f3)).trans f3
  have g2a : (w4.alloc (.cells #[.slice aR la cR] 22)).cell? ⟨w1.heap.size, 0, none⟩ = some (.int .i64 n) := (((Below.refl w4.heap.size w4).alloc (Nat.le_refl _) (.cells #[.slice aR la cR] 22)).cell (p := ⟨w1.heap.size, 0, none⟩) (cell_lt g2)).trans g2
  have HGR := Lib.hid hgR
  have HB4 := Lib.hid hb4
  have hs4 := hb4.size
  clear hgR hb4 f0 f1 f2 f3
  gi_wp2_with (refine ⟨trivial, ?_⟩; gi_at_call 58; refine (callsIn_wide.2 (backward_any _ _ _ _)).mono ?_; rintro e w' ⟨rfl, rfl⟩)
  have hw5 : Below w4.heap.size w4 ((((w4.alloc (.cells #[.slice aR la cR] 22)).alloc (.cells (madeCells #[.int .i64 0] L) 3)).alloc (.cells #[.slice (some ⟨w4.heap.size + 1, 0, none⟩) L L] 22)).alloc (.cells #[.slice (some ⟨w4.heap.size + 1, 0, none⟩) L L] 22)) :=
    ((((Below.refl _ _).alloc (Nat.le_refl _) _).alloc (by simp) _).alloc (by simp <;> omega) _).alloc (by simp <;> omega) _
  have b4 := Boxed.new w4 22 (.slice aR la cR)
  have b5 := Boxed.new ((w4.alloc (.cells #[.slice aR la cR] 22)).alloc (.cells (madeCells #[.int .i64 0] L) 3)) 22 (.slice (some ⟨w4.heap.size + 1, 0, none⟩) L L)
  have b6 := Boxed.new (((w4.alloc (.cells #[.slice aR la cR] 22)).alloc (.cells (madeCells #[.int .i64 0] L) 3)).alloc (.cells #[.slice (some ⟨w4.heap.size + 1, 0, none⟩) L L] 22)) 22 (.slice (some ⟨w4.heap.size + 1, 0, none⟩) L L)
  have rQ := Row.made (w4.alloc (.cells #[.slice aR la cR] 22)) L
  simp only [World.size_alloc] at b5 b6 rQ
  have hbb : bb < w3.heap.size := by
    have h := HBb.out
    omega
  have hst : DvW p w.heap.size w1.heap.size w4.heap.size w3.heap.size n L la lb cb cR (iv0 p lead) bb ob aR b w3 (a, List.replicate L 0) ((((w4.alloc (.cells #[.slice aR la cR] 22)).alloc (.cells (madeCells #[.int .i64 0] L) 3)).alloc (.cells #[.slice (some ⟨w4.heap.size + 1, 0, none⟩) L L] 22)).alloc (.cells #[.slice (some ⟨w4.heap.size + 1, 0, none⟩) L L] 22)) :=
    ⟨(hw5.cell (p := ⟨w.heap.size, 0, none⟩) (cell_lt g0)).trans g0, (hw5.cell (p := ⟨w.heap.size + 1, 0, none⟩) (cell_lt g1)).trans g1, (hw5.cell (p := ⟨w1.heap.size, 0, none⟩) (cell_lt g2)).trans g2, (hw5.cell (p := ⟨w1.heap.size + 1, 0, none⟩) (cell_lt g3)).trans g3,
      (((b4.alloc _).alloc _).alloc _).cell, (b5.alloc _).cell, b6.cell, HGR.out.kept hw5 (Nat.le_refl _), (rQ.alloc _).alloc _, (HSB3.out.below (Nat.le_refl _) HB4.out).below (Nat.le_refl _) hw5, HB4.out.trans (hw5.mono hs4)⟩
  have HST := Lib.hid hst
  have hs5 : ((((w4.alloc (.cells #[.slice aR la cR] 22)).alloc (.cells (madeCells #[.int .i64 0] L) 3)).alloc (.cells #[.slice (some ⟨w4.heap.size + 1, 0, none⟩) L L] 22)).alloc (.cells #[.slice (some ⟨w4.heap.size + 1, 0, none⟩) L L] 22)).heap.size = w4.heap.size + 4 := by simp
  clear hw5 b4 b5 b6 rQ hst g0 g1 g2 g3 g2a hmk
  generalize (((w4.alloc (.cells #[.slice aR la cR] 22)).alloc (.cells (madeCells #[.int .i64 0] L) 3)).alloc (.cells #[.slice (some ⟨w4.heap.size + 1, 0, none⟩) L L] 22)).alloc (.cells #[.slice (some ⟨w4.heap.size + 1, 0, none⟩) L L] 22) = w5 at *
  have hseq := back_stops (6 - 1) (by omega) (w4.heap.size + 1 + 1 + 1) (some ⟨w4.heap.size + 1, 0, none⟩) L L (fun _ _ => True) (by have := hL.out; omega) w5 (HST.out.reads (by simp))
  refine wpIn_rangeFunc_ownG (α := BX L (fun _ _ => True)) (F := Fence.wide) (n := 6) (ps := #[36, 37]) rfl (by omega) (gf := 88) (lb := #[.pointer (some ⟨w4.heap.size + 1 + 1 + 1, 0, none⟩)]) rfl trivial (enters_of Tryz.func88 (by kernel_rfl) rfl)
    hseq (fun h k x => k (h x)) (fun W l o o' _ hl ho _ h => h.of_cells fun p v hp => cell_putObj hl ho hp) (Below.refl _ _) (fun _ => rfl)
    (fun pre W => DvW p w.heap.size w1.heap.size w4.heap.size w3.heap.size n L la lb cb cR (iv0 p lead) bb ob aR b w3 (runD p b n (iv0 p lead) (a, List.replicate L 0) (pre.map (·.1.1))) W)
    (fun _ _ _ => False)
    (dvW_own (fun pre : List (BX L (fun _ _ => True)) => runD p b n (iv0 p lead) (a, List.replicate L 0) (pre.map (·.1.1))) (by omega) (Nat.le_refl _))
    (fun _ _ _ _ _ hs _ _ => hs)
    HST.out
    (fun y => { tmps := #[.int .i64 p, .slice aa la ca, .slice (some ⟨bb, ob, none⟩) lb cb, .pointer (some ⟨w.heap.size, 0, none⟩), undef, .pointer (some ⟨w.heap.size + 1, 0, none⟩), .slice none 0 0, .slice none 0 0, .int .i64 0, .pointer (some ⟨w1.heap.size, 0, none⟩), .pointer (some ⟨w1.heap.size + 1, 0, none⟩), .pointer (some ⟨w4.heap.size, 0, none⟩), .pointer (some ⟨w4.heap.size + 1 + 1, 0, none⟩), .int .i64 (y.1.1 : Int), undef, undef, .slice (some ⟨bb, ob, none⟩) lb cb, .int .i64 n, .int .i64 n, .bool (decide ((n : Int) < 0)), .int .i64 p, .slice (some ⟨bb, ob, none⟩) lb cb, .int .i64 n, .pointer (some ⟨bb, ob + n, none⟩), .int .i64 lead, .int .i64 (iv0 p lead), .slice aa la ca, .slice aR la cR, .slice aa la ca, .int .i64 la, .int .i64 n, .int .i64 L, .int .i64 L, .slice (some ⟨w4.heap.size + 1, 0, none⟩) L L, .slice (some ⟨w4.heap.size + 1, 0, none⟩) L L, .func (.func 88) #[] #[.pointer (some ⟨w4.heap.size + 1 + 1 + 1, 0, none⟩)], .int .i64 (y.1.1 : Int), .int .i64 y.1.2, undef, undef, undef, undef, undef, undef, undef, undef, undef, undef, undef, undef, undef, undef, undef, undef, undef, undef, undef, undef, undef, undef, undef, undef, undef, undef, undef, undef, undef, undef, undef, undef, undef, undef, undef, undef, undef, undef, undef, undef, undef, undef, undef, undef, undef, undef, undef], defers := [] }) ?assign ?body ?done ?stop
  case assign =>
    intro l x W K hK
    gi_wp2
    exact hK
  case body =>
    rintro lp pre y W hE _
    obtain ⟨⟨k, yv⟩, hyk, -⟩ := y
    have hk : k < L := hyk
    have hkn : k + n < la := by have := hL.out; omega
    obtain ⟨wf1, wf2, wf3, wf4⟩ := runD_wf (p := p) hp1 b n (iv0 p lead) (s := (a, List.replicate L 0)) ha (els_zeros hp1 L) (pre.map (·.1.1))
    have EM : Hid (runD p b n (iv0 p lead) (a, List.replicate L 0) ((pre ++ [(⟨(k, yv), hyk, trivial⟩ : BX L (fun _ _ => True))]).map (·.1.1)) = stepD p b n (iv0 p lead) (runD p b n (iv0 p lead) (a, List.replicate L 0) (pre.map (·.1.1))) k) := by
      show _ = _
      rw [List.map_append]
      exact runD_snoc _ _ _ _ _ _ _
    have hl1 : (runD p b n (iv0 p lead) (a, List.replicate L 0) (pre.map (·.1.1))).1.length = la := by rw [wf3, hla.out]
    have hl2 : (runD p b n (iv0 p lead) (a, List.replicate L 0) (pre.map (·.1.1))).2.length = L := by rw [wf4]; simp
    clear wf3 wf4
    generalize runD p b n (iv0 p lead) (a, List.replicate L 0) (pre.map (·.1.1)) = s at *
    have HL1 := Lib.hid hl1
    have HL2 := Lib.hid hl2
    obtain ⟨g, cap, hgv, hgb, hgl⟩ := HGR.out.head (by rw [← hla.out]; omega)
    have hgaR : aR = some ⟨g, 0, none⟩ := by injection hgv
    have HE := Lib.hid hE
    have c0 := hE.c0
    have c1 := hE.c1
    have c2 := hE.c2
    have c3 := hE.c3
    have c4 := hE.c4
    have c5 := hE.c5
    subst hgaR
    have cR1 := hE.gR.cell (i := k + n) (by rw [hl1]; exact hkn)
    have cQf := hE.rQ.frozen k
    have cQ1 := hE.rQ.cell (i := k) (by rw [hl2]; exact hk)
    have er := els_at hp1 wf1 (k + n)
    have HQ := Lib.hid (HE.out.setQ (g := g) rfl (by omega) (by omega) (by omega) (by omega) (by omega) (i := k) (by rw [hl2]; exact hk) (mulF p (s.1.getD (k + n) 0) (iv0 p lead)))
    have eq := el_mul hp1 (s.1.getD (k + n) 0) (iv0 p lead)
    have HQL : Hid ((s.2.set k (mulF p (s.1.getD (k + n) 0) (iv0 p lead))).length = L) := by show _ = L; rw [List.length_set]; exact hl2
    have HST2 : Hid (stepD p b n (iv0 p lead) s k = (subN p b (mulF p (s.1.getD (k + n) 0) (iv0 p lead)) k s.1 (n + 1), s.2.set k (mulF p (s.1.getD (k + n) 0) (iv0 p lead)))) := rfl
    have HQK : Hid ((s.2.set k (mulF p (s.1.getD (k + n) 0) (iv0 p lead))).getD k 0 = mulF p (s.1.getD (k + n) 0) (iv0 p lead)) := by show _ = _; rw [getD_set', if_pos ⟨rfl, by rw [hl2]; exact hk⟩]
    have HKO : Hid (KeepsFrom w5.heap.size W ((W.setCell ⟨w4.heap.size + 1, k, none⟩ (.int .i64 (mulF p (s.1.getD (k + n) 0) (iv0 p lead)))).drew)) := ((KeepsOthers.setCell _ _ _).trans (KeepsOthers.drew _)).from _
    have HW1 := Lib.hid wf1
    have s1 : IntKind.i64.wrap ((k : Int) + (n : Int)) = (k : Int) + (n : Int) := IntWalk.i64_in _ (by omega)
    have s2 : ((k : Int) + (n : Int)).toNat = k + n := by omega
    have s3 : 0 ≤ (k : Int) + (n : Int) := by omega
    have s4 : (k : Int) + (n : Int) < (la : Int) := by omega
    have s5 : (k : Int) < (L : Int) := by omega
    clear hE hl1 hl2 wf1 wf2 hgv HGR
    obtain ⟨rv, hrv⟩ : ∃ rv, s.1.getD (k + n) 0 = rv := ⟨_, rfl⟩
    rw [hrv] at cR1 er HQ eq HQL HST2 HQK HKO
    clear hrv
    dsimp only
    gi_wp2
    refine round_still_tail 12 hmx (fun ⟨_, _, h⟩ => h) (by kernel_rfl) (by kernel_rfl) ?_
    simp only [List.take_succ_cons, List.take_zero, List.drop_succ_cons, List.drop_zero, drew_def]
    repeat still_step
    still_call (still_of (mul_el _ hp1 hp2 er ei))
    repeat still_step
    refine wpStill_nil ?_
    obtain ⟨qv, hqv⟩ : ∃ qv, mulF p rv (iv0 p lead) = qv := ⟨_, rfl⟩
    rw [hqv] at HQ eq HQL HST2 HQK HKO ⊢
    clear hqv
    go_wp2
    generalize (W.setCell ⟨w4.heap.size + 1, k, none⟩ (.int .i64 qv)).drew = W1 at *
    have hFQ : n + 1 ≤ lb := by omega
    clear c0 c1 c2 c3 c4 c5 cR1 cQf cQ1 HE er s1 s2 s3 s4
    have d1 := HQ.out.c1
    have d2 := HQ.out.c2
    have t1 : IntKind.i64.wrap ((n : Int) + 1) = (n : Int) + 1 := IntWalk.i64_in _ (by omega)
    have t2 : ((n : Int) + 1).toNat = n + 1 := by omega
    gi_wp2
    gi_loopw [14, 15, 55] (fun _ _ c wr => ∃ i : Nat, i ≤ n + 1 ∧ c = .int .i64 i ∧ Hid (DvW p w.heap.size w1.heap.size w4.heap.size w3.heap.size n L la lb cb cR (iv0 p lead) bb ob (some ⟨g, 0, none⟩) b w3 (subN p b qv k s.1 i, s.2.set k qv) wr) ∧ Hid (KeepsFrom w5.heap.size W wr)) (fun _ _ c _ => n + 1 - (intOf c).toNat)
    case atStart => exact ⟨0, Nat.zero_le _, rfl, HQ, HKO⟩
    case round =>
      obtain ⟨i, hi, rfl, HD, HK⟩ := hrel
      by_cases hlt : i < n + 1
      · have c0 := HD.out.c0
        have c4 := HD.out.c4
        have c5 := HD.out.c5
        obtain ⟨b1, o1, e1', cB⟩ := ints_at HD.out.iB hlb.out (k := i) (by omega)
        injection e1' with e1'
        injection e1' with e1' e2'
        subst e1' e2'
        have hln : (subN p b qv k s.1 i).length = la := by rw [subN_len]; exact HL1.out
        have cR1 := HD.out.gR.cell (i := k + i) (by show k + i < (subN p b qv k s.1 i).length; rw [hln]; omega)
        have fR1 := HD.out.gR.frozen (k + i)
        have cQ1 := HD.out.rQ.cell (i := k) (by rw [HQL.out]; exact hk)
        rw [HQK.out] at cQ1
        have er2 := els_at hp1 (subN_els (b := b) (q := qv) (k := k) hp1 HW1.out i) (k + i)
        have ecv := els_at hp1 hb i
        obtain ⟨cv, hcv⟩ : ∃ cv, b.getD i 0 = cv := ⟨_, rfl⟩
        obtain ⟨r2, hr2v⟩ : ∃ r2, (subN p b qv k s.1 i).getD (k + i) 0 = r2 := ⟨_, rfl⟩
        rw [hcv] at cB ecv
        dsimp only at cR1
        rw [hr2v] at cR1 er2
        have HSUB : Hid (subN p b qv k s.1 (i + 1) = (subN p b qv k s.1 i).set (k + i) (subF p r2 (mulF p qv cv))) := by show _ = _; rw [← hcv, ← hr2v]; rfl
        have HR := Lib.hid (HD.out.setR (g := g) rfl (by omega) (by omega) (by omega) (by omega) (by omega) (k + i) (subF p r2 (mulF p qv cv)))
        have HK2 : Hid (KeepsFrom w5.heap.size W ((wr.setCell ⟨g, k + i, none⟩ (.int .i64 (subF p r2 (mulF p qv cv)))).drew)) := HK.out.trans (((KeepsOthers.setCell _ _ _).trans (KeepsOthers.drew _)).from _)
        dsimp only at HR
        rw [← HSUB.out] at HR
        have u1 : IntKind.i64.wrap ((k : Int) + (i : Int)) = (k : Int) + (i : Int) := IntWalk.i64_in _ (by omega)
        have u2 : ((k : Int) + (i : Int)).toNat = k + i := by omega
        have u3 : 0 ≤ (k : Int) + (i : Int) := by omega
        have u4 : (k : Int) + (i : Int) < (la : Int) := by omega
        clear hcv hr2v HD HK hln HSUB
        gi_wp2
        refine round_still_tail 20 hmx (fun ⟨_, _, h⟩ => h) (by kernel_rfl) (by kernel_rfl) ?_
        simp only [List.take_succ_cons, List.take_zero, List.drop_succ_cons, List.drop_zero, drew_def]
        repeat still_step
        still_call (still_of (mul_el _ hp1 hp2 eq ecv))
        still_call (still_of (sub_el _ hp1 hp2 er2 (el_mul hp1 qv cv)))
        repeat still_step
        refine wpStill_nil ?_
        go_wp2
        gi_wp2
        go_roundw
        case rel => exact ⟨i + 1, by omega, by go_num, HR, HK2⟩
        case measure => simp [intOf]; omega
      · have hin : i = n + 1 := by omega
        subst hin
        gi_wp2
        refine ⟨HK.out, fun _ => HD.out.reads HQL.out, ?_⟩
        show DvW _ _ _ _ _ _ _ _ _ _ _ _ _ _ _ _ _ (runD p b n (iv0 p lead) (a, List.replicate L 0) ((pre ++ [(⟨(k, yv), hyk, trivial⟩ : BX L (fun _ _ => True))]).map (·.1.1))) _
        rw [EM.out, HST2.out]
        exact HD.out
  case done =>
    rintro D ys W hD hys hE hK
    rw [hys] at hE
    have hfin := runD_down hp (a := a) (b := b) (n := n) ha hb hn.out (by have := hL.out; rw [← hla.out]; omega) (by intro _; have := hL.out; rw [← hla.out]; omega) L (Nat.le_refl _)
    rw [HL.out, Nat.sub_self] at hfin
    have HDS := Lib.hid (divS_of hn.out hfin)
    have hl1 := hfin.len1
    have hl2 := hfin.len2
    clear hfin
    generalize runD p b n (iv0 p lead) (a, List.replicate L 0) (down L L) = s at *
    have HQN : Hid ((sh s.2).length ≤ 1000) := by show _ ≤ _; have h1 := dg_le s.2; rw [sh_len]; rw [hl2] at h1; have := hL.out; omega
    have c4 := hE.c4
    have c5 := hE.c5
    have hIQ := hE.rQ.reads (cap := L) (by rw [hl2]; have := hL.out; omega)
    rw [hl2] at hIQ
    have hIR := (hE.gR.reads (by rw [hl1, ← hla.out]; omega))
    have k4 := cell_regrown c4
    have k5 := cell_regrown c5
    have HBB := Lib.hid (HBW3.out.trans (hE.bel.mono HBW3.out.size))
    have HRI := Lib.hid hIR
    have HQI := Lib.hid hIQ
    have cQ : ∀ d os, Calls Tryz.prog 104 #[.slice (some ⟨w4.heap.size + 1, 0, none⟩) L L] (grow (redrawn W d) os) fun e w'' => e = .returned (.slice (some ⟨w4.heap.size + 1, 0, none⟩) (dg s.2) L) ∧ ∃ q : Regrown, w'' = grow (redrawn W q.d) q.os := fun d os => by
      have h := short_any (some ⟨w4.heap.size + 1, 0, none⟩) L s.2 (grow (redrawn W d) os) (by rw [hl2]; exact HQI.out.below (Nat.le_refl _) (below_regrown W d os)) (by have := dg_le s.2; omega) (by have := hL.out; omega)
      rw [hl2] at h
      exact Calls.regrown_of h
    have cR' : ∀ d os, Calls Tryz.prog 104 #[.slice aR la cR] (grow (redrawn W d) os) fun e w'' => e = .returned (.slice aR (dg s.1) cR) ∧ ∃ q : Regrown, w'' = grow (redrawn W q.d) q.os := fun d os => by
      have h := short_any aR cR s.1 (grow (redrawn W d) os) (by rw [hl1, ← hla.out]; exact HRI.out.below (Nat.le_refl _) (below_regrown W d os)) (by have := dg_le s.1; rw [hl1, ← hla.out] at this; omega) hr2
      rw [hl1, ← hla.out] at h
      exact Calls.regrown_of h
    have HK := Lib.hid hK
    have HE := Lib.hid hE
    have hsh2 : Ints W (.slice (some ⟨w4.heap.size + 1, 0, none⟩) (dg s.2) L) (sh s.2) := ints_sh (by rw [hl2]; exact HQI.out)
    have hsh1 : Ints W (.slice aR (dg s.1) cR) (sh s.1) := ints_sh (by rw [hl1, ← hla.out]; exact HRI.out)
    have HS1 := Lib.hid hsh1
    have HQB : Hid (w.heap.size ≤ w4.heap.size + 1) := by have := HBW3.out.size; show _ ≤ _; omega
    have HCR : Hid (dg s.1 ≤ cR ∧ cR ≤ 9223372036854775807) := ⟨by have := dg_le s.1; rw [hl1, ← hla.out] at this; omega, hr2⟩
    have HS2 := Lib.hid hsh2
    clear hIQ hIR hE hK hsh1 hsh2 hl1 hl2
    gi_wp2
    refine wpIn_wide.2 (wp_region_quiet_below (by kernel_rfl) (by kernel_rfl) ?_)
    repeat (quiet_step (first | exact cQ _ _ | exact cR' _ _))
    refine wpQuiet_nil ?_
    intro _ hw'
    obtain ⟨⟨dq, osq⟩, hw''⟩ := hw'
    subst hw''
    have hbq := below_regrown W dq osq
    clear cQ cR' k4 k5 c4 c5
    generalize grow (redrawn W dq) osq = W9 at *
    have HB9 := Lib.hid (HBB.out.trans (hbq.mono HBB.out.size))
    have HK9 : Hid (W9.heap[D]? = some (.deferred (some []))) := by show _ = _; rw [hbq.block D (Array.getElem?_eq_some_iff.1 HK.out).1]; exact HK.out
    have HS19 := Lib.hid (HS1.out.below (Nat.le_refl _) hbq)
    have HS29 := Lib.hid (HS2.out.below (Nat.le_refl _) hbq)
    clear hbq
    gi_wp2
    refine leaves_marks (B := w.heap.size) [D] _ HB9.out.size (by simp) (fun D' hm => by rw [List.mem_singleton.1 hm]; exact ⟨by omega, HK9.out⟩) fun W' hb' hc => ⟨_, results_tmp3 rfl _ _ _, _, _, sh s.2, sh s.1, rfl, HS29.out.of_cells hc, ⟨aR, cR, (congrArg (fun m => Value.slice aR m cR) (sh_len s.1)).symm, by rw [sh_len]; exact HCR.out.1, HCR.out.2, by rw [sh_len]; exact HS19.out.of_cells hc⟩, (fun g hg => by simp [Value.ownBlock] at hg; have := HQB.out; omega), HDS.out, HQN.out, HB9.out.trans hb'⟩
  case stop =>
    rintro D c pre W _ _ h _
    exact h.elim

set_option maxRecDepth 100000 in
set_option maxHeartbeats 8000000 in
theorem divide_small (p : Int) (aa ab : Option Addr) (la lb ca cb n : Nat) (a b : List Int) (w : World) (hp : PrmI p) (hp2 : p ≤ 1073741824) (ha : Els p a) (hb : Els p b)
    (hsa : Ints w (.slice aa la ca) a) (hsb : Ints w (.slice ab lb cb) b) (hla : Hid (la = a.length)) (hlb : Hid (lb = b.length)) (hn : Hid (dg b = n + 1)) (hl : la ≤ 1000) (hl2 : lb ≤ 1000) (hcb : n + 1 ≤ cb) (hnl : n < lb) (hL : la ≤ n) :
    CallsIn Fence.wide 6 Tryz.prog 85 #[.int .i64 p, .slice aa la ca, .slice ab lb cb] w fun e w' =>
      ∃ vq vr q r, e = .returned (.tuple #[vq, vr, .int .i64 0]) ∧ Ints w' vq q ∧ Slc w' vr r ∧ (∀ g, vq.ownBlock = some g → w.heap.size ≤ g) ∧ DivS p a b q r ∧ q.length ≤ 1000 ∧ Below w.heap.size w w' := by
  have hp0 := hp.1
  have hp1 : 1 ≤ p := by omega
  have hb0 : Below w.heap.size w ((w.alloc (.cells #[.int .i64 p] 3)).alloc (.cells #[.slice ab lb cb] 22)) := ((Below.refl _ _).alloc (Nat.le_refl _) _).alloc (by simp) _
  have HDG := Lib.hid (degree_any _ b _ (hsb.below (Nat.le_refl _) hb0))
  rw [hn.out] at HDG
  have HB0 := Lib.hid hb0
  have b0 := Boxed.new w 3 (.int .i64 p)
  have b1 := Boxed.new (w.alloc (.cells #[.int .i64 p] 3)) 22 (.slice ab lb cb)
  rw [World.size_alloc] at b1
  have C0 := Lib.hid (b0.alloc (.cells #[.slice ab lb cb] 22)).cell
  have C1 := Lib.hid b1.cell
  have e0 : ((n + 1 : Nat) : Int) - 1 = (n : Int) := by omega
  have hmx : Tryz.prog.follows .mixedOrders = true := by kernel_rfl
  clear hb0 b0 b1
  refine callsIn_of_wp_marks Tryz.func85 rfl trivial ?_ rfl
  simp only [Tryz.ntmps85, List.size_toArray, List.length_cons, List.length_nil, Nat.reduceAdd, Nat.reduceSub, Array.replicate_succ, Array.replicate_zero, List.push_toArray, List.append_toArray, List.nil_append, List.cons_append]
  have c0 := C0.out
  have c1 := C1.out
  have hsz0 : ((w.alloc (.cells #[.int .i64 p] 3)).alloc (.cells #[.slice ab lb cb] 22)).heap.size = w.heap.size + 2 := by simp
  generalize hw0 : (w.alloc (.cells #[.int .i64 p] 3)).alloc (.cells #[.slice ab lb cb] 22) = w0 at *
  have HW0 := Lib.hid hw0
  clear hw0
  gi_wp2_with (rw [HW0.out]; refine ⟨trivial, ?_⟩; gi_at_call 57; refine (callsIn_wide.2 HDG.out).mono ?_; rintro e w1 ⟨rfl, hb1⟩)
  have hbb := hb1
  have hc0 := (hb1.cell (p := ⟨w.heap.size, 0, none⟩) (by show w.heap.size < w0.heap.size; omega)).trans c0
  have hc1 := (hb1.cell (p := ⟨w.heap.size + 1, 0, none⟩) (by show w.heap.size + 1 < w0.heap.size; omega)).trans c1
  have HBW := Lib.hid (HB0.out.trans (hb1.mono HB0.out.size))
  have hs1 := hb1.size
  have hbx := (Boxed.new w1 3 (.int .i64 n)).cell
  have hbw1 : Below w1.heap.size w1 (w1.alloc (.cells #[.int .i64 n] 3)) := (Below.refl _ _).alloc (Nat.le_refl _) _
  have hd0 := (hbw1.cell (p := ⟨w.heap.size, 0, none⟩) (cell_lt hc0)).trans hc0
  have hd1 := (hbw1.cell (p := ⟨w.heap.size + 1, 0, none⟩) (cell_lt hc1)).trans hc1
  have HBW2 := Lib.hid (HBW.out.trans (hbw1.mono HBW.out.size))
  obtain ⟨bb, ob, rfl, hcl⟩ := ints_at (hsb.below (Nat.le_refl _) HBW2.out) hlb.out (k := n) hnl
  have el := els_at hp1 hb n
  obtain ⟨lead, hlead⟩ : ∃ v, b.getD n 0 = v := ⟨_, rfl⟩
  rw [hlead] at hcl el
  have HL := Lib.hid hlead
  have hs2 : (w1.alloc (.cells #[.int .i64 n] 3)).heap.size = w1.heap.size + 1 := by simp
  have hsw : w.heap.size + 2 ≤ w1.heap.size := by omega
  clear hb1 hbb hc0 hc1 hlead HDG hsz0 c0 c1 hbw1
  generalize w1.alloc (.cells #[.int .i64 n] 3) = w2 at *
  refine wpIn_wide.2 ?_
  apply region_once
  case hr =>
   go_region_held3 (fun w' => w'.cell? ⟨w.heap.size, 0, none⟩ = some (.int .i64 p) ∧ w'.cell? ⟨w.heap.size + 1, 0, none⟩ = some (.slice (some ⟨bb, ob, none⟩) lb cb) ∧ w'.cell? ⟨w1.heap.size, 0, none⟩ = some (.int .i64 n) ∧ w'.cell? ⟨bb, ob + n, none⟩ = some (.int .i64 lead)) (go_keep)
    (first | (go_at_call 102; refine (inverseOf_any _ hp0 hp2 el).mono ?_; rintro e w' ⟨rfl, rfl⟩))
   all_goals exact ⟨rfl, rfl, rfl⟩
  have hbx2 := (Boxed.new w2 3 (.int .i64 (iv0 p lead))).cell
  have hbw3 : Below w2.heap.size w2 ((w2.alloc (.cells #[.int .i64 (iv0 p lead)] 3)).drew) := ((Below.refl _ _).alloc (Nat.le_refl _) _).drew
  have f0 := (hbw3.cell (p := ⟨w.heap.size, 0, none⟩) (cell_lt hd0)).trans hd0
  have f1 := (hbw3.cell (p := ⟨w.heap.size + 1, 0, none⟩) (cell_lt hd1)).trans hd1
  have f2 := (hbw3.cell (p := ⟨w1.heap.size, 0, none⟩) (cell_lt hbx)).trans hbx
  have f3 : ((w2.alloc (.cells #[.int .i64 (iv0 p lead)] 3)).drew).cell? ⟨w1.heap.size + 1, 0, none⟩ = some (.int .i64 (iv0 p lead)) := by rw [← hs2]; exact hbx2
  have HBW3 := Lib.hid (HBW2.out.trans (hbw3.mono HBW2.out.size))
  have hs3 : ((w2.alloc (.cells #[.int .i64 (iv0 p lead)] 3)).drew).heap.size = w1.heap.size + 2 := by show (w2.alloc _).heap.size = _; simp; omega
  have ei := iv0_el hp1 lead
  have HBb : Hid (bb < w1.heap.size + 1) := by show bb < _; rw [← hs2]; exact cell_lt hcl
  clear hbx hbx2 hbw3 hd0 hd1 hcl hs2
  generalize (w2.alloc (.cells #[.int .i64 (iv0 p lead)] 3)).drew = w3 at *
  have HSA := Lib.hid (hsa.below (Nat.le_refl _) HBW3.out)
  have HSB3 := Lib.hid (hsb.below (Nat.le_refl _) HBW3.out)
  have hmk : ∀ w : World, (Instr.makeSlice 22 (.int .i64 0) (.int .i64 0)).run Tryz.prog w = _ := run_make_row' (P := Tryz.prog) 22 3 (.int .i64 0) 8 Tryz.underlying22 infoInt rfl .i64 .i64 0 (by omega) (by omega)
  have e1 : (la : Int) - (n : Int) ≤ 0 := by omega
  gi_wp2_with fail
  refine ⟨trivial, (callsIn_wide.2 (clone_any _ a _ HSA.out (by rw [← hla.out]; omega))).mono ?_⟩
  rintro e w4 ⟨vR, rfl, hgR, hb4⟩
  have hsl : ∃ aR cR, vR = .slice aR la cR ∧ la ≤ cR ∧ cR ≤ 9223372036854775807 := by
    obtain ⟨aR, cR, e, q1, q2, _⟩ := hgR.slc (by rw [← hla.out]; omega)
    rw [← hla.out] at e q1
    exact ⟨aR, cR, e, q1, q2⟩
  obtain ⟨aR, cR, rfl, hr1, hr2⟩ := hsl
  have g0 := (hb4.cell (p := ⟨w.heap.size, 0, none⟩) (cell_lt f0)).trans f0
  have g1 := (hb4.cell (p := ⟨w.heap.size + 1, 0, none⟩) (cell_lt f1)).trans f1
  have g2 := (hb4.cell (p := ⟨w1.heap.size, 0, none⟩) (cell_lt f2)).trans f2
  have g3 := (hb4.cell (p := ⟨w1.heap.size + 1, 0, none⟩) (cell_lt f3)).trans f3
  have g2a : (w4.alloc (.cells #[.slice aR la cR] 22)).cell? ⟨w1.heap.size, 0, none⟩ = some (.int .i64 n) := (((Below.refl w4.heap.size w4).alloc (Nat.le_refl _) (.cells #[.slice aR la cR] 22)).cell (p := ⟨w1.heap.size, 0, none⟩) (cell_lt g2)).trans g2
  have HGR := Lib.hid hgR
  have HB4 := Lib.hid hb4
  have hs4 := hb4.size
  clear hgR hb4 f0 f1 f2 f3
  gi_wp2_with (refine ⟨trivial, ?_⟩; gi_at_call 58; refine (callsIn_wide.2 (backward_any _ _ _ _)).mono ?_; rintro e w' ⟨rfl, rfl⟩)
  have hw5 : Below w4.heap.size w4 ((((w4.alloc (.cells #[.slice aR la cR] 22)).alloc (.cells (madeCells #[.int .i64 0] 0) 3)).alloc (.cells #[.slice (some ⟨w4.heap.size + 1, 0, none⟩) 0 0] 22)).alloc (.cells #[.slice (some ⟨w4.heap.size + 1, 0, none⟩) 0 0] 22)) :=
    ((((Below.refl _ _).alloc (Nat.le_refl _) _).alloc (by simp) _).alloc (by simp <;> omega) _).alloc (by simp <;> omega) _
  have b4 := Boxed.new w4 22 (.slice aR la cR)
  have b5 := Boxed.new ((w4.alloc (.cells #[.slice aR la cR] 22)).alloc (.cells (madeCells #[.int .i64 0] 0) 3)) 22 (.slice (some ⟨w4.heap.size + 1, 0, none⟩) 0 0)
  have b6 := Boxed.new (((w4.alloc (.cells #[.slice aR la cR] 22)).alloc (.cells (madeCells #[.int .i64 0] 0) 3)).alloc (.cells #[.slice (some ⟨w4.heap.size + 1, 0, none⟩) 0 0] 22)) 22 (.slice (some ⟨w4.heap.size + 1, 0, none⟩) 0 0)
  have rQ := Row.made (w4.alloc (.cells #[.slice aR la cR] 22)) 0
  simp only [World.size_alloc] at b5 b6 rQ
  have hbb : bb < w3.heap.size := by
    have h := HBb.out
    omega
  have hst : DvW p w.heap.size w1.heap.size w4.heap.size w3.heap.size n 0 la lb cb cR (iv0 p lead) bb ob aR b w3 (a, List.replicate 0 0) ((((w4.alloc (.cells #[.slice aR la cR] 22)).alloc (.cells (madeCells #[.int .i64 0] 0) 3)).alloc (.cells #[.slice (some ⟨w4.heap.size + 1, 0, none⟩) 0 0] 22)).alloc (.cells #[.slice (some ⟨w4.heap.size + 1, 0, none⟩) 0 0] 22)) :=
    ⟨(hw5.cell (p := ⟨w.heap.size, 0, none⟩) (cell_lt g0)).trans g0, (hw5.cell (p := ⟨w.heap.size + 1, 0, none⟩) (cell_lt g1)).trans g1, (hw5.cell (p := ⟨w1.heap.size, 0, none⟩) (cell_lt g2)).trans g2, (hw5.cell (p := ⟨w1.heap.size + 1, 0, none⟩) (cell_lt g3)).trans g3,
      (((b4.alloc _).alloc _).alloc _).cell, (b5.alloc _).cell, b6.cell, HGR.out.kept hw5 (Nat.le_refl _), (rQ.alloc _).alloc _, (HSB3.out.below (Nat.le_refl _) HB4.out).below (Nat.le_refl _) hw5, HB4.out.trans (hw5.mono hs4)⟩
  have HST := Lib.hid hst
  have hs5 : ((((w4.alloc (.cells #[.slice aR la cR] 22)).alloc (.cells (madeCells #[.int .i64 0] 0) 3)).alloc (.cells #[.slice (some ⟨w4.heap.size + 1, 0, none⟩) 0 0] 22)).alloc (.cells #[.slice (some ⟨w4.heap.size + 1, 0, none⟩) 0 0] 22)).heap.size = w4.heap.size + 4 := by simp
  clear hw5 b4 b5 b6 rQ hst g0 g1 g2 g3 g2a hmk
  generalize (((w4.alloc (.cells #[.slice aR la cR] 22)).alloc (.cells (madeCells #[.int .i64 0] 0) 3)).alloc (.cells #[.slice (some ⟨w4.heap.size + 1, 0, none⟩) 0 0] 22)).alloc (.cells #[.slice (some ⟨w4.heap.size + 1, 0, none⟩) 0 0] 22) = w5 at *
  have hseq := back_stops (6 - 1) (by omega) (w4.heap.size + 1 + 1 + 1) (some ⟨w4.heap.size + 1, 0, none⟩) 0 0 (fun _ _ => True) (by omega) w5 (HST.out.reads (by simp))
  refine wpIn_rangeFunc_ownG (α := BX 0 (fun _ _ => True)) (F := Fence.wide) (n := 6) (ps := #[36, 37]) rfl (by omega) (gf := 88) (lb := #[.pointer (some ⟨w4.heap.size + 1 + 1 + 1, 0, none⟩)]) rfl trivial (enters_of Tryz.func88 (by kernel_rfl) rfl)
    hseq (fun h k x => k (h x)) (fun W l o o' _ hl ho _ h => h.of_cells fun p v hp => cell_putObj hl ho hp) (Below.refl _ _) (fun _ => rfl)
    (fun pre W => DvW p w.heap.size w1.heap.size w4.heap.size w3.heap.size n 0 la lb cb cR (iv0 p lead) bb ob aR b w3 (runD p b n (iv0 p lead) (a, List.replicate 0 0) (pre.map (·.1.1))) W)
    (fun _ _ _ => False)
    (dvW_own (fun pre : List (BX 0 (fun _ _ => True)) => runD p b n (iv0 p lead) (a, List.replicate 0 0) (pre.map (·.1.1))) (by omega) (Nat.le_refl _))
    (fun _ _ _ _ _ hs _ _ => hs)
    HST.out
    (fun y => { tmps := #[.int .i64 p, .slice aa la ca, .slice (some ⟨bb, ob, none⟩) lb cb, .pointer (some ⟨w.heap.size, 0, none⟩), undef, .pointer (some ⟨w.heap.size + 1, 0, none⟩), .slice none 0 0, .slice none 0 0, .int .i64 0, .pointer (some ⟨w1.heap.size, 0, none⟩), .pointer (some ⟨w1.heap.size + 1, 0, none⟩), .pointer (some ⟨w4.heap.size, 0, none⟩), .pointer (some ⟨w4.heap.size + 1 + 1, 0, none⟩), .int .i64 (y.1.1 : Int), undef, undef, .slice (some ⟨bb, ob, none⟩) lb cb, .int .i64 n, .int .i64 n, .bool (decide ((n : Int) < 0)), .int .i64 p, .slice (some ⟨bb, ob, none⟩) lb cb, .int .i64 n, .pointer (some ⟨bb, ob + n, none⟩), .int .i64 lead, .int .i64 (iv0 p lead), .slice aa la ca, .slice aR la cR, .slice aa la ca, .int .i64 la, .int .i64 n, .int .i64 (la - n), .int .i64 0, .slice (some ⟨w4.heap.size + 1, 0, none⟩) 0 0, .slice (some ⟨w4.heap.size + 1, 0, none⟩) 0 0, .func (.func 88) #[] #[.pointer (some ⟨w4.heap.size + 1 + 1 + 1, 0, none⟩)], .int .i64 (y.1.1 : Int), .int .i64 y.1.2, undef, undef, undef, undef, undef, undef, undef, undef, undef, undef, undef, undef, undef, undef, undef, undef, undef, undef, undef, undef, undef, undef, undef, undef, undef, undef, undef, undef, undef, undef, undef, undef, undef, undef, undef, undef, undef, undef, undef, undef, undef, undef, undef, undef, undef, undef, undef], defers := [] }) ?assign ?body ?done ?stop
  case assign =>
    intro l x W K hK
    gi_wp2
    exact hK
  case body =>
    rintro lp pre y W hE _
    exact absurd y.2.1 (Nat.not_lt_zero _)
  case done =>
    rintro D ys W hD hys hE hK
    rw [hys] at hE
    have hfin := runD_down hp (a := a) (b := b) (n := n) ha hb hn.out (by rw [← hla.out]; omega) (by intro h; exact absurd h (Nat.lt_irrefl _)) 0 (Nat.le_refl _)
    rw [HL.out, Nat.sub_self] at hfin
    have HDS := Lib.hid (divS_of hn.out hfin)
    have hl1 := hfin.len1
    have hl2 := hfin.len2
    clear hfin
    generalize runD p b n (iv0 p lead) (a, List.replicate 0 0) (down 0 0) = s at *
    have HQN : Hid ((sh s.2).length ≤ 1000) := by show _ ≤ _; have h1 := dg_le s.2; rw [sh_len]; rw [hl2] at h1; omega
    have c4 := hE.c4
    have c5 := hE.c5
    have hIQ := hE.rQ.reads (cap := 0) (by rw [hl2]; omega)
    rw [hl2] at hIQ
    have hIR := (hE.gR.reads (by rw [hl1, ← hla.out]; omega))
    have k4 := cell_regrown c4
    have k5 := cell_regrown c5
    have HBB := Lib.hid (HBW3.out.trans (hE.bel.mono HBW3.out.size))
    have HRI := Lib.hid hIR
    have HQI := Lib.hid hIQ
    have cQ : ∀ d os, Calls Tryz.prog 104 #[.slice (some ⟨w4.heap.size + 1, 0, none⟩) 0 0] (grow (redrawn W d) os) fun e w'' => e = .returned (.slice (some ⟨w4.heap.size + 1, 0, none⟩) (dg s.2) 0) ∧ ∃ q : Regrown, w'' = grow (redrawn W q.d) q.os := fun d os => by
      have h := short_any (some ⟨w4.heap.size + 1, 0, none⟩) 0 s.2 (grow (redrawn W d) os) (by rw [hl2]; exact HQI.out.below (Nat.le_refl _) (below_regrown W d os)) (by have := dg_le s.2; omega) (by omega)
      rw [hl2] at h
      exact Calls.regrown_of h
    have cR' : ∀ d os, Calls Tryz.prog 104 #[.slice aR la cR] (grow (redrawn W d) os) fun e w'' => e = .returned (.slice aR (dg s.1) cR) ∧ ∃ q : Regrown, w'' = grow (redrawn W q.d) q.os := fun d os => by
      have h := short_any aR cR s.1 (grow (redrawn W d) os) (by rw [hl1, ← hla.out]; exact HRI.out.below (Nat.le_refl _) (below_regrown W d os)) (by have := dg_le s.1; rw [hl1, ← hla.out] at this; omega) hr2
      rw [hl1, ← hla.out] at h
      exact Calls.regrown_of h
    have HK := Lib.hid hK
    have HE := Lib.hid hE
    have hsh2 : Ints W (.slice (some ⟨w4.heap.size + 1, 0, none⟩) (dg s.2) 0) (sh s.2) := ints_sh (by rw [hl2]; exact HQI.out)
    have hsh1 : Ints W (.slice aR (dg s.1) cR) (sh s.1) := ints_sh (by rw [hl1, ← hla.out]; exact HRI.out)
    have HS1 := Lib.hid hsh1
    have HQB : Hid (w.heap.size ≤ w4.heap.size + 1) := by have := HBW3.out.size; show _ ≤ _; omega
    have HCR : Hid (dg s.1 ≤ cR ∧ cR ≤ 9223372036854775807) := ⟨by have := dg_le s.1; rw [hl1, ← hla.out] at this; omega, hr2⟩
    have HS2 := Lib.hid hsh2
    clear hIQ hIR hE hK hsh1 hsh2 hl1 hl2
    gi_wp2
    refine wpIn_wide.2 (wp_region_quiet_below (by kernel_rfl) (by kernel_rfl) ?_)
    repeat (quiet_step (first | exact cQ _ _ | exact cR' _ _))
    refine wpQuiet_nil ?_
    intro _ hw'
    obtain ⟨⟨dq, osq⟩, hw''⟩ := hw'
    subst hw''
    have hbq := below_regrown W dq osq
    clear cQ cR' k4 k5 c4 c5
    generalize grow (redrawn W dq) osq = W9 at *
    have HB9 := Lib.hid (HBB.out.trans (hbq.mono HBB.out.size))
    have HK9 : Hid (W9.heap[D]? = some (.deferred (some []))) := by show _ = _; rw [hbq.block D (Array.getElem?_eq_some_iff.1 HK.out).1]; exact HK.out
    have HS19 := Lib.hid (HS1.out.below (Nat.le_refl _) hbq)
    have HS29 := Lib.hid (HS2.out.below (Nat.le_refl _) hbq)
    clear hbq
    gi_wp2
    refine leaves_marks (B := w.heap.size) [D] _ HB9.out.size (by simp) (fun D' hm => by rw [List.mem_singleton.1 hm]; exact ⟨by omega, HK9.out⟩) fun W' hb' hc => ⟨_, results_tmp3 rfl _ _ _, _, _, sh s.2, sh s.1, rfl, HS29.out.of_cells hc, ⟨aR, cR, (congrArg (fun m => Value.slice aR m cR) (sh_len s.1)).symm, by rw [sh_len]; exact HCR.out.1, HCR.out.2, by rw [sh_len]; exact HS19.out.of_cells hc⟩, (fun g hg => by simp [Value.ownBlock] at hg; have := HQB.out; omega), HDS.out, HQN.out, HB9.out.trans hb'⟩
  case stop =>
    rintro D c pre W _ _ h _
    exact h.elim


/-- Divide, whatever the lengths. -/
theorem divide_slc (p : Int) (aa ab : Option Addr) (la lb ca cb n : Nat) (a b : List Int) (w : World) (hp : PrmI p) (hp2 : p ≤ 1073741824) (ha : Els p a) (hb : Els p b)
    (hsa : Ints w (.slice aa la ca) a) (hsb : Ints w (.slice ab lb cb) b) (hla : la = a.length) (hlb : lb = b.length) (hn : dg b = n + 1) (hl : la ≤ 1000) (hl2 : lb ≤ 1000) (hcb : lb ≤ cb) :
    CallsIn Fence.wide 6 Tryz.prog 85 #[.int .i64 p, .slice aa la ca, .slice ab lb cb] w fun e w' =>
      ∃ vq vr q r, e = .returned (.tuple #[vq, vr, .int .i64 0]) ∧ Ints w' vq q ∧ Slc w' vr r ∧ (∀ g, vq.ownBlock = some g → w.heap.size ≤ g) ∧ DivS p a b q r ∧ q.length ≤ 1000 ∧ Below w.heap.size w w' := by
  have hd := dg_le b
  have h1 : n + 1 ≤ cb := by omega
  have h2 : n < lb := by omega
  by_cases h : n < la
  · exact divide_in p aa ab la lb ca cb n a b w hp hp2 ha hb hsa hsb (Lib.hid hla) (Lib.hid hlb) (Lib.hid hn) hl hl2 h1 h2 (la - n) (Lib.hid ⟨h, rfl⟩)
  · exact divide_small p aa ab la lb ca cb n a b w hp hp2 ha hb hsa hsb (Lib.hid hla) (Lib.hid hlb) (Lib.hid hn) hl hl2 h1 h2 (by omega)
theorem divide_any (p : Int) (aa ab : Option Addr) (la lb ca cb n : Nat) (a b : List Int) (w : World) (hp : PrmI p) (hp2 : p ≤ 1073741824) (ha : Els p a) (hb : Els p b)
    (hsa : Ints w (.slice aa la ca) a) (hsb : Ints w (.slice ab lb cb) b) (hla : la = a.length) (hlb : lb = b.length) (hn : dg b = n + 1) (hl : la ≤ 1000) (hl2 : lb ≤ 1000) (hcb : lb ≤ cb) :
    CallsIn Fence.wide 6 Tryz.prog 85 #[.int .i64 p, .slice aa la ca, .slice ab lb cb] w fun e w' =>
      ∃ vq vr q r, e = .returned (.tuple #[vq, vr, .int .i64 0]) ∧ Ints w' vq q ∧ Ints w' vr r ∧ DivS p a b q r ∧ q.length ≤ 1000 ∧ Below w.heap.size w w' :=
  (divide_slc p aa ab la lb ca cb n a b w hp hp2 ha hb hsa hsb hla hlb hn hl hl2 hcb).mono fun _ _ ⟨vq, vr, q, r, h1, h2, h3, _, h4⟩ => ⟨vq, vr, q, r, h1, h2, h3.ints, h4⟩
end Go.Proofs.YtpgbjnenllfmlaaGreatDoor
