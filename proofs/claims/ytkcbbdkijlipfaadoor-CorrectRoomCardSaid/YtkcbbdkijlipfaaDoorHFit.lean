
/- Good lists of shares: the document's Good. -/
import Derived.Test.YtkcbbdkijlipfaaDoorHTur
import Derived.Lib.QuietBelow
import Derived.BigQuiet
import Derived.Test.YtkcbbdkijlipfaaDoorRfI
/-! Good lists of shares: the document's Good. -/
namespace Go.Proofs.YtkcbbdkijlipfaaDoor
open Go.RowKit Go.Sort
open Num
set_option linter.unusedVariables false

theorem ShAt.below {w w' : World} {g B : Nat} {h : Int} {v : Value} (k : ShAt w g h v) (b : Below B w w') (hg : g < B) : ShAt w' g h v := by
  obtain ⟨t, k⟩ := k
  exact ⟨t, by rw [b.block g hg]; exact k⟩
/-- One share of a list is as Good asks. -/
def GoodAt (p n : Int) (L : List Shr) (i : Nat) : Prop := stB p n (L.getD i (0, [])) = true ∧ (L.getD i (0, [])).2.length = (L.getD 0 (0, [])).2.length ∧ (L.getD i (0, [])).2.length ≤ 2048 ∧ ∀ j, j < i → (L.getD j (0, [])).1 ≠ (L.getD i (0, [])).1
noncomputable def goodB (p n : Int) (L : List Shr) : Bool := @decide (∀ i, i < L.length → GoodAt p n L i) (Classical.propDecidable _)
theorem goodB_true {p n : Int} {L : List Shr} (h : ∀ i, i < L.length → GoodAt p n L i) : goodB p n L = true := by
  unfold goodB
  exact @decide_eq_true _ (Classical.propDecidable _) h
theorem goodB_false {p n : Int} {L : List Shr} {i : Nat} (hi : i < L.length) (h : ¬ GoodAt p n L i) : goodB p n L = false := by
  unfold goodB
  exact @decide_eq_false _ (Classical.propDecidable _) (fun e => h (e i hi))
theorem goodB_parts {p n : Int} {L : List Shr} (h : goodB p n L = true) : ∀ i, i < L.length → GoodAt p n L i := by
  unfold goodB at h
  exact @of_decide_eq_true _ (Classical.propDecidable _) h

end Go.Proofs.YtkcbbdkijlipfaaDoor
/-! The points of shares: the document's Points. -/
namespace Go.Proofs.YtkcbbdkijlipfaaDoor
open Go.RowKit Go.Sort
open Num
set_option linter.unusedVariables false

/-- 'append(v, y)', v a slice of the call's own: where the new slice lies. -/
theorem run_append_gathB {W : World} {B : Nat} {v : Value} {zs : List Int} (hown : Gath W B v zs) (ad : Nat) (y : Int) (hc : W.cell? ⟨ad, 0, none⟩ = some (.int .i64 y)) (hlen : zs.length ≤ 1000000) (hB : B ≤ W.heap.size) (ty : TypeId) :
    ∃ v' W', (Builtin.append_ #[22, 22] ty #[v, .slice (some ⟨ad, 0, none⟩) 1 1]).run Tryd.prog W = .ok v' W' ∧ Gath W' B v' (zs ++ [y]) ∧ W.grownBy W' v.ownBlock ∧ (v'.ownBlock = v.ownBlock ∨ v'.ownBlock = some W.heap.size) := by
  obtain ⟨i0, hi, hz0, hz1, hz2⟩ := info_parts infoInt
  obtain ⟨v', W', h1, h2, h3, _, h5⟩ := run_append_own_at (P := Tryd.prog) W B 22 ty 3 i0 (.int .i64 0) 1 8 Tryd.underlying22 hi hz0 hz1 hz2 rfl (by decide) v zs.length (zs.map (Value.int .i64)) hown ⟨ad, 0, none⟩ 1 1 [.int .i64 y] rfl (by
    intro j u hj
    match j, hj with
    | 0, hj =>
      simp at hj; subst hj
      have e : (⟨ad, 0, none⟩ : Addr).add 0 = ⟨ad, 0, none⟩ := by unfold Addr.add; simp
      rw [e]; exact hc) (by intro u hu; simp at hu; subst hu; rfl) (by unfold maxLen; omega) (by omega) hB
  exact ⟨v', W', h1, by unfold Gath; simpa using h2, h3, h5⟩
/-- Two slices of the call's own, that lie apart. -/
structure TwoG (w0 : World) (g : Nat) (W : World) (vx vy : Value) (X Y : List Int) : Prop where
  gx : Gath W g vx X
  gy : Gath W g vy Y
  ne : ∀ q, vx.ownBlock = some q → vy.ownBlock ≠ some q
  be : Below g w0 W
  sz : g ≤ W.heap.size
theorem TwoG.below {w0 W W' : World} {g B : Nat} {vx vy : Value} {X Y : List Int} (h : TwoG w0 g W vx vy X Y) (b : Below B W W') (hB : W.heap.size ≤ B) : TwoG w0 g W' vx vy X Y :=
  ⟨h.gx.kept b hB, h.gy.kept b hB, h.ne, h.be.trans (b.mono (Nat.le_trans h.sz hB)), Nat.le_trans h.sz b.size⟩
theorem TwoG.alloc {w0 W : World} {g : Nat} {vx vy : Value} {X Y : List Int} (h : TwoG w0 g W vx vy X Y) (o : Obj) : TwoG w0 g (W.alloc o) vx vy X Y :=
  h.below ((Below.refl _ _).alloc (Nat.le_refl _) o) (Nat.le_refl _)
theorem gath_kept_row {w w' : World} {B : Nat} {v : Value} {zs : List Int} {row : Option Nat} (h : Gath w B v zs) (k : w.grownBy w' row) (hr : ∀ q, v.ownBlock = some q → row ≠ some q) : Gath w' B v zs :=
  World.ownsRow.kept h k (by
    cases e : v.ownBlock with
    | none => exact .inl rfl
    | some q => exact .inr (fun e2 => hr q e e2.symm))
theorem TwoG.appX {w0 W : World} {g : Nat} {vx vy : Value} {X Y : List Int} (h : TwoG w0 g W vx vy X Y) (hl : X.length ≤ 1000000) (ad : Nat) (y : Int) (hc : W.cell? ⟨ad, 0, none⟩ = some (.int .i64 y)) (ty : TypeId) :
    ∃ v' W', (Builtin.append_ #[22, 22] ty #[vx, .slice (some ⟨ad, 0, none⟩) 1 1]).run Tryd.prog W = .ok v' W' ∧ TwoG w0 g W' v' vy (X ++ [y]) Y ∧ W.grownBy W' vx.ownBlock ∧ (v'.ownBlock = vx.ownBlock ∨ v'.ownBlock = some W.heap.size) := by
  obtain ⟨v', W', h1, h2, h3, h4⟩ := run_append_gathB h.gx ad y hc hl h.sz ty
  refine ⟨v', W', h1, ⟨h2, gath_kept_row h.gy h3 (fun q hq e => h.ne q e hq), fun q hq e => ?_, h.be.grown h3 h.sz (fun k hk => (World.ownsRow.lt h.gx k hk).1), Nat.le_trans h.sz h3.size⟩, h3, h4⟩
  have hy := World.ownsRow.lt h.gy q e
  rcases h4 with h4 | h4
  · rw [h4] at hq; exact h.ne q hq e
  · rw [h4] at hq; simp at hq; omega
theorem TwoG.appY {w0 W : World} {g : Nat} {vx vy : Value} {X Y : List Int} (h : TwoG w0 g W vx vy X Y) (hl : Y.length ≤ 1000000) (ad : Nat) (y : Int) (hc : W.cell? ⟨ad, 0, none⟩ = some (.int .i64 y)) (ty : TypeId) :
    ∃ v' W', (Builtin.append_ #[22, 22] ty #[vy, .slice (some ⟨ad, 0, none⟩) 1 1]).run Tryd.prog W = .ok v' W' ∧ TwoG w0 g W' vx v' X (Y ++ [y]) ∧ W.grownBy W' vy.ownBlock ∧ (v'.ownBlock = vy.ownBlock ∨ v'.ownBlock = some W.heap.size) := by
  obtain ⟨v', W', h1, h2, h3, h4⟩ := run_append_gathB h.gy ad y hc hl h.sz ty
  refine ⟨v', W', h1, ⟨gath_kept_row h.gx h3 (fun q hq e => h.ne q hq e), h2, fun q hq e => ?_, h.be.grown h3 h.sz (fun k hk => (World.ownsRow.lt h.gy k hk).1), Nat.le_trans h.sz h3.size⟩, h3, h4⟩
  have hx := World.ownsRow.lt h.gx q hq
  rcases h4 with h4 | h4
  · rw [h4] at e; exact h.ne q hq e
  · rw [h4] at e; simp at e; omega
theorem cell_alloc_new (w : World) (x : Value) (t : TypeId) (k : Nat) (hk : w.heap.size = k) : (w.alloc (.cells #[x] t)).cell? ⟨k, 0, none⟩ = some x := by
  rw [← hk, cell_new]; rfl
theorem cell_alloc_old (w : World) (o : Obj) (a : Addr) (v : Value) (h : w.cell? a = some v) : (w.alloc o).cell? a = some v := by
  rw [((Below.refl w.heap.size w).alloc (Nat.le_refl _) o).cell (cell_lt h)]; exact h

/-- A region whose orders all end alike, but for two values and two places. -/
theorem region_oneQ {P : Program} {id : Nat} {ops : Array Oper} {d : Bool} {Q : Exit → Act → World → Prop} {a : Act} {w : World} (R : Value → Value → World → Prop) (A : Value → Value → Nat → Nat → Act) (hr : (Code.region id ops d).wp P (fun e a' W => e = .normal ∧ ∃ v x n m, a' = A v x n m ∧ R v x W) a w)
    (h : ∀ v x n m W, R v x W → Q .normal (A v x n m) W) : (Code.region id ops d).wp P Q a w :=
  Code.wp_mono (fun _ _ _ ⟨h1, v, x, n, m, h2, h3⟩ => by subst h1; subst h2; exact h v x n m _ h3) hr
end Go.Proofs.YtkcbbdkijlipfaaDoor
/-! Shares combined: the document's Combine. -/
namespace Go.Proofs.YtkcbbdkijlipfaaDoor
open Go.RowKit Go.Sort
open Num
set_option linter.unusedVariables false

theorem wsum_ipv (p : Int) (xs ys : List Int) (x : Int) (n : Nat) (h : n = xs.length) : wsum p xs ys x n % p = ipv p xs ys x := by
  subst h; rfl
theorem goodB_gd {p n : Int} {N m : Nat} {L : List Shr} (hn : n = (N : Int)) (h : goodB p n L = true) (hm : (L.getD 0 (0, [])).2.length = m) : Gd p N m L := by
  have hg := goodB_parts h
  have hat : ∀ s ∈ L, ∃ i, i < L.length ∧ L.getD i (0, []) = s := fun s hs => by
    obtain ⟨i, hi, e⟩ := List.mem_iff_getElem.1 hs
    exact ⟨i, hi, by rw [List.getD_eq_getElem?_getD, List.getElem?_eq_getElem hi]; exact e⟩
  refine ⟨fun s hs => ?_, fun s hs => ?_, fun s hs => ?_, ?_⟩
  · obtain ⟨i, hi, rfl⟩ := hat s hs
    have h1 := (hg i hi).1
    unfold stB at h1
    simp only [Bool.and_eq_true, decide_eq_true_eq] at h1
    rw [← hn]
    exact h1.1
  · obtain ⟨i, hi, rfl⟩ := hat s hs
    have h1 := (hg i hi).1
    unfold stB at h1
    simp only [Bool.and_eq_true, decide_eq_true_eq] at h1
    exact els_of_elB h1.2
  · obtain ⟨i, hi, rfl⟩ := hat s hs
    rw [(hg i hi).2.1, hm]
  · rw [List.nodup_iff_pairwise_ne, List.pairwise_iff_getElem]
    intro i j hi hj hij
    rw [List.length_map] at hi hj
    have h1 := (hg j hj).2.2.2 i hij
    rw [List.getElem_map, List.getElem_map]
    simp only [List.getD_eq_getElem?_getD, List.getElem?_eq_getElem hi, List.getElem?_eq_getElem hj, Option.getD_some] at h1
    exact h1
theorem goodB_big {p n : Int} {L : List Shr} (h : goodB p n L = true) (h0 : 0 < L.length) : (L.getD 0 (0, [])).2.length ≤ 2048 := (goodB_parts h 0 h0).2.2.1
/-- The values at place i of good shares are elements. -/
theorem gd_ys {p : Int} {N m : Nat} {L : List Shr} (hp : 1 ≤ p) (h : Gd p N m L) (i : Nat) : Els p (L.map fun s : Shr => s.2.getD i 0) := fun x hx => by
  obtain ⟨s, hs, rfl⟩ := List.mem_map.1 hx
  exact els_getD hp (h.els s hs) i
/-- The error of Combine, and what it returns. -/
noncomputable def combE (p k n : Int) (L : List Shr) : Int := if planB p k n = true ∧ goodB p n L = true then (if (L.length : Int) < k then 5 else 0) else 1
noncomputable def combL (p k n : Int) (L : List Shr) : List Int := if combE p k n L = 0 then cmbV p k.toNat L else []
/-- The values up to place i. -/
def cmbTo (p : Int) (K : Nat) (L : List Shr) (i : Nat) : List Int := (List.range i).map fun j => shV p K L j 0
theorem cmbTo_succ (p : Int) (K : Nat) (L : List Shr) (i : Nat) : cmbTo p K L (i + 1) = cmbTo p K L i ++ [shV p K L i 0] := by simp [cmbTo, List.range_succ]
theorem cmbTo_len (p : Int) (K : Nat) (L : List Shr) (i : Nat) : (cmbTo p K L i).length = i := by simp [cmbTo]
/-- A part of a list of shares. -/
theorem Shares.take {w : World} {a : Option Addr} {n c : Nat} {L : List Shr} (h : Shares w (.slice a n c) L) (k c' : Nat) (hk : k ≤ n) (hc : k ≤ c') (hc2 : c' ≤ 9223372036854775807) : Shares w (.slice a k c') (L.take k) := by
  obtain ⟨a', c2, hv, h1, h2, h3, hx⟩ := h
  simp only [Value.slice.injEq] at hv
  obtain ⟨rfl, rfl, rfl⟩ := hv
  have hl : (L.take k).length = k := by rw [List.length_take]; omega
  refine ⟨a, c', by rw [hl], by omega, by omega, hc2, fun hne => ?_⟩
  have h0 : 0 < k := by rw [← hl]; exact List.length_pos_iff.2 hne
  obtain ⟨b, off, e, hcell⟩ := hx (fun e => by subst e; simp at hk; omega)
  refine ⟨b, off, e, fun i hi => ?_⟩
  rw [hl] at hi
  have e3 : (L.take k).getD i (0, []) = L.getD i (0, []) := by simp [List.getD, hi]
  rw [e3]
  exact hcell i (by omega)
end Go.Proofs.YtkcbbdkijlipfaaDoor
/-! Shares combined: the document's Combine, with its errors. -/
namespace Go.Proofs.YtkcbbdkijlipfaaDoor
open Go.RowKit Go.Sort
open Num
set_option linter.unusedVariables false

end Go.Proofs.YtkcbbdkijlipfaaDoor
/-! Which shares fit: the document's Fits. -/
namespace Go.Proofs.YtkcbbdkijlipfaaDoor
open Go.RowKit Go.Sort
open Num
set_option linter.unusedVariables false

noncomputable def fitB (p k n : Int) (L : List Shr) : Bool := @decide (planB p k n = true ∧ goodB p n L = true ∧ ((L.length : Int) ≤ k ∨ FitsP p k.toNat L)) (Classical.propDecidable _)
theorem fitB_true {p k n : Int} {L : List Shr} (h1 : planB p k n = true) (h2 : goodB p n L = true) (h3 : (L.length : Int) ≤ k ∨ FitsP p k.toNat L) : fitB p k n L = true := by
  unfold fitB
  exact @decide_eq_true _ (Classical.propDecidable _) ⟨h1, h2, h3⟩
theorem fitB_false {p k n : Int} {L : List Shr} (h : ¬ (planB p k n = true ∧ goodB p n L = true ∧ ((L.length : Int) ≤ k ∨ FitsP p k.toNat L))) : fitB p k n L = false := by
  unfold fitB
  exact @decide_eq_false _ (Classical.propDecidable _) h
/-- What is asked of place i, up to share j. -/
def FitAt (p : Int) (K : Nat) (L : List Shr) (i j : Nat) : Prop := shV p K L i (L.getD j (0, [])).1 = (L.getD j (0, [])).2.getD i 0

end Go.Proofs.YtkcbbdkijlipfaaDoor
