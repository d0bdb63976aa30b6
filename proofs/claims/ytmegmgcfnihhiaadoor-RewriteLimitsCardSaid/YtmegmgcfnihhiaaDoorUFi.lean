
/- The first match of rules. -/
import Derived.Test.YtmegmgcfnihhiaaDoorUIt
namespace Go.Proofs.YtmegmgcfnihhiaaDoor
open Go.RowKit Go.Shelf
set_option linter.unusedVariables false
set_option linter.unusedSimpArgs false
attribute [local go_sem] Oper.semAt_some

theorem cell_putO {W : World} {l : Nat} {o o' : Obj} (hl : W.heap[l]? = some o) (ho : o.isCells = false) {p : Addr} {v : Value} (h : W.cell? p = some v) : (W.putObj l o').cell? p = some v :=
  cell_kept h (grownBy_putObj' W l o') (fun r e => by cases e; exact ⟨o, hl, ho⟩)
theorem set_other (W : World) (g : Nat) (x : Value) : (W.setCell ⟨g, 0, none⟩ x).cell? ⟨g + 1, 0, none⟩ = W.cell? ⟨g + 1, 0, none⟩ := World.cell?_of_block (by show (W.setCell _ _).heap[g + 1]? = _; simp [World.setCell, Array.getElem?_modify])
theorem set_other2 (W : World) (g : Nat) (x : Value) : (W.setCell ⟨g + 1, 0, none⟩ x).cell? ⟨g, 0, none⟩ = W.cell? ⟨g, 0, none⟩ := World.cell?_of_block (by show (W.setCell _ _).heap[g]? = _; simp [World.setCell, Array.getElem?_modify])
def fstA : Option (Nat × Nat) → Int | none => -1 | some x => (x.1 : Int)
def fstB : Option (Nat × Nat) → Int | none => -1 | some x => (x.2 : Int)

set_option maxRecDepth 100000 in
set_option maxHeartbeats 4000000 in
theorem first_in (s : ByteArray) (a : Nat) (b : Option Addr) (N c : Nat) (R : List Rul) (w : World) (hs : s.size ≤ 1000000) (ha : a ≤ 1000000) (hm : Mild R) (hr : RulesW w (.slice b N c) R) :
    CallsIn Fence.wide 6 Tryd.prog 38 #[.slice b N c, .string s, .int .i64 a] w fun e W' => e = .returned (.tuple #[.int .i64 (fstA (firstO R s.data.toList a)), .int .i64 (fstB (firstO R s.data.toList a))]) ∧ Below w.heap.size w W' := by
  refine callsIn_of_wp_marks Tryd.func38 rfl trivial ?_ rfl
  simp only [Tryd.ntmps38, List.size_toArray, List.length_cons, List.length_nil, Nat.reduceAdd, Nat.reduceSub, Array.replicate_succ, Array.replicate_zero, List.push_toArray, List.append_toArray, List.nil_append, List.cons_append]
  have bA0 := Boxed.new w 3 (.int .i64 0)
  have bB0 := Boxed.new (w.alloc (.cells #[.int .i64 0] 3)) 3 (.int .i64 0)
  rw [World.size_alloc] at bB0
  have bA1 := bA0.alloc (.cells #[.int .i64 0] 3)
  have hb2 : Below w.heap.size w ((w.alloc (.cells #[.int .i64 0] 3)).alloc (.cells #[.int .i64 0] 3)) := ((Below.refl _ w).alloc (Nat.le_refl _) _).alloc (by simp) _
  obtain ⟨g, hg⟩ : ∃ g, w.heap.size = g := ⟨_, rfl⟩
  obtain ⟨w2, hw2⟩ : ∃ w2, (w.alloc (.cells #[.int .i64 0] 3)).alloc (.cells #[.int .i64 0] 3) = w2 := ⟨_, rfl⟩
  have hz2 : g + 2 ≤ w2.heap.size := by rw [← hw2, ← hg]; simp
  rw [hg, hw2] at bA1 bB0
  rw [hg, hw2] at hb2
  have hr2 := hr.below (Nat.le_of_eq hg) hb2
  rw [hg]
  gi_wp2_with fail
  try rw [hw2]
  try rw [hg]
  refine ⟨trivial, (callsIn_wide.2 (matches_any s a b N c w2)).mono ?_⟩
  rintro e w5 ⟨rfl, hw5⟩
  obtain ⟨q, hq⟩ : ∃ q, w2.heap.size = q := ⟨_, rfl⟩
  have bL := Boxed.new w2 36 (.slice b N c)
  have bS := Boxed.new (w2.alloc (.cells #[.slice b N c] 36)) 9 (.string s)
  have bF := Boxed.new ((w2.alloc (.cells #[.slice b N c] 36)).alloc (.cells #[.string s] 9)) 3 (.int .i64 a)
  rw [World.size_alloc] at bS
  rw [World.size_alloc, World.size_alloc] at bF
  have bL := (bL.alloc (.cells #[.string s] 9)).alloc (.cells #[.int .i64 a] 3)
  have bS := bS.alloc (.cells #[.int .i64 a] 3)
  have hb5 : Below q w2 w5 := by rw [hw5, ← hq]; exact (((Below.refl _ w2).alloc (Nat.le_refl _) _).alloc (by simp) _).alloc (by simp; omega) _
  rw [← hw5] at bL bS bF
  rw [hq] at bL bS bF hz2 ⊢
  have hQ : MatR (q + 1 + 1) (q + 1) q a s (.slice b N c) R w5 := ⟨bF.cell, bS.cell, bL.cell, hr2.below (Nat.le_of_eq hq) hb5⟩
  have hbA : w5.cell? ⟨g, 0, none⟩ = some (.int .i64 0) ∧ w5.frozen? ⟨g, 0, none⟩ = false := ⟨by rw [hb5.cell (p := ⟨g, 0, none⟩) (by show g < q; omega)]; exact bA1.cell, by rw [World.frozen?_of_block (hb5.block g (by omega))]; exact bA1.frozen⟩
  have hbB : w5.cell? ⟨g + 1, 0, none⟩ = some (.int .i64 0) ∧ w5.frozen? ⟨g + 1, 0, none⟩ = false := ⟨by rw [hb5.cell (p := ⟨g + 1, 0, none⟩) (by show g + 1 < q; omega)]; exact bB0.cell, by rw [World.frozen?_of_block (hb5.block (g + 1) (by show g + 1 < q; omega))]; exact bB0.frozen⟩
  have hB0 : Below g w w5 := hb2.trans (hb5.mono (by omega))
  have hz5 : g ≤ w5.heap.size := Nat.le_trans (Nat.le_of_eq hg.symm) hB0.size
  have hseq := matches_stops (6 - 1) (by omega) (q + 1 + 1) (q + 1) q a s (.slice b N c) R hs ha hm w5 hQ
  clear hw2 hw5 bA0 bB0 bA1 bL bS bF hb5 hb2 hQ hr2 hr
  gi_wp2
  refine wpIn_rangeFunc_ownG (α := Nat × Nat) (F := Fence.wide) (n := 6) (ps := #[14, 15]) rfl (by omega) (gf := 57) (lb := #[.pointer (some ⟨q + 1 + 1, 0, none⟩), .pointer (some ⟨q + 1, 0, none⟩), .pointer (some ⟨q, 0, none⟩)]) rfl trivial (enters_of Tryd.func57 (by kernel_rfl) rfl)
    hseq (fun h k x => k (h x))
    (fun W l o o' _ hl ho _ h => h.of_cells fun p v hp => cell_putO hl ho hp) (Below.refl _ _) (fun _ => rfl)
    (fun pre W => (pre = [] ∧ W.cell? ⟨g, 0, none⟩ = some (.int .i64 0) ∧ W.frozen? ⟨g, 0, none⟩ = false ∧ W.cell? ⟨g + 1, 0, none⟩ = some (.int .i64 0) ∧ W.frozen? ⟨g + 1, 0, none⟩ = false) ∧ Below g w W)
    (fun c pre W => (c = .ret ∧ ∃ x : Nat × Nat, pre = [x] ∧ W.cell? ⟨g, 0, none⟩ = some (.int .i64 (x.1 : Int)) ∧ W.cell? ⟨g + 1, 0, none⟩ = some (.int .i64 (x.2 : Int))) ∧ Below g w W)
    (OwnFrom.and (Own.from (fun s A B row hs hg hr => ⟨hs.1, cell_kept hs.2.1 hg hr, (frozen_kept hs.2.1 hg hr).trans hs.2.2.1, cell_kept hs.2.2.2.1 hg hr, (frozen_kept hs.2.2.2.1 hg hr).trans hs.2.2.2.2⟩) _) (ownFrom_below (Nat.le_of_eq hg.symm) hz5))
    (fun c => OwnFrom.and (Own.from (fun s A B row hs hg hr => by obtain ⟨hc, x, e1, e2, e3⟩ := hs; exact ⟨hc, x, e1, cell_kept e2 hg hr, cell_kept e3 hg hr⟩) _) (ownFrom_below (Nat.le_of_eq hg.symm) hz5))
    ⟨⟨rfl, hbA.1, hbA.2, hbB.1, hbB.2⟩, hB0⟩
    (fun x => { tmps := #[.slice b N c, .string s, .int .i64 a, undef, undef, undef, .pointer (some ⟨g, 0, none⟩), .pointer (some ⟨g + 1, 0, none⟩), .int .i64 (x.1 : Int), .int .i64 (x.2 : Int), .slice b N c, .string s, .int .i64 a, .func (.func 57) #[] #[.pointer (some ⟨q + 1 + 1, 0, none⟩), .pointer (some ⟨q + 1, 0, none⟩), .pointer (some ⟨q, 0, none⟩)], .int .i64 (x.1 : Int), .int .i64 (x.2 : Int), undef, undef], defers := [] }) ?assign ?body ?done ?stop
  case assign =>
    intro l x W K hK
    gi_wp2
    exact hK
  case body =>
    rintro l pre x W ⟨⟨hp, hcr, hfr, hcr2, hfr2⟩, hB⟩ _
    subst hp
    obtain ⟨i, k⟩ := x
    dsimp only
    gi_wp2
    exact ⟨((KeepsOthers.setCell _ _ _).trans (KeepsOthers.setCell _ _ _)).from _, ⟨rfl, (i, k), rfl,
      by rw [set_other2]; exact World.cell?_setCell_same' _ _ _ (by rw [hcr]; rfl),
      World.cell?_setCell_same' _ _ _ (by rw [set_other, hcr2]; rfl)⟩,
      (hB.setCell (p := ⟨g, 0, none⟩) (Nat.le_refl _) _).setCell (p := ⟨g + 1, 0, none⟩) (Nat.le_succ _) _⟩
  case done =>
    rintro D ys W hD rfl ⟨⟨hne, hcr, hfr, hcr2, hfr2⟩, hB⟩ hK
    have hfo : Hid (firstO R s.data.toList a = none) := by show _ = _; unfold firstO; rw [hne]; rfl
    clear hne
    gi_wp2
    have hK' := (KeepsOthers.setCell W ⟨g, 0, none⟩ (.int .i64 (-1))).same D _ hK rfl
    have hK2 := (KeepsOthers.setCell (W.setCell ⟨g, 0, none⟩ (.int .i64 (-1))) ⟨g + 1, 0, none⟩ (.int .i64 (-1))).same D _ hK' rfl
    refine ⟨by simp, .inl ⟨_, _, rfl, run_takeDeferred hK2, ?_⟩⟩
    have hc5 := cell_kept (a := ⟨g, 0, none⟩) (v := .int .i64 (-1)) (W := (W.setCell ⟨g, 0, none⟩ (.int .i64 (-1))).setCell ⟨g + 1, 0, none⟩ (.int .i64 (-1))) (by rw [set_other2]; exact World.cell?_setCell_same' _ _ _ (by rw [hcr]; rfl)) (grownBy_putObj' _ D (.deferred none)) (fun r e => by cases e; exact ⟨_, hK2, rfl⟩)
    have hc6 := cell_kept (a := ⟨g + 1, 0, none⟩) (v := .int .i64 (-1)) (W := (W.setCell ⟨g, 0, none⟩ (.int .i64 (-1))).setCell ⟨g + 1, 0, none⟩ (.int .i64 (-1))) (World.cell?_setCell_same' _ _ _ (by rw [set_other, hcr2]; rfl)) (grownBy_putObj' _ D (.deferred none)) (fun r e => by cases e; exact ⟨_, hK2, rfl⟩)
    refine ⟨.tuple #[.int .i64 (-1), .int .i64 (-1)], ?_, by rw [hfo.out]; rfl, ((hB.setCell (p := ⟨g, 0, none⟩) (Nat.le_refl _) _).setCell (p := ⟨g + 1, 0, none⟩) (Nat.le_succ _) _).trans (belowK_b (w := w5) hz5 _ D _ _ hD hK2 rfl rfl)⟩
    simp [results, Tryd.f38, go_sem, hc5, hc6]
  case stop =>
    rintro D c pre W hD hpk ⟨⟨rfl, x, e1, hcr, hcr2⟩, hB⟩ hK
    subst e1
    have hfo : Hid (firstO R s.data.toList a = some x) := by
      show _ = _
      obtain ⟨t, ht⟩ := hpk
      unfold firstO
      rw [← ht]
      rfl
    clear hpk
    obtain ⟨i, k⟩ := x
    dsimp only at hcr hcr2
    gi_wp2
    refine ⟨by simp, .inl ⟨_, _, rfl, run_takeDeferred hK, ?_⟩⟩
    have hc5 := cell_kept hcr (grownBy_putObj' _ D (.deferred none)) (fun r e => by cases e; exact ⟨_, hK, rfl⟩)
    have hc6 := cell_kept hcr2 (grownBy_putObj' _ D (.deferred none)) (fun r e => by cases e; exact ⟨_, hK, rfl⟩)
    refine ⟨.tuple #[.int .i64 (i : Int), .int .i64 (k : Int)], ?_, by rw [hfo.out]; rfl, hB.trans (belowK_b (w := w5) hz5 W D _ _ hD hK rfl rfl)⟩
    simp [results, Tryd.f38, go_sem, hc5, hc6]
theorem first_any (s : ByteArray) (a : Nat) (sv : Value) (R : List Rul) (w : World) (hs : s.size ≤ 1000000) (ha : a ≤ 1000000) (hm : Mild R) (hr : RulesW w sv R) :
    Calls Tryd.prog 38 #[sv, .string s, .int .i64 a] w fun e W' => e = .returned (.tuple #[.int .i64 (fstA (firstO R s.data.toList a)), .int .i64 (fstB (firstO R s.data.toList a))]) ∧ Below w.heap.size w W' := by
  obtain ⟨b, c, rfl, _, _⟩ := id hr
  exact callsIn_wide.1 (first_in s a b R.length c R w hs ha hm hr)
end Go.Proofs.YtmegmgcfnihhiaaDoor
