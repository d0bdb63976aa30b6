
/- Shares in which some holders have changed their values: mathematics and memory. -/
import Derived.Test.YtkcbbdkijlipfaaDoorQBea
namespace Go.Proofs.YtkcbbdkijlipfaaDoor
open Go.RowKit Go.Sort
open Num
set_option linter.unusedVariables false

/-- The first t shares are changed, and the values before k of the next one perhaps. -/
structure LieP (p : Int) (m t k : Nat) (L L' : List Shr) : Prop where
  len : L'.length = L.length
  hold : ∀ i, (L'.getD i (0, [])).1 = (L.getD i (0, [])).1
  size : ∀ i, i < L.length → (L'.getD i (0, [])).2.length = m
  els : ∀ i, i < L.length → Els p (L'.getD i (0, [])).2
  same : ∀ i, t < i → L'.getD i (0, []) = L.getD i (0, [])
  rest : ∀ j, k ≤ j → (L'.getD t (0, [])).2.getD j 0 = (L.getD t (0, [])).2.getD j 0
  wrong : ∀ i, i < t → (L'.getD i (0, [])).2.getD 0 0 ≠ (L.getD i (0, [])).2.getD 0 0
  cur : 0 < k → (L'.getD t (0, [])).2.getD 0 0 ≠ (L.getD t (0, [])).2.getD 0 0
theorem LieP.start {p : Int} {m : Nat} {L : List Shr} (hm : ∀ x ∈ L, x.2.length = m) (he : ∀ x ∈ L, Els p x.2) : LieP p m 0 0 L L := by
  have hin : ∀ i, i < L.length → L.getD i (0, []) ∈ L := fun i hi => by rw [List.getD_eq_getElem?_getD, List.getElem?_eq_getElem hi]; exact List.getElem_mem _
  exact ⟨rfl, fun _ => rfl, fun i hi => hm _ (hin i hi), fun i hi => he _ (hin i hi), fun _ _ => rfl, fun _ _ => rfl, fun i hi => by omega, fun h => by omega⟩
theorem LieP.next {p : Int} {m t : Nat} {L L' : List Shr} (h : LieP p m t m L L') (hm : 1 ≤ m) : LieP p m (t + 1) 0 L L' :=
  ⟨h.len, h.hold, h.size, h.els, fun i hi => h.same i (by omega), fun j _ => by rw [h.same (t + 1) (by omega)], fun i hi => by
    by_cases e : i = t
    · subst e; exact h.cur (by omega)
    · exact h.wrong i (by omega), fun h => by omega⟩
theorem LieP.skip {p : Int} {m t k : Nat} {L L' : List Shr} (h : LieP p m t k L L') (hk : 0 < k) : LieP p m t (k + 1) L L' :=
  ⟨h.len, h.hold, h.size, h.els, h.same, fun j hj => h.rest j (by omega), h.wrong, fun _ => h.cur hk⟩
theorem getD_setL (l : List Int) (k j : Nat) (y : Int) (hk : k < l.length) : (l.set k y).getD j 0 = if j = k then y else l.getD j 0 := by
  simp only [List.getD, List.getElem?_set]
  by_cases e : k = j
  · subst e; simp [hk]
  · rw [if_neg e, if_neg (fun h => e h.symm)]
theorem LieP.put {p : Int} {m t k : Nat} {L L' : List Shr} {y : Int} (h : LieP p m t k L L') (ht : t < L.length) (hk : k < m) (hy : El p y) (h0 : k = 0 → y ≠ (L'.getD t (0, [])).2.getD 0 0) :
    LieP p m t (k + 1) L (L'.set t ((L'.getD t (0, [])).1, (L'.getD t (0, [])).2.set k y)) := by
  have hlt : t < L'.length := by rw [h.len]; exact ht
  have hsz := h.size t ht
  refine ⟨by rw [List.length_set]; exact h.len, fun i => ?_, fun i hi => ?_, fun i hi => ?_, fun i hi => ?_, fun j hj => ?_, fun i hi => ?_, fun _ => ?_⟩
  · rw [set_getD _ hlt]
    by_cases e : i = t
    · subst e; rw [if_pos rfl]; exact h.hold i
    · rw [if_neg e]; exact h.hold i
  · rw [set_getD _ hlt]
    by_cases e : i = t
    · subst e; rw [if_pos rfl]; show (List.set _ _ _).length = m; rw [List.length_set]; exact hsz
    · rw [if_neg e]; exact h.size i hi
  · rw [set_getD _ hlt]
    by_cases e : i = t
    · subst e; rw [if_pos rfl]
      intro x hx
      rcases List.mem_or_eq_of_mem_set hx with h1 | h1
      · exact h.els i ht x h1
      · rw [h1]; exact hy
    · rw [if_neg e]; exact h.els i hi
  · rw [set_getD _ hlt, if_neg (by omega)]; exact h.same i hi
  · rw [set_getD _ hlt, if_pos rfl]
    show ((L'.getD t (0, [])).2.set k y).getD j 0 = _
    rw [getD_setL _ _ _ _ (by omega), if_neg (by omega)]; exact h.rest j (by omega)
  · rw [set_getD _ hlt, if_neg (by omega)]; exact h.wrong i hi
  · rw [set_getD _ hlt, if_pos rfl]
    show ((L'.getD t (0, [])).2.set k y).getD 0 0 ≠ _
    rw [getD_setL _ _ _ _ (by omega)]
    by_cases e : k = 0
    · subst e
      rw [if_pos rfl, ← h.rest 0 (Nat.le_refl _)]; exact h0 rfl
    · rw [if_neg (by omega)]; exact h.cur (by omega)
/-- The holders of the first t shares. -/
def wfl (L : List Shr) (t i : Nat) : Bool := decide (∃ j, j < t ∧ (L.getD j (0, [])).1 = (i : Int))
theorem wfl_zero (L : List Shr) (i : Nat) : wfl L 0 i = false := decide_eq_false fun ⟨j, h, _⟩ => by omega
theorem wfl_succ (L : List Shr) (t i H : Nat) (hH : (L.getD t (0, [])).1 = (H : Int)) : wfl L (t + 1) i = if i = H then true else wfl L t i := by
  by_cases e : i = H
  · subst e; rw [if_pos rfl]
    exact decide_eq_true ⟨t, by omega, hH⟩
  · rw [if_neg e]
    refine decide_eq_decide.2 ⟨fun ⟨j, h1, h2⟩ => ⟨j, ?_, h2⟩, fun ⟨j, h1, h2⟩ => ⟨j, by omega, h2⟩⟩
    by_cases e2 : j = t
    · subst e2; rw [hH] at h2; omega
    · omega
/-- The wrong holders below i, ascending. -/
def outL (L : List Shr) (t i : Nat) : List Int := ((List.range i).filter (wfl L t)).map fun i : Nat => (i : Int)
theorem outL_zero (L : List Shr) (t : Nat) : outL L t 0 = [] := rfl
theorem outL_yes {L : List Shr} {t i : Nat} (h : wfl L t i = true) : outL L t (i + 1) = outL L t i ++ [(i : Int)] := by simp [outL, List.range_succ, h]
theorem outL_no {L : List Shr} {t i : Nat} (h : wfl L t i = false) : outL L t (i + 1) = outL L t i := by simp [outL, List.range_succ, h]
theorem outL_len (L : List Shr) (t i : Nat) : (outL L t i).length ≤ i := by
  unfold outL
  rw [List.length_map]
  exact Nat.le_trans (List.length_filter_le _ _) (by simp)
theorem outL_asc (L : List Shr) (t i : Nat) : (outL L t i).Pairwise (· < ·) := by
  unfold outL
  refine List.pairwise_map.2 ?_
  exact (List.pairwise_lt_range.sublist List.filter_sublist).imp fun {a b} h => by omega
theorem outL_mem {L : List Shr} {t : Nat} (hH : ∀ j, j < t → 0 ≤ (L.getD j (0, [])).1 ∧ (L.getD j (0, [])).1 ≤ 16) (x : Int) : x ∈ outL L t 17 ↔ ∃ j, j < t ∧ (L.getD j (0, [])).1 = x := by
  unfold outL
  rw [List.mem_map]
  constructor
  · rintro ⟨i, hi, rfl⟩
    exact of_decide_eq_true (List.mem_filter.1 hi).2
  · rintro ⟨j, hj, rfl⟩
    obtain ⟨h0, h1⟩ := hH j hj
    obtain ⟨H, hH⟩ := Int.eq_ofNat_of_zero_le h0
    refine ⟨H, List.mem_filter.2 ⟨List.mem_range.2 (by omega), decide_eq_true ⟨j, hj, hH⟩⟩, hH.symm⟩

/-! ### In memory -/
theorem info17 : (Tryd.prog.info? 61).map (·.size) = some 17 := by kernel_rfl
theorem lie_row (w : World) (L : List Shr) : (w.alloc (.cells zeros17 61)).rowIs w.heap.size 61 17 (fun i => .bool (wfl L 0 i)) := by
  rw [show zeros17 = Array.replicate 17 (.bool false) from rfl]
  have h := World.rowIs_alloc w (Array.replicate 17 (.bool false)) 61 (fun i => .bool (wfl L 0 i)) (fun i hi => by
    rw [Array.size_replicate] at hi
    simp [hi, wfl_zero])
  rw [Array.size_replicate] at h
  exact h
/-- What Lie keeps. -/
structure LieW (w0 W : World) (b : Nat) (s : Value) (l : List Int) (g q n gw : Nat) (Z : Nat → Int × Value) (L' : List Shr) (f : Nat → Bool) : Prop where
  od : OddS W g q n Z L'
  nb : ∀ i, i < n → ∀ x, (Z i).2.ownBlock = some x → x < gw
  qb : q < gw
  row : W.rowIs gw 61 17 (fun i => .bool (f i))
  di : DiceAt W b s l
  be : But b w0 W
  lt : b < g
  sz : g = w0.heap.size
theorem But.more {w0 W W' : World} {b g : Nat} (h : But b w0 W) (k : Below g W W') (hg : g = w0.heap.size) : But b w0 W' :=
  ⟨k.os.trans h.os, k.tape.trans h.tape, k.output.trans h.output, Nat.le_trans h.size k.size, fun i hi hne => (k.block i (by omega)).trans (h.block i hi hne)⟩
theorem LieW.but {w0 W W' : World} {b : Nat} {s : Value} {l : List Int} {g q n gw : Nat} {Z : Nat → Int × Value} {L' : List Shr} {f : Nat → Bool} (h : LieW w0 W b s l g q n gw Z L' f) (k : But b W W') (d : DiceAt W' b s l) : LieW w0 W' b s l g q n gw Z L' f := by
  have h1 := h.lt
  have h2 := h.od.lo
  have h3 := h.qb
  exact ⟨h.od.but k h1, h.nb, h.qb, h.row.of_block (k.block gw h.row.lt (by omega)), d, h.be.trans k, h.lt, h.sz⟩
theorem LieW.below {w0 W W' : World} {b : Nat} {s : Value} {l : List Int} {g q n gw : Nat} {Z : Nat → Int × Value} {L' : List Shr} {f : Nat → Bool} (h : LieW w0 W b s l g q n gw Z L' f) (k : Below W.heap.size W W') : LieW w0 W' b s l g q n gw Z L' f :=
  ⟨h.od.below k (Nat.le_refl _), h.nb, h.qb, h.row.of_block (k.block gw h.row.lt), h.di.below k (by have := h.di.size; omega), h.be.trans (But.of_below k (Nat.le_refl _)), h.lt, h.sz⟩
theorem LieW.put {w0 W : World} {b : Nat} {s : Value} {l : List Int} {g q n gw gv : Nat} {Z : Nat → Int × Value} {L' : List Shr} {f : Nat → Bool} (h : LieW w0 W b s l g q n gw Z L' f) {i : Nat} (hi : i < n) {m cv : Nat} (hz : (Z i).2 = .slice (some ⟨gv, 0, none⟩) m cv) (hgv : g ≤ gv) (k : Nat) (x : Int) :
    LieW w0 (W.setCell ⟨gv, k, none⟩ (.int .i64 x)) b s l g q n gw Z (L'.set i ((L'.getD i (0, [])).1, (L'.getD i (0, [])).2.set k x)) f := by
  have hlt := h.nb i hi gv (by rw [hz]; rfl)
  have hb : Below g W (W.setCell ⟨gv, k, none⟩ (.int .i64 x)) := set1_below _ _ _ hgv
  exact ⟨h.od.put hi hz k x, h.nb, h.qb, h.row.setOther (show gw ≠ gv by omega) _, h.di.below hb h.lt, h.be.more hb h.sz, h.lt, h.sz⟩
theorem LieW.mark {w0 W : World} {b : Nat} {s : Value} {l : List Int} {g q n gw : Nat} {Z : Nat → Int × Value} {L' : List Shr} {f f' : Nat → Bool} (h : LieW w0 W b s l g q n gw Z L' f) (H : Nat) (e : ∀ i, i < 17 → f' i = if i = H then true else f i) :
    LieW w0 (W.setCell ⟨gw, H, none⟩ (.bool true)) b s l g q n gw Z L' f' := by
  have h2 := h.od.lo
  have h3 := h.qb
  have hb : Below g W (W.setCell ⟨gw, H, none⟩ (.bool true)) := set1_below _ _ _ (by omega)
  have ho : OddS (W.setCell ⟨gw, H, none⟩ (.bool true)) g q n Z L' :=
    ⟨h.od.len, h.od.row.of_block (blk_other _ _ _ _ (by omega)), h.od.hold, fun i hi => gath_kept_row (row := some gw) (h.od.val i hi) ⟨rfl, rfl, rfl, by simp [World.setCell], fun k hk hne => blk_other _ _ _ _ (fun e => hne (by rw [e]))⟩ (fun x hx e => by have := h.nb i hi x hx; simp at e; omega), h.od.off, h.od.apart, h.od.lo, Nat.lt_of_lt_of_le h.od.lt hb.size⟩
  refine ⟨ho, h.nb, h.qb, (h.row.set H (.bool true)).congr fun i hi => ?_, h.di.below hb h.lt, h.be.more hb h.sz, h.lt, h.sz⟩
  rw [e i hi]
  by_cases e2 : i = H
  · rw [if_pos e2, if_pos e2]
  · rw [if_neg e2, if_neg e2]
end Go.Proofs.YtkcbbdkijlipfaaDoor
