
/- Growing lists of shares in a slice of lists: what ReshareParts keeps. -/
import Derived.Test.YtomnncainedjdaaDoorZLaw
namespace Go.Proofs.YtomnncainedjdaaDoor
open Go.RowKit Go.Sort
open Num
set_option linter.unusedVariables false
set_option linter.unusedSimpArgs false

/-- n growing lists of shares, the slices of which lie in block q. -/
structure GotN (n : Nat) (W : World) (B q : Nat) (P : Nat → Prop) (V : Nat → Value) (F : Nat → List Shr) : Prop where
  cell : ∀ k, k < n → W.cell? ⟨q, k, none⟩ = some (V k) ∧ W.frozen? ⟨q, k, none⟩ = false
  gs : ∀ k, k < n → GathP W B P (V k) (F k)
  nq : ∀ k, k < n → (V k).ownBlock ≠ some q
  ap : ∀ j k, j < n → k < n → j ≠ k → ∀ b, (V j).ownBlock = some b → (V k).ownBlock ≠ some b
  np : ∀ k, k < n → ∀ b, (V k).ownBlock = some b → ¬ P b
  pq : ¬ P q
  pb : ∀ b, P b → B ≤ b ∧ b < W.heap.size
  qb : B ≤ q
  lt : q < W.heap.size
section
variable {n : Nat} {W W' : World} {B q : Nat} {P : Nat → Prop} {V : Nat → Value} {F : Nat → List Shr}
/-- A store, or memory that grows, elsewhere. -/
theorem GotN.kept (h : GotN n W B q P V F) {r : Nat} (k : W.grownBy W' (some r)) (hr : r < B ∨ W.heap.size ≤ r) : GotN n W' B q P V F := by
  have hq : q ≠ r := by have := h.qb; have := h.lt; rcases hr with h | h <;> omega
  have hblk := k.block q h.lt (fun e => hq (Option.some.inj e))
  refine ⟨fun j hj => ⟨by rw [cell_blkZ hblk]; exact (h.cell j hj).1, by rw [frozen_blkZ hblk]; exact (h.cell j hj).2⟩, fun j hj => (h.gs j hj).kept k (fun g hg e => ?_) (fun g hg e => ?_) (fun g hg => hg), h.nq, h.ap, h.np, h.pq, fun b hb => ⟨(h.pb b hb).1, Nat.lt_of_lt_of_le (h.pb b hb).2 k.size⟩, h.qb, Nat.lt_of_lt_of_le h.lt k.size⟩
  · have h1 := (h.gs j hj).lt g hg
    have := Option.some.inj e
    rcases hr with h | h <;> omega
  · have h1 := h.pb g hg
    have := Option.some.inj e
    rcases hr with h | h <;> omega
/-- A list of another's grows. -/
theorem GotN.other (h : GotN n W B q P V F) {row : Option Nat} (k : W.grownBy W' row) (hr : ∀ r, row = some r → r ≠ q ∧ ¬ P r ∧ ∀ k, k < n → (V k).ownBlock ≠ some r) : GotN n W' B q P V F := by
  have hblk := k.block q h.lt (fun e => (hr q e.symm).1 rfl)
  refine ⟨fun j hj => ⟨by rw [cell_blkZ hblk]; exact (h.cell j hj).1, by rw [frozen_blkZ hblk]; exact (h.cell j hj).2⟩, fun j hj => (h.gs j hj).kept k (fun g hg e => (hr g e).2.2 j hj hg) (fun g hg e => (hr g e).2.1 hg) (fun g hg => hg), h.nq, h.ap, h.np, h.pq, fun b hb => ⟨(h.pb b hb).1, Nat.lt_of_lt_of_le (h.pb b hb).2 k.size⟩, h.qb, Nat.lt_of_lt_of_le h.lt k.size⟩
theorem GotN.below (h : GotN n W B q P V F) (b : Below W.heap.size W W') : GotN n W' B q P V F :=
  h.kept (r := W.heap.size) (But.of_below b (Nat.le_refl _)).grown (.inr (Nat.le_refl _))
/-- What has been laid since may be values, too. -/
theorem GotN.wide (h : GotN n W B q P V F) (b : Below W.heap.size W W') : GotN n W' B q (fun x => P x ∨ (W.heap.size ≤ x ∧ x < W'.heap.size)) V F := by
  have h' := h.below b
  have hB : B ≤ W.heap.size := Nat.le_trans h.qb (Nat.le_of_lt h.lt)
  refine ⟨h'.cell, fun j hj => ?_, h'.nq, h'.ap, fun j hj x hx e => ?_, fun e => ?_, fun x hx => ?_, h'.qb, h'.lt⟩
  · refine (h.gs j hj).kept (row := some W.heap.size) (But.of_below b (Nat.le_refl _)).grown (fun g hg e => ?_) (fun g hg e => ?_) (fun g hg => .inl hg)
    · have := (h.gs j hj).lt g hg; have := Option.some.inj e; omega
    · have := h.pb g hg; have := Option.some.inj e; omega
  · rcases e with e | e
    · exact h.np j hj x hx e
    · have := (h.gs j hj).lt x hx; omega
  · rcases e with e | e
    · exact h.pq e
    · have := h.lt; omega
  · rcases hx with hx | hx
    · exact h'.pb x hx
    · exact ⟨by omega, hx.2⟩
theorem GotN.congr (h : GotN n W B q P V F) {F' : Nat → List Shr} (e : ∀ j, j < n → F j = F' j) : GotN n W B q P V F' :=
  ⟨h.cell, fun j hj => by rw [← e j hj]; exact h.gs j hj, h.nq, h.ap, h.np, h.pq, h.pb, h.qb, h.lt⟩
/-- One of the lists grows. -/
theorem GotN.app (h : GotN n W B q P V F) {k : Nat} (hk : k < n) (ad : Nat) (hd : Int) (gv : Value) (l : List Int) (hc0 : W.cell? ⟨ad, 0, none⟩ = some (.int .i64 hd)) (hc1 : W.cell? ⟨ad, 1, none⟩ = some gv)
    (hI : Ints W gv l) (hP : ∀ g, gv.ownBlock = some g → l ≠ [] → P g) (hlen : (F k).length < 1000) (ty : TypeId) :
    ∃ v' W', (Builtin.append_ #[23, 23] ty #[V k, .slice (some ⟨ad, 0, none⟩) 1 1]).run Tryd.prog W = .ok v' W' ∧ GotN n (W'.setCell ⟨q, k, none⟩ v') B q P (fun j => if j = k then v' else V j) (fun j => if j = k then F k ++ [(hd, l)] else F j) ∧ W.grownBy W' (V k).ownBlock ∧ (∃ a c, v' = .slice a ((F k).length + 1) c) ∧ (v'.ownBlock = (V k).ownBlock ∨ v'.ownBlock = some W.heap.size) := by
  have hB : B ≤ W.heap.size := Nat.le_trans h.qb (Nat.le_of_lt h.lt)
  obtain ⟨v', W', h0, h1, h2, h5⟩ := run_appendP (h.gs k hk) ad hd gv l hc0 hc1 hI hP (h.np k hk) hlen hB ty
  have hblk := h2.block q h.lt (fun e => h.nq k hk e.symm)
  have hsz := h2.size
  have hset : W'.grownBy (W'.setCell ⟨q, k, none⟩ v') (some q) := (But.set W' ⟨q, k, none⟩ v').grown
  have hPq : ∀ g, P g → some q ≠ some g := fun g hg e => h.pq (by rw [Option.some.inj e]; exact hg)
  have hv' : v'.ownBlock ≠ some q := by
    rcases h5 with h5 | h5
    · rw [h5]; exact h.nq k hk
    · rw [h5]; intro e; have := Option.some.inj e; have := h.lt; omega
  have hvP : ∀ b, v'.ownBlock = some b → ¬ P b := fun b hb hp => by
    rcases h5 with h5 | h5
    · rw [h5] at hb; exact h.np k hk b hb hp
    · rw [h5] at hb; have := Option.some.inj hb; have := (h.pb b hp).2; omega
  have hvo : ∀ j, j < n → j ≠ k → ∀ b, v'.ownBlock = some b → (V j).ownBlock ≠ some b := fun j hj hjk b hb e => by
    rcases h5 with h5 | h5
    · rw [h5] at hb; exact h.ap k j hk hj (Ne.symm hjk) b hb e
    · rw [h5] at hb; have := Option.some.inj hb; have := ((h.gs j hj).lt b e).2; omega
  have hsh : ∃ a c, v' = .slice a ((F k).length + 1) c := by
    have := h1.shares (by rw [List.length_append]; simp; omega)
    obtain ⟨a, c, e, _⟩ := this
    rw [List.length_append] at e
    exact ⟨a, c, e⟩
  refine ⟨v', W', h0, ⟨fun j hj => ?_, fun j hj => ?_, fun j hj => ?_, fun i j hi hj hij b hb => ?_, fun j hj b hb => ?_, h.pq, fun b hb => ⟨(h.pb b hb).1, by have := (h.pb b hb).2; simp [World.setCell]; omega⟩, h.qb, by have := h.lt; simp [World.setCell]; omega⟩, h2, hsh, h5⟩
  · by_cases e : j = k
    · subst e
      simp only [if_pos rfl]
      exact ⟨World.cell?_setCell_same _ _ _ (show W'.cell? ⟨q, j, none⟩ = some (V j) by rw [cell_blkZ hblk]; exact (h.cell j hj).1), by rw [World.frozen?_setCell, frozen_blkZ hblk]; exact (h.cell j hj).2⟩
    · simp only [if_neg e]
      exact ⟨by rw [World.cell?_setCell_other _ _ _ _ (by intro e2; simp only [Addr.mk.injEq] at e2; omega), cell_blkZ hblk]; exact (h.cell j hj).1, by rw [World.frozen?_setCell, frozen_blkZ hblk]; exact (h.cell j hj).2⟩
  · by_cases e : j = k
    · subst e
      simp only [if_pos rfl]
      exact h1.kept hset (fun g hg e => hv' (by rw [hg, Option.some.inj e])) hPq fun g hg => hg
    · simp only [if_neg e]
      have h3 : GathP W' B P (V j) (F j) := (h.gs j hj).kept h2 (fun g hg e2 => h.ap k j hk hj (Ne.symm e) g e2 hg) (fun g hg e2 => h.np k hk g e2 hg) fun g hg => hg
      exact h3.kept hset (fun g hg e => h.nq j hj (by rw [hg, Option.some.inj e])) hPq fun g hg => hg
  · by_cases e : j = k
    · simp only [if_pos e]; exact hv'
    · simp only [if_neg e]; exact h.nq j hj
  · by_cases e1 : i = k <;> by_cases e2 : j = k
    · omega
    · simp only [if_pos e1] at hb; simp only [if_neg e2]; exact hvo j hj e2 b hb
    · simp only [if_neg e1] at hb; simp only [if_pos e2]; exact fun e => hvo i hi e1 b e hb
    · simp only [if_neg e1] at hb; simp only [if_neg e2]; exact h.ap i j hi hj hij b hb
  · by_cases e : j = k
    · simp only [if_pos e] at hb; exact hvP b hb
    · simp only [if_neg e] at hb; exact h.np j hj b hb
end

theorem gotN_new (n : Nat) (W : World) (B : Nat) (t : TypeId) (hB : B ≤ W.heap.size) : GotN n (W.alloc (.cells (madeCells #[.slice none 0 0] n) t)) B W.heap.size (fun _ => False) (fun _ => .slice none 0 0) (fun _ => []) := by
  have h := World.rowIs_made W (.slice none 0 0) n t
  exact ⟨fun k hk => ⟨h.cell hk, h.frozen k⟩, fun k hk => gathP_nil _ _ _, fun k hk => by simp [Value.ownBlock], fun j k _ _ _ b hb => by simp [Value.ownBlock] at hb, fun k hk b hb => by simp [Value.ownBlock] at hb, fun h => h, fun b hb => hb.elim, hB, by simp⟩

theorem at_world {P F : World → Prop} {W : World} (h : P W) (k : ∀ W, P W → F W) : F W := k W h
theorem ints_but {w w' : World} {b : Nat} {v : Value} {l : List Int} (h : Ints w v l) (k : But b w w') (hb : ∀ r, v.ownBlock = some r → l ≠ [] → r ≠ b) : Ints w' v l := by
  by_cases hne : l = []
  · obtain ⟨a, c, e⟩ := h.shape
    rw [e, hne]
    exact ints_zero _ _ _
  · exact h.grown k.grown fun g hg e => hb g hg hne (Option.some.inj e).symm
/-- A share that stands is split. -/
theorem part_ok {p : Int} {K N K2 N2 : Nat} {S : List Int} {f : Nat → List Int} {V : Int → List Int} (q : Pf p K N) (q2 : Pf p K2 N2) (h : SecV p (K + 1) S f V) (hm : S.length ≤ 2048) {j : Nat} (hj : j < N) {r : List Int} (hr : Els p r) (hl : r.length = S.length * K2) :
    splitE p ((K : Int) + 1) (N : Int) p ((K2 : Int) + 1) (N2 : Int) (((j + 1 : Nat) : Int), V ((j + 1 : Nat) : Int)) r = 0 ∧ splitR p ((K : Int) + 1) (N : Int) p ((K2 : Int) + 1) (N2 : Int) (((j + 1 : Nat) : Int), V ((j + 1 : Nat) : Int)) r = rowL N2 (dealV p K2 (V ((j + 1 : Nat) : Int)) r) := by
  have hg := (goodB_parts (goodB_of_gd q.prm q.p2 (h.gd (n := N)) hm) j (by rw [rowL_len]; exact hj)).1
  rw [rowL_get hj] at hg
  have hs := splitE_ok (p := p) (k := (K : Int) + 1) (n := (N : Int)) (p2 := p) (k2 := (K2 : Int) + 1) (n2 := (N2 : Int)) (r := r) ⟨relB_of q.pl q2.pl, hg⟩
  have hd := deal_ok_of (K := K2) (N := N2) q2.pl (by omega) rfl (h.els ((j + 1 : Nat) : Int)) hr (by rw [h.siz]; exact hl)
  exact ⟨hs.1.trans hd.1, hs.2.trans (hd.2.trans (dealF_row _ _ _ _ _))⟩
theorem rowL_fst {N t : Nat} {V : Int → List Int} (ht : t < N) : ((rowL N V).take (t + 1)).map (·.1) = ((rowL N V).take t).map (·.1) ++ [((t + 1 : Nat) : Int)] := by
  rw [List.take_add_one, List.map_append, List.getElem?_eq_getElem (by rw [rowL_len]; exact ht)]
  have h := rowL_get (V := V) ht
  rw [getS_at (by rw [rowL_len]; exact ht)] at h
  simp [h]
theorem SharesP.blk {w : World} {P : Nat → Prop} {b off n c : Nat} {L : List Shr} (h : SharesP w P (.slice (some ⟨b, off, none⟩) n c) L) (hn : 0 < n) : P b := by
  obtain ⟨a', c', h1, h2, h3, h4, h5⟩ := h
  simp only [Value.slice.injEq] at h1
  obtain ⟨rfl, hl, rfl⟩ := h1
  obtain ⟨q, o, e, hq, _⟩ := h5 (fun e => by subst e; simp at hl; omega)
  simp only [Option.some.injEq, Addr.mk.injEq, and_true] at e
  rw [e.1]
  exact hq
theorem rowL_take {N t : Nat} {V : Int → List Int} (ht : t < N) : (rowL N V).take (t + 1) = (rowL N V).take t ++ [(((t + 1 : Nat) : Int), V ((t + 1 : Nat) : Int))] := by
  rw [List.take_add_one, List.getElem?_eq_getElem (by rw [rowL_len]; exact ht)]
  have h := rowL_get (V := V) ht
  rw [getS_at (by rw [rowL_len]; exact ht)] at h
  simp [h]
/-- The first holders. -/
def fromL (N : Nat) (V : Int → List Int) (t : Nat) : List Int := ((rowL N V).take t).map (·.1)
theorem fromL_succ {N t : Nat} {V : Int → List Int} (ht : t < N) : fromL N V (t + 1) = fromL N V t ++ [((t + 1 : Nat) : Int)] := rowL_fst ht
theorem fromL_len {N t : Nat} {V : Int → List Int} (ht : t ≤ N) : (fromL N V t).length = t := by unfold fromL; rw [List.length_map, List.length_take, rowL_len]; omega
section
variable {ops : Array Oper} {rest : List Oper} {o : Oper} {a : Act} {Q : Exit → Act → World → Prop}
theorem append_oneB (w : World) (hgd : o.guard = none) (s x : Operand) (ho : o.op = .call { callee := .builtin .append, args := #[s, x], argTypes := #[22, 22] })
    (base : Nat) (v : Value) (zs : List Int) (z : Int) (hs : a.eval s = v) (hown : Gath w base v zs) (ad : Addr) (hx : a.eval x = .slice (some ad) 1 1) (hcell : w.cell? ad = some (.int .i64 z))
    (hlen : zs.length < 17592186044416) (hbase : base ≤ w.heap.size)
    (h : ∀ v' w', Gath w' base v' (zs ++ [z]) → w.grownBy w' v.ownBlock → (v'.ownBlock = v.ownBlock ∨ v'.ownBlock = some w.heap.size) → wpList Tryd.prog ops Q rest (a.put o.dst v') w') : wpList Tryd.prog ops Q (o :: rest) a w := by
  obtain ⟨i0, hi, hz0, hz1, hz2⟩ := info_parts infoInt
  refine wpList_append_own_at (w := w) hgd s x 22 ho base 3 i0 (.int .i64 0) 1 8 Tryd.underlying22 hi hz0 hz1 hz2 rfl (by decide) v zs.length (zs.map (Value.int .i64)) hs hown ad 1 1 [.int .i64 z] hx rfl ?_ ?_ ?_ ?_ hbase ?_
  · intro j u hj
    match j, hj with
    | 0, hj =>
      simp at hj; subst hj
      have e : ad.add 0 = ad := by unfold Addr.add; simp
      rw [e]; exact hcell
  · intro u hu; simp at hu; subst hu; rfl
  · unfold maxLen; omega
  · omega
  · intro v' w' h1 h2 _ h5
    refine h v' w' ?_ h2 h5
    unfold Gath
    rw [List.length_append, List.map_append]
    exact h1
end

theorem partsTo_more {p2 : Int} {K2 : Nat} {L : List Shr} {RR : List (List Int)} {z : List Int} {h : Int} {i : Nat} (hi : i ≤ RR.length) : partsTo p2 K2 L RR h i = partsTo p2 K2 L (RR ++ [z]) h i := by
  unfold partsTo
  refine List.map_congr_left fun j hj => ?_
  have hj' : j < RR.length := by have := List.mem_range.1 hj; omega
  simp [List.getD, List.getElem?_append, hj']
theorem partsF_more {p2 : Int} {K2 N2 : Nat} {L : List Shr} {RR : List (List Int)} {z : List Int} {i h : Nat} (hi : i ≤ RR.length) : partsF p2 K2 N2 L RR i 0 h = partsF p2 K2 N2 L (RR ++ [z]) i 0 h := by
  unfold partsF
  have e0 : ¬ h < 0 := by omega
  by_cases e : h < N2
  · simp only [if_neg e0, if_pos e]
    exact partsTo_more hi
  · simp only [if_neg e0, if_neg e]
/-- The parts of one new holder go together, of however many old ones. -/
theorem parts_join {p k n k2 n2 : Int} {K M N K2 N2 m t : Nat} {L : List Shr} {RR : List (List Int)} (hp : planB p k n = true) (hp2 : planB p k2 n2 = true) (hk : k = (K : Int)) (hn : n = (N : Int)) (hn2 : n2 = (N2 : Int)) (hg : Gd p N m L) (hM : M ≤ L.length) (ht : t < N2) :
    (K ≤ M → joinE p k n p k2 n2 ((L.take M).map (·.1)) (partsTo p K2 L RR ((t + 1 : Nat) : Int) M) = 0 ∧ joinR p k n p k2 n2 ((L.take M).map (·.1)) (partsTo p K2 L RR ((t + 1 : Nat) : Int) M) = (((t + 1 : Nat) : Int), movV p K2 L RR M ((t + 1 : Nat) : Int))) ∧
    (M < K → joinE p k n p k2 n2 ((L.take M).map (·.1)) (partsTo p K2 L RR ((t + 1 : Nat) : Int) M) = 5 ∧ joinR p k n p k2 n2 ((L.take M).map (·.1)) (partsTo p K2 L RR ((t + 1 : Nat) : Int) M) = (0, [])) := by
  obtain ⟨q1, q2, q3, q4, q5, q6⟩ := planB_parts hp
  have hp1 : 1 ≤ p := by have := q1.1; omega
  have hxl : ((L.take M).map (·.1)).length = M := by rw [List.length_map, List.length_take]; omega
  have hg' := hg.take M
  have hm : ∀ j, j < M → (L.getD j (0, [])).2.length = m := fun j hj => by rw [getS_at (by omega)]; exact hg.len _ (List.getElem_mem _)
  have hall : relB p k n p k2 n2 = true ∧ diffB n ((L.take M).map (·.1)) = true ∧ (partsTo p K2 L RR ((t + 1 : Nat) : Int) M).length = ((L.take M).map (·.1)).length ∧ alikeB p n2 (partsTo p K2 L RR ((t + 1 : Nat) : Int) M) = true := by
    refine ⟨relB_of hp hp2, diffB_true ⟨fun x hx => ?_, hg'.one⟩, by rw [partsTo_len, hxl], alikeB_true fun i hi => ?_⟩
    · obtain ⟨s, hs, rfl⟩ := List.mem_map.1 hx
      have := hg'.hold s hs
      rw [hn]; exact this
    · rw [partsTo_len] at hi
      unfold alikeAt
      rw [partsTo_get hi, partsTo_get (show 0 < M by omega)]
      refine ⟨?_, rfl, by show (dealV _ _ _ _ _).length = (dealV _ _ _ _ _).length; rw [dealV_len, dealV_len, hm i hi, hm 0 (by omega)]⟩
      unfold stB
      simp only [Bool.and_eq_true, decide_eq_true_eq]
      exact ⟨⟨by omega, by omega⟩, elB_of q1 q2 (dealV_els hp1 _ _ _ _)⟩
  refine ⟨fun hK => ?_, fun hK => joinE_few hall (by rw [hxl]; omega)⟩
  have h := joinE_ok hall (by rw [hxl]; omega)
  refine ⟨h.1, h.2.trans ?_⟩
  unfold movV
  rw [hxl, partsTo_get (show 0 < M by omega)]
/-- All old shares move on together. -/
theorem parts_sec {p : Int} {K N K2 : Nat} {S : List Int} {f : Nat → List Int} {V : Int → List Int} {RR : List (List Int)} (q : Pf p K N) (h : SecV p (K + 1) S f V) : ∃ g, SecV p (K2 + 1) S g (movV p K2 (rowL N V) RR N) := by
  have hk := q.kn
  exact mov_sec (f := f) q.prm q.np h.gd (by rw [rowL_len]; exact Nat.le_refl _) (by omega) rfl fun i hi => by
    rw [shV_on q.prm q.np (f := f) h.gd ⟨fun i => Nat.le_trans (h.len i) q.kn.1, h.on.val⟩ (by rw [rowL_len]; exact Nat.le_refl _) hi]
    exact h.sec i hi

/-- What the loop over the old shares keeps. -/
structure Pw (wo W : World) (g q n : Nat) (s : Value) (l : List Int) (vF : Value) (zs : List Int) (P : Nat → Prop) (V : Nat → Value) (F : Nat → List Shr) : Prop where
  but : But g wo W
  di : DiceAt W g s l
  fr : Gath W wo.heap.size vF zs
  fb : ∀ r, vF.ownBlock = some r → r ≠ q ∧ ¬ P r ∧ ∀ k, k < n → (V k).ownBlock ≠ some r
  got : GotN n W wo.heap.size q P V F
  gl : g < wo.heap.size
section
variable {wo W W' : World} {g q n : Nat} {s : Value} {l : List Int} {vF : Value} {zs : List Int} {P : Nat → Prop} {V : Nat → Value} {F : Nat → List Shr}
theorem Pw.below (h : Pw wo W g q n s l vF zs P V F) (k : Below W.heap.size W W') : Pw wo W' g q n s l vF zs P V F :=
  ⟨h.but.above k h.but.size, h.di.below k h.di.size, h.fr.kept k (Nat.le_refl _), h.fb, h.got.below k, h.gl⟩
theorem Pw.buts (h : Pw wo W g q n s l vF zs P V F) (k : But g W W') (hd : DiceAt W' g s l) : Pw wo W' g q n s l vF zs P V F :=
  ⟨h.but.trans k, hd, h.fr.but k h.gl, h.fb, h.got.kept k.grown (.inl h.gl), h.gl⟩
theorem Pw.wide (h : Pw wo W g q n s l vF zs P V F) (k : Below W.heap.size W W') : Pw wo W' g q n s l vF zs (fun x => P x ∨ (W.heap.size ≤ x ∧ x < W'.heap.size)) V F :=
  ⟨h.but.above k h.but.size, h.di.below k h.di.size, h.fr.kept k (Nat.le_refl _), fun r hr => ⟨(h.fb r hr).1, fun e => by
    have := (gath_lt h.fr r hr).2
    rcases e with e | e
    · exact (h.fb r hr).2.1 e
    · omega, (h.fb r hr).2.2⟩, h.got.wide k, h.gl⟩
theorem Pw.congr (h : Pw wo W g q n s l vF zs P V F) {F' : Nat → List Shr} (e : ∀ j, j < n → F j = F' j) : Pw wo W g q n s l vF zs P V F' := ⟨h.but, h.di, h.fr, h.fb, h.got.congr e, h.gl⟩
/-- The next old holder. -/
theorem Pw.from (h : Pw wo W g q n s l vF zs P V F) {v' : Value} {z : Int} (fr' : Gath W' wo.heap.size v' (zs ++ [z])) (gr : W.grownBy W' vF.ownBlock) (hb : v'.ownBlock = vF.ownBlock ∨ v'.ownBlock = some W.heap.size) : Pw wo W' g q n s l v' (zs ++ [z]) P V F :=
  ⟨But.append h.but (Nat.le_refl _) h.fr gr, h.di.grown h.fr gr h.gl, fr', fun r hr => by
    rcases hb with hb | hb
    · rw [hb] at hr; exact h.fb r hr
    · rw [hb] at hr
      have e := Option.some.inj hr
      refine ⟨?_, fun hp => ?_, fun k hk e2 => ?_⟩
      · have := h.got.lt; omega
      · have := (h.got.pb r hp).2; omega
      · have := ((h.got.gs k hk).lt r e2).2; omega, h.got.other gr (fun r e => h.fb r e), h.gl⟩
/-- What Join answers of one list, however memory has grown. -/
theorem Pw.join {p : Int} {K N K2 u : Nat} {S : List Int} {f : Nat → List Int} {VD : Int → List Int} {RR : List (List Int)} (h : Pw wo W g q n s l vF (fromL N VD N) P V (partsF p K2 n (rowL N VD) RR N 0)) (q1 : Pf p K N) (q2 : Pf p K2 n) (hS : SecV p (K + 1) S f VD) (hm : S.length ≤ 2) (hw : Wheel W) (hu : u < n) :
    Calls Tryd.prog 23 #[.agg #[.int .i64 p, .int .i64 ((K : Int) + 1), .int .i64 (N : Int)], .agg #[.int .i64 p, .int .i64 ((K2 : Int) + 1), .int .i64 (n : Int)], vF, V u] W fun e w' => ∃ v', e = .returned (.tuple #[.agg #[.int .i64 ((u + 1 : Nat) : Int), v'], .int .i64 0]) ∧ Gath w' W.heap.size v' (movV p K2 (rowL N VD) RR N ((u + 1 : Nat) : Int)) ∧ Below W.heap.size W w' := by
  have hk := q1.kn
  have hF : partsF p K2 n (rowL N VD) RR N 0 u = partsTo p K2 (rowL N VD) RR ((u + 1 : Nat) : Int) N := by unfold partsF; rw [if_neg (by omega), if_pos hu]
  have hsh := (h.got.gs u hu).shares (Nat.le_trans partsF_len (by omega))
  rw [hF] at hsh
  have hj := (parts_join (K := K + 1) (M := N) (K2 := K2) (RR := RR) (t := u) (L := rowL N VD) (m := S.length) q1.pl q2.pl (by push_cast; rfl) rfl rfl hS.gd (by rw [rowL_len]; exact Nat.le_refl _) hu).1 hk.1
  have hx := reshare_join p ((K : Int) + 1) (N : Int) p ((K2 : Int) + 1) (n : Int) vF (V u) (fromL N VD N) _ W hw q1.wf q1.wf (h.fr.reads (by rw [fromL_len (Nat.le_refl _)]; omega)) hsh (fun y hy => by
    obtain ⟨j, hj, rfl⟩ := List.mem_map.1 hy
    show (dealV _ _ _ _ _).length ≤ _
    rw [dealV_len, rowL_get (List.mem_range.1 hj), hS.siz]
    omega)
  unfold fromL at hx
  rw [hj.1, hj.2] at hx
  exact hx
theorem Pw.shapes {p : Int} {N K2 u : Nat} {VD : Int → List Int} {RR : List (List Int)} (h : Pw wo W g q n s l vF (fromL N VD N) P V (partsF p K2 n (rowL N VD) RR N 0)) (hN : N ≤ 7) (hu : u < n) :
    (∃ aF cF, vF = .slice aF N cF ∧ N ≤ cF ∧ cF ≤ 9223372036854775807) ∧ ∃ aU cU, V u = .slice aU N cU ∧ N ≤ cU ∧ cU ≤ 9223372036854775807 := by
  have hF : partsF p K2 n (rowL N VD) RR N 0 u = partsTo p K2 (rowL N VD) RR ((u + 1 : Nat) : Int) N := by unfold partsF; rw [if_neg (by omega), if_pos hu]
  have hsh := (h.got.gs u hu).shares (Nat.le_trans partsF_len (by omega))
  rw [hF] at hsh
  have hfl : (fromL N VD N).length = N := fromL_len (Nat.le_refl _)
  obtain ⟨a1, c1, e1, h1, h2, _⟩ := h.fr.slc (by rw [hfl]; omega)
  obtain ⟨a2, c2, e2, k0, k1, k2, _⟩ := hsh
  rw [partsTo_len] at e2 k1
  rw [hfl] at e1 h1
  exact ⟨⟨a1, c1, e1, h1, h2⟩, a2, c2, e2, k1, k2⟩
theorem partsTo_take {p2 : Int} {K2 : Nat} {L : List Shr} {RR : List (List Int)} {h : Int} {i j : Nat} (hj : j ≤ i) : (partsTo p2 K2 L RR h i).take j = partsTo p2 K2 L RR h j := by
  unfold partsTo
  rw [← List.map_take, List.take_range, Nat.min_eq_left hj]
/-- Fewer than Need parts do not go together. -/
theorem Pw.few {p : Int} {K N K2 u : Nat} {S : List Int} {f : Nat → List Int} {VD : Int → List Int} {RR : List (List Int)} {aF aU : Option Addr} {cF cU : Nat} (h : Pw wo W g q n s l (.slice aF N cF) (fromL N VD N) P V (partsF p K2 n (rowL N VD) RR N 0)) (hV : V u = .slice aU N cU) (hcF : N ≤ cF) (hcU : N ≤ cU) (hcb : cU ≤ 9223372036854775807) (q1 : Pf p K N) (q2 : Pf p K2 n) (hS : SecV p (K + 1) S f VD) (hm : S.length ≤ 2) (hw : Wheel W) (hu : u < n) :
    Calls Tryd.prog 23 #[.agg #[.int .i64 p, .int .i64 ((K : Int) + 1), .int .i64 (N : Int)], .agg #[.int .i64 p, .int .i64 ((K2 : Int) + 1), .int .i64 (n : Int)], .slice aF K cF, .slice aU K cU] W fun e w' => ∃ a c, e = .returned (.tuple #[.agg #[.int .i64 0, .slice a 0 c], .int .i64 5]) ∧ Below W.heap.size W w' := by
  have hk := q1.kn
  have hF : partsF p K2 n (rowL N VD) RR N 0 u = partsTo p K2 (rowL N VD) RR ((u + 1 : Nat) : Int) N := by unfold partsF; rw [if_neg (by omega), if_pos hu]
  have hsh := (h.got.gs u hu).shares (Nat.le_trans partsF_len (by omega))
  rw [hF, hV] at hsh
  have hs2 := hsh.take K cU (by omega) (by omega) hcb
  rw [partsTo_take (show K ≤ N by omega)] at hs2
  have hfl : (fromL N VD N).length = N := fromL_len (Nat.le_refl _)
  have hI := h.fr.reads (by rw [hfl]; omega)
  have hI2 := ints_take (w := W) (a := aF) (cap := cF) (zs := fromL N VD N) K (by rw [hfl]; omega) (by rw [hfl]; exact hI)
  have hj := (parts_join (K := K + 1) (M := K) (K2 := K2) (RR := RR) (t := u) (L := rowL N VD) (m := S.length) q1.pl q2.pl (by push_cast; rfl) rfl rfl hS.gd (by rw [rowL_len]; omega) hu).2 (by omega)
  have hx := reshare_join p ((K : Int) + 1) (N : Int) p ((K2 : Int) + 1) (n : Int) (.slice aF K cF) (.slice aU K cU) ((fromL N VD N).take K) _ W hw q1.wf q1.wf hI2 hs2 (fun y hy => by
    obtain ⟨j, hj, rfl⟩ := List.mem_map.1 hy
    show (dealV _ _ _ _ _).length ≤ _
    rw [dealV_len, rowL_get (by have := List.mem_range.1 hj; omega), hS.siz]
    omega)
  have e : (fromL N VD N).take K = ((rowL N VD).take K).map (·.1) := by
    unfold fromL
    rw [← List.map_take, List.take_take, Nat.min_eq_left (by omega)]
  rw [e, hj.1, hj.2] at hx
  refine hx.mono fun e w' ⟨v', h1, hg, h2⟩ => ?_
  obtain ⟨a, c, rfl⟩ := hg.shape
  exact ⟨a, c, h1, h2⟩
/-- One of the lists grows. -/
theorem Pw.app (h : Pw wo W g q n s l vF zs P V F) {k : Nat} (hk : k < n) (ad : Nat) (hd : Int) (gv : Value) (x : List Int) (hc0 : W.cell? ⟨ad, 0, none⟩ = some (.int .i64 hd)) (hc1 : W.cell? ⟨ad, 1, none⟩ = some gv)
    (hI : Ints W gv x) (hP : ∀ g, gv.ownBlock = some g → x ≠ [] → P g) (hlen : (F k).length < 1000) (ty : TypeId) :
    ∃ v' W', (Builtin.append_ #[23, 23] ty #[V k, .slice (some ⟨ad, 0, none⟩) 1 1]).run Tryd.prog W = .ok v' W' ∧ Pw wo (W'.setCell ⟨q, k, none⟩ v') g q n s l vF zs P (fun j => if j = k then v' else V j) (fun j => if j = k then F k ++ [(hd, x)] else F j) ∧ W.grownBy W' (V k).ownBlock ∧ (∃ a c, v' = .slice a ((F k).length + 1) c) := by
  obtain ⟨v', W', h0, h1, h2, h3, h5⟩ := h.got.app hk ad hd gv x hc0 hc1 hI hP hlen ty
  have hB : wo.heap.size ≤ W.heap.size := h.but.size
  have hbl : Below wo.heap.size W W' := (Below.refl _ W).grown h2 hB fun b hb => ((h.got.gs k hk).lt b hb).1
  have hb2 : Below wo.heap.size W (W'.setCell ⟨q, k, none⟩ v') := hbl.trans (set1_below _ _ _ h.got.qb)
  have hset : W'.grownBy (W'.setCell ⟨q, k, none⟩ v') (some q) := (But.set W' ⟨q, k, none⟩ v').grown
  refine ⟨v', W', h0, ⟨h.but.above hb2 (Nat.le_refl _), h.di.below hb2 h.gl, gath_kept_row (gath_kept_row h.fr h2 fun r hr e => (h.fb r hr).2.2 k hk e) hset fun r hr e => (h.fb r hr).1 (Option.some.inj e).symm, fun r hr => ⟨(h.fb r hr).1, (h.fb r hr).2.1, fun j hj e => ?_⟩, h1, h.gl⟩, h2, h3⟩
  by_cases ej : j = k
  · simp only [if_pos ej] at e
    rcases h5 with h5 | h5
    · rw [h5] at e; exact (h.fb r hr).2.2 k hk e
    · rw [h5] at e; have := Option.some.inj e; have := (gath_lt h.fr r hr).2; omega
  · simp only [if_neg ej] at e
    exact (h.fb r hr).2.2 j hj e
theorem pw_start (wo : World) (g n : Nat) (s : Value) (l : List Int) (t : TypeId) (hd : DiceAt wo g s l) : Pw wo (wo.alloc (.cells (madeCells #[.slice none 0 0] n) t)) g wo.heap.size n s l (.slice none 0 0) [] (fun _ => False) (fun _ => .slice none 0 0) (fun _ => []) := by
  have hal : Below wo.heap.size wo (wo.alloc (.cells (madeCells #[.slice none 0 0] n) t)) := (Below.refl _ _).alloc (Nat.le_refl _) _
  exact ⟨(But.refl _ _).above hal (Nat.le_refl _), hd.below hal hd.size, gath_nil _ _, fun r hr => by simp [Value.ownBlock] at hr, gotN_new n wo wo.heap.size t (Nat.le_refl _), hd.size⟩
end
end Go.Proofs.YtomnncainedjdaaDoor
