
/- Growing lists of shares in an array of lists: memory. -/
import Derived.Test.YtomnncainedjdaaDoorZMth
import Derived.Test.YtomnncainedjdaaDoorJPr2
import Derived.Maps.AppendAt
import Derived.Test.YtomnncainedjdaaDoorZPr4
/-! Growing lists of shares in an array of lists: memory. -/
namespace Go.Proofs.YtomnncainedjdaaDoor
open Go.RowKit Go.Sort
open Num
set_option linter.unusedVariables false
set_option linter.unusedSimpArgs false

theorem cell_blkZ {W W' : World} {b k : Nat} (h : W'.heap[b]? = W.heap[b]?) : W'.cell? ⟨b, k, none⟩ = W.cell? ⟨b, k, none⟩ := World.cell?_of_block h
theorem frozen_blkZ {W W' : World} {b k : Nat} (h : W'.heap[b]? = W.heap[b]?) : W'.frozen? ⟨b, k, none⟩ = W.frozen? ⟨b, k, none⟩ := by simp [World.frozen?, h]
/-- A growing list of shares whose values lie in blocks of which P speaks. -/
def PtS (W : World) (P : Nat → Prop) (z : Int × Value) (s : Shr) : Prop := z.1 = s.1 ∧ Ints W z.2 s.2 ∧ ∀ g, z.2.ownBlock = some g → s.2 ≠ [] → P g
def GathP (W : World) (B : Nat) (P : Nat → Prop) (v : Value) (L : List Shr) : Prop := ∃ Z : List (Int × Value), Z.length = L.length ∧ W.ownsRow B 38 2 v L.length (flatZ Z) ∧ ∀ i, i < L.length → PtS W P (Z.getD i (0, undef)) (L.getD i (0, []))
theorem gathP_nil (W : World) (B : Nat) (P : Nat → Prop) : GathP W B P (.slice none 0 0) [] := ⟨[], rfl, World.ownsRow_nil _ _ _ _, fun i hi => by simp at hi⟩
theorem PtS.kept {W W' : World} {P P' : Nat → Prop} {z : Int × Value} {s : Shr} {row : Option Nat} (h : PtS W P z s) (k : W.grownBy W' row) (hr : ∀ g, P g → row ≠ some g) (hP : ∀ g, P g → P' g) : PtS W' P' z s := by
  obtain ⟨h1, h2, h3⟩ := h
  refine ⟨h1, ?_, fun g hg hne => hP g (h3 g hg hne)⟩
  by_cases hne : s.2 = []
  · obtain ⟨a, c, e⟩ := h2.shape
    rw [e, hne]
    exact ints_zero _ _ _
  · exact h2.grown k fun g hg => hr g (h3 g hg hne)
theorem GathP.kept {W W' : World} {B : Nat} {P P' : Nat → Prop} {v : Value} {L : List Shr} {row : Option Nat} (h : GathP W B P v L) (k : W.grownBy W' row) (hv : ∀ g, v.ownBlock = some g → row ≠ some g) (hr : ∀ g, P g → row ≠ some g) (hP : ∀ g, P g → P' g) : GathP W' B P' v L := by
  obtain ⟨Z, h1, h2, h3⟩ := h
  refine ⟨Z, h1, World.ownsRow.kept h2 k ?_, fun i hi => (h3 i hi).kept k hr hP⟩
  cases e : v.ownBlock with
  | none => exact .inl rfl
  | some g => exact .inr (fun e2 => hv g e e2.symm)
theorem GathP.lt {W : World} {B : Nat} {P : Nat → Prop} {v : Value} {L : List Shr} (h : GathP W B P v L) : ∀ g, v.ownBlock = some g → B ≤ g ∧ g < W.heap.size := by
  obtain ⟨Z, h1, h2, h3⟩ := h
  exact World.ownsRow.lt h2
theorem GathP.shares {W : World} {B : Nat} {P : Nat → Prop} {v : Value} {L : List Shr} (h : GathP W B P v L) (hl : L.length ≤ 1000) : Shares W v L := by
  obtain ⟨Z, h1, h2, h3⟩ := h
  rcases id h2.2 with ⟨hv, h0⟩ | ⟨g, cap, cur, hv, hb, hg, hr1, hr2, hr3⟩
  · exact ⟨none, 0, by rw [hv, h0], hl, by omega, by omega, fun hne => absurd (List.length_pos_iff.2 hne) (by omega)⟩
  · refine ⟨_, cap, hv, hl, hr1, by simpa [maxLen] using hr2, fun hne => ?_⟩
    have hcell := World.ownsRow.cells h2 (g := g) (by rw [hv]; rfl)
    have had : ∀ j, (⟨g, 0, none⟩ : Addr).add j = ⟨g, j, none⟩ := fun j => by unfold Addr.add; split <;> simp_all
    refine ⟨g, 0, rfl, fun i hi => ?_⟩
    obtain ⟨f1, f2⟩ := flatZ_get Z i (by omega)
    have c1 := hcell _ _ f1
    have c2 := hcell _ _ f2
    rw [had] at c1 c2
    obtain ⟨e1, e2, _⟩ := h3 i hi
    rw [Nat.zero_add]
    exact ⟨_, by rw [← e1]; exact c1, c2, e2⟩
/-- 'append(l, s)'. -/
theorem run_appendP {W : World} {B : Nat} {P : Nat → Prop} {v : Value} {L : List Shr} (hown : GathP W B P v L) (ad : Nat) (hd : Int) (gv : Value) (l : List Int) (hc0 : W.cell? ⟨ad, 0, none⟩ = some (.int .i64 hd)) (hc1 : W.cell? ⟨ad, 1, none⟩ = some gv)
    (hI : Ints W gv l) (hP : ∀ g, gv.ownBlock = some g → l ≠ [] → P g) (hvP : ∀ g, v.ownBlock = some g → ¬ P g) (hlen : L.length < 1000) (hB : B ≤ W.heap.size) (ty : TypeId) :
    ∃ v' W', (Builtin.append_ #[23, 23] ty #[v, .slice (some ⟨ad, 0, none⟩) 1 1]).run Tryd.prog W = .ok v' W' ∧ GathP W' B P v' (L ++ [(hd, l)]) ∧ W.grownBy W' v.ownBlock ∧ (v'.ownBlock = v.ownBlock ∨ v'.ownBlock = some W.heap.size) := by
  obtain ⟨i0, hi, hz0, hz1, hz2⟩ := info_parts infoShare
  obtain ⟨Z, z1, z2, z3⟩ := hown
  obtain ⟨v', w', h0, h1, h2, _, h5⟩ := run_append_own_at (P := Tryd.prog) W B 23 ty 38 i0 (.agg #[.int .i64 0, .slice none 0 0]) 2 32 Tryd.underlying23 hi hz0 hz1 hz2 rfl (by decide) v L.length (flatZ Z) z2 ⟨ad, 0, none⟩ 1 1 [.int .i64 hd, gv] rfl (by
    have had : ∀ j, (⟨ad, 0, none⟩ : Addr).add j = ⟨ad, j, none⟩ := fun j => by unfold Addr.add; split <;> simp_all
    intro j u hj
    rw [had]
    match j, hj with
    | 0, hj => simp at hj; subst hj; exact hc0
    | 1, hj => simp at hj; subst hj; exact hc1) (by
    obtain ⟨_, _, rfl⟩ := hI.shape
    intro u hu
    simp only [List.mem_cons, List.not_mem_nil, or_false] at hu
    rcases hu with rfl | rfl <;> rfl) (by unfold maxLen; omega) (by omega) hB
  have hrow : ∀ g, P g → v.ownBlock ≠ some g := fun g hg e => hvP g e hg
  refine ⟨v', w', h0, ⟨Z ++ [(hd, gv)], by simp [z1], by rw [flatZ_snoc, List.length_append]; exact h1, fun i hi => ?_⟩, h2, h5⟩
  rw [List.length_append, List.length_singleton] at hi
  by_cases hlt : i < L.length
  · have e1 : (Z ++ [(hd, gv)]).getD i (0, undef) = Z.getD i (0, undef) := by simp [List.getD, List.getElem?_append, z1, hlt]
    have e2 : (L ++ [(hd, l)]).getD i (0, []) = L.getD i (0, []) := by simp [List.getD, List.getElem?_append, hlt]
    rw [e1, e2]
    exact (z3 i hlt).kept h2 hrow fun g hg => hg
  · obtain rfl : i = L.length := by omega
    have e1 : (Z ++ [(hd, gv)]).getD L.length (0, undef) = (hd, gv) := by simp [List.getD, ← z1]
    have e2 : (L ++ [(hd, l)]).getD L.length (0, []) = (hd, l) := by simp [List.getD]
    rw [e1, e2]
    exact PtS.kept ⟨rfl, hI, hP⟩ h2 hrow fun g hg => hg

/-- Sixteen growing lists of shares, the slices of which lie in block q. -/
structure GotW (W : World) (B q : Nat) (P : Nat → Prop) (V : Nat → Value) (F : Nat → List Shr) : Prop where
  cell : ∀ k, k < 16 → W.cell? ⟨q, k, none⟩ = some (V k) ∧ W.frozen? ⟨q, k, none⟩ = false
  gs : ∀ k, k < 16 → GathP W B P (V k) (F k)
  nq : ∀ k, k < 16 → (V k).ownBlock ≠ some q
  ap : ∀ j k, j < 16 → k < 16 → j ≠ k → ∀ b, (V j).ownBlock = some b → (V k).ownBlock ≠ some b
  np : ∀ k, k < 16 → ∀ b, (V k).ownBlock = some b → ¬ P b
  pq : ¬ P q
  pb : ∀ b, P b → B ≤ b ∧ b < W.heap.size
  qb : B ≤ q
  lt : q < W.heap.size
section
variable {W W' : World} {B q : Nat} {P : Nat → Prop} {V : Nat → Value} {F : Nat → List Shr}
/-- A store, or memory that grows, elsewhere. -/
theorem GotW.kept (h : GotW W B q P V F) {r : Nat} (k : W.grownBy W' (some r)) (hr : r < B ∨ W.heap.size ≤ r) : GotW W' B q P V F := by
  have hq : q ≠ r := by have := h.qb; have := h.lt; rcases hr with h | h <;> omega
  have hblk := k.block q h.lt (fun e => hq (Option.some.inj e))
  refine ⟨fun j hj => ⟨by rw [cell_blkZ hblk]; exact (h.cell j hj).1, by rw [frozen_blkZ hblk]; exact (h.cell j hj).2⟩, fun j hj => (h.gs j hj).kept k (fun g hg e => ?_) (fun g hg e => ?_) (fun g hg => hg), h.nq, h.ap, h.np, h.pq, fun b hb => ⟨(h.pb b hb).1, Nat.lt_of_lt_of_le (h.pb b hb).2 k.size⟩, h.qb, Nat.lt_of_lt_of_le h.lt k.size⟩
  · have h1 := (h.gs j hj).lt g hg
    have := Option.some.inj e
    rcases hr with h | h <;> omega
  · have h1 := h.pb g hg
    have := Option.some.inj e
    rcases hr with h | h <;> omega
theorem GotW.below (h : GotW W B q P V F) (b : Below W.heap.size W W') : GotW W' B q P V F :=
  h.kept (r := W.heap.size) (But.of_below b (Nat.le_refl _)).grown (.inr (Nat.le_refl _))
/-- What has been laid since may be values, too. -/
theorem GotW.wide (h : GotW W B q P V F) (b : Below W.heap.size W W') : GotW W' B q (fun x => P x ∨ (W.heap.size ≤ x ∧ x < W'.heap.size)) V F := by
  have h' := h.below b
  have hB : B ≤ W.heap.size := Nat.le_trans h.qb (Nat.le_of_lt h.lt)
  refine ⟨h'.cell, fun j hj => ?_, h'.nq, h'.ap, fun j hj x hx e => ?_, fun e => ?_, fun x hx => ?_, h'.qb, h'.lt⟩
  · refine (h.gs j hj).kept (row := some W.heap.size) (But.of_below b (Nat.le_refl _)).grown (fun g hg e => ?_) (fun g hg e => ?_) (fun g hg => .inl hg)
    · have := (h.gs j hj).lt g hg; have := Option.some.inj e; omega
    · have := h.pb g hg; have := Option.some.inj e; omega
  · rcases e with e | e
    · exact h.np j hj x hx e
    · have := (h.gs j hj).lt x hx; omega
  · rcases e with e | e
    · exact h.pq e
    · have := h.lt; omega
  · rcases hx with hx | hx
    · exact h'.pb x hx
    · exact ⟨by omega, hx.2⟩
theorem GotW.congr (h : GotW W B q P V F) {F' : Nat → List Shr} (e : ∀ j, j < 16 → F j = F' j) : GotW W B q P V F' :=
  ⟨h.cell, fun j hj => by rw [← e j hj]; exact h.gs j hj, h.nq, h.ap, h.np, h.pq, h.pb, h.qb, h.lt⟩
/-- One of the lists grows. -/
theorem GotW.app (h : GotW W B q P V F) {k : Nat} (hk : k < 16) (ad : Nat) (hd : Int) (gv : Value) (l : List Int) (hc0 : W.cell? ⟨ad, 0, none⟩ = some (.int .i64 hd)) (hc1 : W.cell? ⟨ad, 1, none⟩ = some gv)
    (hI : Ints W gv l) (hP : ∀ g, gv.ownBlock = some g → l ≠ [] → P g) (hlen : (F k).length < 1000) (ty : TypeId) :
    ∃ v' W', (Builtin.append_ #[23, 23] ty #[V k, .slice (some ⟨ad, 0, none⟩) 1 1]).run Tryd.prog W = .ok v' W' ∧ GotW (W'.setCell ⟨q, k, none⟩ v') B q P (fun j => if j = k then v' else V j) (fun j => if j = k then F k ++ [(hd, l)] else F j) ∧ W.grownBy W' (V k).ownBlock ∧ (∃ a c, v' = .slice a ((F k).length + 1) c) := by
  have hB : B ≤ W.heap.size := Nat.le_trans h.qb (Nat.le_of_lt h.lt)
  obtain ⟨v', W', h0, h1, h2, h5⟩ := run_appendP (h.gs k hk) ad hd gv l hc0 hc1 hI hP (h.np k hk) hlen hB ty
  have hblk := h2.block q h.lt (fun e => h.nq k hk e.symm)
  have hsz := h2.size
  have hset : W'.grownBy (W'.setCell ⟨q, k, none⟩ v') (some q) := (But.set W' ⟨q, k, none⟩ v').grown
  have hPq : ∀ g, P g → some q ≠ some g := fun g hg e => h.pq (by rw [Option.some.inj e]; exact hg)
  have hv' : v'.ownBlock ≠ some q := by
    rcases h5 with h5 | h5
    · rw [h5]; exact h.nq k hk
    · rw [h5]; intro e; have := Option.some.inj e; have := h.lt; omega
  have hvP : ∀ b, v'.ownBlock = some b → ¬ P b := fun b hb hp => by
    rcases h5 with h5 | h5
    · rw [h5] at hb; exact h.np k hk b hb hp
    · rw [h5] at hb; have := Option.some.inj hb; have := (h.pb b hp).2; omega
  have hvo : ∀ j, j < 16 → j ≠ k → ∀ b, v'.ownBlock = some b → (V j).ownBlock ≠ some b := fun j hj hjk b hb e => by
    rcases h5 with h5 | h5
    · rw [h5] at hb; exact h.ap k j hk hj (Ne.symm hjk) b hb e
    · rw [h5] at hb; have := Option.some.inj hb; have := ((h.gs j hj).lt b e).2; omega
  have hsh : ∃ a c, v' = .slice a ((F k).length + 1) c := by
    have := h1.shares (by rw [List.length_append]; simp; omega)
    obtain ⟨a, c, e, _⟩ := this
    rw [List.length_append] at e
    exact ⟨a, c, e⟩
  refine ⟨v', W', h0, ⟨fun j hj => ?_, fun j hj => ?_, fun j hj => ?_, fun i j hi hj hij b hb => ?_, fun j hj b hb => ?_, h.pq, fun b hb => ⟨(h.pb b hb).1, by have := (h.pb b hb).2; simp [World.setCell]; omega⟩, h.qb, by have := h.lt; simp [World.setCell]; omega⟩, h2, hsh⟩
  · by_cases e : j = k
    · subst e
      simp only [if_pos rfl]
      exact ⟨World.cell?_setCell_same _ _ _ (show W'.cell? ⟨q, j, none⟩ = some (V j) by rw [cell_blkZ hblk]; exact (h.cell j hj).1), by rw [World.frozen?_setCell, frozen_blkZ hblk]; exact (h.cell j hj).2⟩
    · simp only [if_neg e]
      exact ⟨by rw [World.cell?_setCell_other _ _ _ _ (by intro e2; simp only [Addr.mk.injEq] at e2; omega), cell_blkZ hblk]; exact (h.cell j hj).1, by rw [World.frozen?_setCell, frozen_blkZ hblk]; exact (h.cell j hj).2⟩
  · by_cases e : j = k
    · subst e
      simp only [if_pos rfl]
      exact h1.kept hset (fun g hg e => hv' (by rw [hg, Option.some.inj e])) hPq fun g hg => hg
    · simp only [if_neg e]
      have h3 : GathP W' B P (V j) (F j) := (h.gs j hj).kept h2 (fun g hg e2 => h.ap k j hk hj (Ne.symm e) g e2 hg) (fun g hg e2 => h.np k hk g e2 hg) fun g hg => hg
      exact h3.kept hset (fun g hg e => h.nq j hj (by rw [hg, Option.some.inj e])) hPq fun g hg => hg
  · by_cases e : j = k
    · simp only [if_pos e]; exact hv'
    · simp only [if_neg e]; exact h.nq j hj
  · by_cases e1 : i = k <;> by_cases e2 : j = k
    · omega
    · simp only [if_pos e1] at hb; simp only [if_neg e2]; exact hvo j hj e2 b hb
    · simp only [if_neg e1] at hb; simp only [if_pos e2]; exact fun e => hvo i hi e1 b e hb
    · simp only [if_neg e1] at hb; simp only [if_neg e2]; exact h.ap i j hi hj hij b hb
  · by_cases e : j = k
    · simp only [if_pos e] at hb; exact hvP b hb
    · simp only [if_neg e] at hb; exact h.np j hj b hb
end
end Go.Proofs.YtomnncainedjdaaDoor
/-! The program's package reshare: checkMove; lists of lists of numbers. -/
namespace Go.Proofs.YtomnncainedjdaaDoor
open Go.RowKit Go.Sort
open Num
set_option linter.unusedVariables false

/-- A list of lists of numbers that a slice reads as. -/
def ListsI (w : World) (s : Value) (RR : List (List Int)) : Prop := ∃ a c, s = .slice a RR.length c ∧ RR.length ≤ 1000 ∧ RR.length ≤ c ∧ c ≤ 9223372036854775807 ∧ (RR ≠ [] → ∃ b off, a = some ⟨b, off, none⟩ ∧
  ∀ i, i < RR.length → ∃ v, w.cell? ⟨b, off + i, none⟩ = some v ∧ Slc w v (RR.getD i []))
theorem ListsI.below {w w' : World} {s : Value} {RR : List (List Int)} (h : ListsI w s RR) {B : Nat} (hB : w.heap.size ≤ B) (b : Below B w w') : ListsI w' s RR := by
  obtain ⟨a, c, h1, h2, h3, h4, h5⟩ := h
  refine ⟨a, c, h1, h2, h3, h4, fun hne => ?_⟩
  obtain ⟨q, off, e, hc⟩ := h5 hne
  refine ⟨q, off, e, fun i hi => ?_⟩
  obtain ⟨v, k1, k2⟩ := hc i hi
  have hlt := cell_lt k1
  exact ⟨v, by rw [b.cell (p := ⟨q, off + i, none⟩) (by show q < B; simp only at hlt; omega)]; exact k1, k2.below hB b⟩
theorem ListsI.at {w : World} {a : Option Addr} {n c : Nat} {RR : List (List Int)} (h : ListsI w (.slice a n c) RR) {i : Nat} (hi : i < n) : ∃ b off v, a = some ⟨b, off, none⟩ ∧ w.cell? ⟨b, off + i, none⟩ = some v ∧ Slc w v (RR.getD i []) := by
  obtain ⟨a', c', h1, h2, h3, h4, h5⟩ := h
  simp only [Value.slice.injEq] at h1
  obtain ⟨rfl, hn, rfl⟩ := h1
  obtain ⟨q, off, e, hc⟩ := h5 (fun e => by subst e; simp at hn; omega)
  obtain ⟨v, k1, k2⟩ := hc i (by omega)
  exact ⟨q, off, v, e, k1, k2⟩
/-- The error ahead of all Splits. -/
noncomputable def chkE (p k n p2 k2 n2 : Int) (L : List Shr) (M : Nat) : Int := if combE p k n L = 0 then (if relB p k n p2 k2 n2 = true then (if (M : Int) < k then 5 else 0) else 1) else combE p k n L
set_option maxRecDepth 100000 in
set_option maxHeartbeats 8000000 in
theorem reshare_checkMove (p k n p2 k2 n2 : Int) (vl : Value) (L : List Shr) (ar : Option Addr) (M cr : Nat) (w : World) (hw : Wheel w) (hp : (Lit.int .i64 p).wf = true) (hp2 : (Lit.int .i64 p2).wf = true) (hs : Shares w vl L) (hM : M ≤ 1000) :
    Calls Tryd.prog 45 #[planV p k n, planV p2 k2 n2, vl, .slice ar M cr] w fun e w' => e = .returned (.int .i64 (chkE p k n p2 k2 n2 L M)) ∧ Below w.heap.size w w' := by
  unfold planV
  obtain ⟨al, cl, rfl, hL1, _⟩ := id hs
  obtain ⟨N, hN⟩ : ∃ N, L.length = N := ⟨_, rfl⟩
  obtain ⟨g, hgw⟩ : ∃ g, w.heap.size = g := ⟨_, rfl⟩
  obtain ⟨w1, hw1⟩ : ∃ w1, (w.alloc (Obj.cells #[Value.int IntKind.i64 p, Value.int IntKind.i64 k, Value.int IntKind.i64 n] 30)).alloc (Obj.cells #[Value.int IntKind.i64 p2, Value.int IntKind.i64 k2, Value.int IntKind.i64 n2] 30) = w1 := ⟨_, rfl⟩
  have HA0 : Hid (Pl2 w w1 g p k n p2 k2 n2) := by rw [← hw1, ← hgw]; exact pl2_new w hw _ _ _ _ _ _ _ _
  have HCM := Lib.hid (fun W (h : Pl2 w W g p k n p2 k2 n2) => share_combine p k n (.slice al L.length cl) L W h.wh hp (hs.below (Nat.le_of_eq hgw) h.be))
  have HRL := Lib.hid (fun W (h : Pl2 w W g p k n p2 k2 n2) => reshare_related p k n p2 k2 n2 W h.wh hp hp2)
  unfold planV at HCM HRL
  obtain ⟨E, hE⟩ : ∃ E, combE p k n L = E := ⟨_, rfl⟩
  obtain ⟨br, hbr⟩ : ∃ b, relB p k n p2 k2 n2 = b := ⟨_, rfl⟩
  have HE : Hid (chkE p k n p2 k2 n2 L M = if E = 0 then (if br = true then (if (M : Int) < k then 5 else 0) else 1) else E) := by show _ = _; unfold chkE; rw [hE, hbr]
  rw [hE] at HCM
  rw [hbr] at HRL
  rw [HE.out, hgw]
  rw [hN] at HCM ⊢
  clear hw hp hp2 hs hN hE hbr hL1 HE
  obtain ⟨p0, p1, p2', q0, q1, q2⟩ := HA0.out.cells
  by_cases hE0 : E = 0
  · subst hE0
    rw [if_pos rfl]
    cases br with
    | false =>
      rw [if_neg (by simp)]
      go_enter Tryd.func45, Tryd.ntmps45
      go_wp2_with fail
      refine (HCM.out w1 HA0.out).mono ?_
      rintro e W1 ⟨v, rfl, _, hb⟩
      have HA1 := Lib.hid (HA0.out.below hb)
      clear hb p0 p1 p2' q0 q1 q2
      obtain ⟨p0, p1, p2', q0, q1, q2⟩ := HA1.out.cells
      go_wp2_with fail
      refine (HRL.out W1 HA1.out).mono ?_
      rintro e W2 ⟨rfl, hb⟩
      have HA2 := Lib.hid (HA1.out.below hb)
      clear hb
      go_wp2
      go_ret
      exact ⟨rfl, HA2.out.be⟩
    | true =>
      rw [if_pos rfl]
      by_cases hMk : (M : Int) < k
      · rw [if_pos hMk]
        go_enter Tryd.func45, Tryd.ntmps45
        go_wp2_with fail
        refine (HCM.out w1 HA0.out).mono ?_
        rintro e W1 ⟨v, rfl, _, hb⟩
        have HA1 := Lib.hid (HA0.out.below hb)
        clear hb p0 p1 p2' q0 q1 q2
        obtain ⟨p0, p1, p2', q0, q1, q2⟩ := HA1.out.cells
        go_wp2_with fail
        refine (HRL.out W1 HA1.out).mono ?_
        rintro e W2 ⟨rfl, hb⟩
        have HA2 := Lib.hid (HA1.out.below hb)
        clear hb p0 p1 p2' q0 q1 q2
        obtain ⟨p0, p1, p2', q0, q1, q2⟩ := HA2.out.cells
        go_wp2
        go_ret
        exact ⟨rfl, HA2.out.be⟩
      · rw [if_neg hMk]
        go_enter Tryd.func45, Tryd.ntmps45
        go_wp2_with fail
        refine (HCM.out w1 HA0.out).mono ?_
        rintro e W1 ⟨v, rfl, _, hb⟩
        have HA1 := Lib.hid (HA0.out.below hb)
        clear hb p0 p1 p2' q0 q1 q2
        obtain ⟨p0, p1, p2', q0, q1, q2⟩ := HA1.out.cells
        go_wp2_with fail
        refine (HRL.out W1 HA1.out).mono ?_
        rintro e W2 ⟨rfl, hb⟩
        have HA2 := Lib.hid (HA1.out.below hb)
        clear hb p0 p1 p2' q0 q1 q2
        obtain ⟨p0, p1, p2', q0, q1, q2⟩ := HA2.out.cells
        go_wp2
        go_ret
        exact ⟨rfl, HA2.out.be⟩
  · rw [if_neg hE0]
    have n1 : (E != 0) = true := by simpa using hE0
    go_enter Tryd.func45, Tryd.ntmps45
    go_wp2_with fail
    refine (HCM.out w1 HA0.out).mono ?_
    rintro e W1 ⟨v, rfl, _, hb⟩
    have HA1 := Lib.hid (HA0.out.below hb)
    clear hb p0 p1 p2' q0 q1 q2
    go_wp2
    go_ret
    exact ⟨rfl, HA1.out.be⟩
end Go.Proofs.YtomnncainedjdaaDoor
