
/- Slices of integers that a call makes by itself: one more element; a made slice; reading them. -/
import Derived.Test.YtmegmgcfnihhiaaDoorArith
import Derived.OwnWalk
import Derived.Deep.OwnRows
/-! Slices of integers that a call makes by itself: one more element; a made slice; reading them. -/
namespace Go.Proofs.YtmegmgcfnihhiaaDoor
open Go.RowKit
set_option linter.unusedVariables false

theorem infoInt : (Tryd.prog.info? 3).map (fun i => (i.zero, i.size, i.bytes)) = some (some (.int .i64 0), 1, 8) := by kernel_rfl

/-- The slice v holds the numbers zs in memory from block 'base' on. -/
def Gath (w : World) (base : Nat) (v : Value) (zs : List Int) : Prop := w.ownsRow base 3 1 v zs.length (zs.map (Value.int .i64))

theorem gath_nil (w : World) (base : Nat) : Gath w base (.slice none 0 0) [] := World.ownsRow_nil _ _ _ _
theorem But.grown {b : Nat} {w w' : World} (h : But b w w') : w.grownBy w' (some b) :=
  ⟨h.os, h.tape, h.output, h.size, fun k hk hne => h.block k hk (by simpa using hne)⟩
theorem Gath.but {w w' : World} {base b : Nat} {v : Value} {zs : List Int} (h : Gath w base v zs) (k : But b w w') (hb : b < base) : Gath w' base v zs :=
  World.ownsRow.kept h k.grown (by
    by_cases e : v.ownBlock = none
    · exact .inl e
    · obtain ⟨g, hg⟩ := Option.ne_none_iff_exists'.1 e
      have := (World.ownsRow.lt h g hg).1
      exact .inr (by rw [hg]; simp; omega))
theorem Gath.alloc {w : World} {base : Nat} {v : Value} {zs : List Int} (h : Gath w base v zs) (o : Obj) : Gath (w.alloc o) base v zs := World.ownsRow.alloc h o
theorem Gath.drewN {w : World} {base : Nat} {v : Value} {zs : List Int} (h : Gath w base v zs) (n : Nat) : Gath (w.drewN n) base v zs := h
theorem Gath.block {w : World} {base : Nat} {v : Value} {zs : List Int} (h : Gath w base v zs) : ∀ g, v.ownBlock = some g → base ≤ g := fun g hg => (World.ownsRow.lt h g hg).1

theorem Gath.reads {w : World} {base : Nat} {v : Value} {zs : List Int} (h : Gath w base v zs) (hl : zs.length ≤ 140737488355328) : Ints w v zs := by
  obtain ⟨_, hn | ⟨g, cap, cur, rfl, hb, hg, h1, h2, h3, h4⟩⟩ := h
  · obtain ⟨rfl, h0⟩ := hn
    obtain rfl : zs = [] := List.length_eq_zero_iff.1 h0
    exact ints_nil w
  · refine ⟨_, cap, rfl, hl, fun _ => ⟨g, 0, rfl, fun i hi => ?_⟩⟩
    rw [Nat.zero_add, cell_of_row w g i cur _ _ hg]
    have h5 : (zs.map (Value.int .i64))[i]? = some (.int .i64 (zs.getD i 0)) := by simp [hi, List.getD]
    rw [← h4, List.getElem?_take_of_lt (by omega)] at h5
    simpa using h5

/-- A value whose block is not b reads as it did behind what changes b alone. -/
theorem Ints.but {w w' : World} {s : Value} {l : List Int} {b : Nat} (h : Ints w s l) (k : But b w w') (hb : ∀ g, s.ownBlock = some g → g ≠ b) : Ints w' s l := by
  obtain ⟨a, c, rfl, h2, h3⟩ := h
  refine ⟨a, c, rfl, h2, fun hl => ?_⟩
  obtain ⟨b', off, rfl, hc⟩ := h3 hl
  refine ⟨b', off, rfl, fun i hi => ?_⟩
  rw [k.cell (p := ⟨b', off + i, none⟩) (cell_lt (hc i hi)) (hb b' rfl)]
  exact hc i hi

section
variable {ops : Array Oper} {rest : List Oper} {o : Oper} {a : Act} {Q : Exit → Act → World → Prop}
/-- 'append(l, z)', l a slice of the call's own. -/
theorem append_one (w : World) (hgd : o.guard = none) (s x : Operand) (ho : o.op = .call { callee := .builtin .append, args := #[s, x], argTypes := #[30, 30] })
    (base : Nat) (v : Value) (zs : List Int) (z : Int) (hs : a.eval s = v) (hown : Gath w base v zs) (ad : Addr) (hx : a.eval x = .slice (some ad) 1 1) (hcell : w.cell? ad = some (.int .i64 z))
    (hlen : zs.length < 17592186044416) (hbase : base ≤ w.heap.size)
    (h : ∀ v' w', Gath w' base v' (zs ++ [z]) → w.grownBy w' v.ownBlock → wpList Tryd.prog ops Q rest (a.put o.dst v') w') : wpList Tryd.prog ops Q (o :: rest) a w := by
  obtain ⟨i0, hi, hz0, hz1, hz2⟩ := info_parts infoInt
  refine wpList_append_own w hgd s x 30 ho base 3 i0 (.int .i64 0) 1 8 Tryd.underlying30 hi hz0 hz1 hz2 rfl (by decide) v zs.length (zs.map (Value.int .i64)) hs hown ad 1 1 [.int .i64 z] hx rfl ?_ ?_ ?_ ?_ hbase ?_
  · intro j u hj
    match j, hj with
    | 0, hj =>
      simp at hj; subst hj
      have e : ad.add 0 = ad := by unfold Addr.add; simp
      rw [e]; exact hcell
  · intro u hu; simp at hu; subst hu; rfl
  · unfold maxLen; omega
  · omega
  · intro v' w' h1 h2 _
    refine h v' w' ?_ h2
    unfold Gath
    simpa using h1
end
/-- Behind an append: the dice's block, and all that was there below. -/
theorem But.append {w w' : World} {base b : Nat} {v : Value} {zs : List Int} {W : World} (hb : But b W w) (hW : W.heap.size ≤ base) (h : Gath w base v zs) (k : w.grownBy w' v.ownBlock) : But b W w' :=
  ⟨k.os.trans hb.os, k.tape.trans hb.tape, k.output.trans hb.output, Nat.le_trans hb.size k.size, fun i hi hne =>
    (k.block i (Nat.lt_of_lt_of_le hi hb.size) (fun e => by have := h.block i e.symm; omega)).trans (hb.block i hi hne)⟩
theorem DiceAt.grown {w w' : World} {b base : Nat} {s v : Value} {l zs : List Int} (h : DiceAt w b s l) (g : Gath w base v zs) (k : w.grownBy w' v.ownBlock) (hb : b < base) : DiceAt w' b s l :=
  h.below ((Below.refl (b + 1) w).grown k h.size (fun i e => by have := g.block i e; omega)) (by omega)

/-! ### Elements from the dice -/
theorem gather_step {p z : Int} {zs l : List Int} {n b : Nat} {w w1 w2 : World} {v v' s : Value} {o : Obj} (hel : ∀ x ∈ zs, Num.El p x) (hz : Num.El p z) (hlt : zs.length < n) (hd : DiceAt w1 b s l)
    (hown : Gath w1 w.heap.size v zs) (hbut : But b w w1) (hb : b < w.heap.size) (hown2 : Gath w2 w.heap.size v' (zs ++ [z])) (hgr : (w1.alloc o).grownBy w2 v.ownBlock) :
    (zs ++ [z]).length ≤ n ∧ Hid (∀ x ∈ zs ++ [z], Num.El p x) ∧ Gath w2 w.heap.size v' (zs ++ [z]) ∧ DiceAt w2 b s l ∧ But b w w2 := by
  refine ⟨by simp; omega, Lib.hid fun x hx => ?_, hown2, ?_, ?_⟩
  · rcases List.mem_append.1 hx with h | h
    · exact hel x h
    · simp at h; subst h; exact hz
  · exact (hd.below ((Below.refl _ _).alloc (Nat.le_refl _) o) hd.size).grown (hown.alloc o) hgr hb
  · exact But.append (hbut.trans (But.alloc b w1 o)) (Nat.le_refl _) (hown.alloc o) hgr

end Go.Proofs.YtmegmgcfnihhiaaDoor
/-! Contracts of Linear: the program's and the document's answer. -/
namespace Go.Proofs.YtmegmgcfnihhiaaDoor
open Go.RowKit
open Num
set_option linter.unusedVariables false

/-- The list a plus c times b, place by place. -/
def linAt (p : Int) (a b : List Int) (c : Int) (i : Nat) : Int := addF p (a.getD i 0) (mulF p c (b.getD i 0))
def linF (p : Int) (a b : List Int) (c : Int) : List Int := (List.range (max a.length b.length)).map (linAt p a b c)
theorem els_at {p : Int} (hp : 1 ≤ p) {l : List Int} (h : Els p l) (i : Nat) : El p (l.getD i 0) := by
  by_cases hi : i < l.length
  · rw [getD_at hi]; exact h _ (List.getElem_mem hi)
  · simp [List.getD, show l.length ≤ i by omega]; exact el_zero hp

theorem ints_at {w : World} {a : Option Addr} {n c : Nat} {l : List Int} (h : Ints w (.slice a n c) l) (hn : n = l.length) {k : Nat} (hk : k < n) :
    ∃ b off, a = some ⟨b, off, none⟩ ∧ w.cell? ⟨b, off + k, none⟩ = some (.int .i64 (l.getD k 0)) := by
  obtain ⟨a', c', hv, _, hc⟩ := h
  simp only [Value.slice.injEq] at hv
  obtain ⟨rfl, _⟩ := hv
  obtain ⟨b, off, ha, hx⟩ := hc (fun e => by subst e; simp at hn; omega)
  exact ⟨b, off, ha, hx k (by omega)⟩

/-- What has been stored behind k rounds. -/
def linRow (p : Int) (a b : List Int) (c : Int) (k j : Nat) : Value := .int .i64 (if j < k then linAt p a b c j else 0)

theorem lin_step {p c v : Int} {a b : List Int} {k : Nat} (h : linAt p a b c k = v) (j : Nat) : (if j = k then Value.int .i64 v else linRow p a b c k j) = linRow p a b c (k + 1) j := by
  subst h
  unfold linRow
  by_cases e : j = k
  · subst e; simp
  · rw [if_neg e]
    by_cases h1 : j < k
    · rw [if_pos h1, if_pos (by omega)]
    · rw [if_neg h1, if_neg (by omega)]

theorem row_gath {w : World} {g n base : Nat} {f : Nat → Int} (h : w.rowIs g 3 n (fun j => .int .i64 (f j))) (hg : base ≤ g) (hn : n ≤ maxLen) :
    Gath w base (.slice (some ⟨g, 0, none⟩) n n) ((List.range n).map f) := by
  obtain ⟨c, hb, hs, hc⟩ := h
  refine ⟨by simp, .inr ⟨g, n, c, by simp, hg, hb, by simp, hn, by simp [hs], ?_⟩⟩
  apply List.ext_getElem?
  intro i
  by_cases hi : i < n
  · rw [List.getElem?_take_of_lt (by simpa using hi)]
    have := hc i hi
    rw [Array.getElem?_toList, this]
    simp [hi]
  · rw [List.getElem?_eq_none (by simp [hs]; omega), List.getElem?_eq_none (by simp; omega)]

end Go.Proofs.YtmegmgcfnihhiaaDoor
/-! Contract of the document's answer for Linear. -/
namespace Go.Proofs.YtmegmgcfnihhiaaDoor
open Go.RowKit
open Num
set_option linter.unusedVariables false

def pre (p : Int) (a b : List Int) (c : Int) (k : Nat) : List Int := (List.range k).map (linAt p a b c)
theorem pre_length (p : Int) (a b : List Int) (c : Int) (k : Nat) : (pre p a b c k).length = k := by simp [pre]
theorem pre_succ {p c z : Int} {a b : List Int} {k : Nat} (h : z = linAt p a b c k) : pre p a b c k ++ [z] = pre p a b c (k + 1) := by
  subst h; simp [pre, List.range_succ]
theorem lin_both {p c x y : Int} {a b : List Int} {k : Nat} (hx : a.getD k 0 = x) (hy : b.getD k 0 = y) : (x + c * y) % p = linAt p a b c k := by
  subst hx hy; unfold linAt addF mulF; rw [Int.add_emod_emod]
theorem lin_left {p c x : Int} {a b : List Int} {k : Nat} (hx : a.getD k 0 = x) (hk : b.length ≤ k) (he : El p x) : x = linAt p a b c k := by
  subst hx; unfold linAt addF mulF
  rw [show b.getD k 0 = 0 by simp [List.getD, hk]]
  simp; exact (el_fix he).symm
theorem lin_right {p c y : Int} {a b : List Int} {k : Nat} (hk : a.length ≤ k) (hy : b.getD k 0 = y) : c * y % p = linAt p a b c k := by
  subst hy; unfold linAt addF mulF
  rw [show a.getD k 0 = 0 by simp [List.getD, hk]]
  simp

theorem ref_step {p c z : Int} {a b : List Int} {k B : Nat} {w wr w2 : World} {v v' : Value} {o : Obj} (hz : z = linAt p a b c k) (hB : B = w.heap.size) (hown : Gath wr B v (pre p a b c k)) (hbel : Below B w wr)
    (hown2 : Gath w2 B v' (pre p a b c k ++ [z])) (hgr : (wr.alloc o).grownBy w2 v.ownBlock) : Gath w2 B v' (pre p a b c (k + 1)) ∧ Below B w w2 := by
  rw [pre_succ hz] at hown2
  refine ⟨hown2, ((hbel.alloc (by subst hB; exact hbel.size) o).grown hgr (by subst hB; have := hbel.size; simp; omega) fun g hg => hown.block g hg)⟩

end Go.Proofs.YtmegmgcfnihhiaaDoor
