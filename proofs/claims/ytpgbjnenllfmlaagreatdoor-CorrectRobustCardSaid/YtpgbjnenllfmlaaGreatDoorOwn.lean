
/- Slices of integers that a call makes by itself: one more element; a made slice; reading them. -/
import Derived.Test.YtpgbjnenllfmlaaGreatDoorArith
import Derived.OwnWalk
import Derived.Deep.OwnRows
/-! Slices of integers that a call makes by itself: one more element; a made slice; reading them. -/
namespace Go.Proofs.YtpgbjnenllfmlaaGreatDoor
open Go.RowKit
set_option linter.unusedVariables false

theorem infoInt : (Tryz.prog.info? 3).map (fun i => (i.zero, i.size, i.bytes)) = some (some (.int .i64 0), 1, 8) := by kernel_rfl

/-- The slice v holds the numbers zs in memory from block 'base' on. -/
def Gath (w : World) (base : Nat) (v : Value) (zs : List Int) : Prop := w.ownsRow base 3 1 v zs.length (zs.map (Value.int .i64))

theorem gath_nil (w : World) (base : Nat) : Gath w base (.slice none 0 0) [] := World.ownsRow_nil _ _ _ _
theorem But.grown {b : Nat} {w w' : World} (h : But b w w') : w.grownBy w' (some b) :=
  ⟨h.os, h.tape, h.output, h.size, fun k hk hne => h.block k hk (by simpa using hne)⟩
theorem Gath.but {w w' : World} {base b : Nat} {v : Value} {zs : List Int} (h : Gath w base v zs) (k : But b w w') (hb : b < base) : Gath w' base v zs :=
  World.ownsRow.kept h k.grown (by
    by_cases e : v.ownBlock = none
    · exact .inl e
    · obtain ⟨g, hg⟩ := Option.ne_none_iff_exists'.1 e
      have := (World.ownsRow.lt h g hg).1
      exact .inr (by rw [hg]; simp; omega))
theorem Gath.alloc {w : World} {base : Nat} {v : Value} {zs : List Int} (h : Gath w base v zs) (o : Obj) : Gath (w.alloc o) base v zs := World.ownsRow.alloc h o
theorem Gath.drewN {w : World} {base : Nat} {v : Value} {zs : List Int} (h : Gath w base v zs) (n : Nat) : Gath (w.drewN n) base v zs := h
theorem Gath.block {w : World} {base : Nat} {v : Value} {zs : List Int} (h : Gath w base v zs) : ∀ g, v.ownBlock = some g → base ≤ g := fun g hg => (World.ownsRow.lt h g hg).1

theorem Gath.reads {w : World} {base : Nat} {v : Value} {zs : List Int} (h : Gath w base v zs) (hl : zs.length ≤ 140737488355328) : Ints w v zs := by
  obtain ⟨_, hn | ⟨g, cap, cur, rfl, hb, hg, h1, h2, h3, h4⟩⟩ := h
  · obtain ⟨rfl, h0⟩ := hn
    obtain rfl : zs = [] := List.length_eq_zero_iff.1 h0
    exact ints_nil w
  · refine ⟨_, cap, rfl, hl, fun _ => ⟨g, 0, rfl, fun i hi => ?_⟩⟩
    rw [Nat.zero_add, cell_of_row w g i cur _ _ hg]
    have h5 : (zs.map (Value.int .i64))[i]? = some (.int .i64 (zs.getD i 0)) := by simp [hi, List.getD]
    rw [← h4, List.getElem?_take_of_lt (by omega)] at h5
    simpa using h5

/-- A value whose block is not b reads as it did behind what changes b alone. -/
theorem Ints.but {w w' : World} {s : Value} {l : List Int} {b : Nat} (h : Ints w s l) (k : But b w w') (hb : ∀ g, s.ownBlock = some g → g ≠ b) : Ints w' s l := by
  obtain ⟨a, c, rfl, h2, h3⟩ := h
  refine ⟨a, c, rfl, h2, fun hl => ?_⟩
  obtain ⟨b', off, rfl, hc⟩ := h3 hl
  refine ⟨b', off, rfl, fun i hi => ?_⟩
  rw [k.cell (p := ⟨b', off + i, none⟩) (cell_lt (hc i hi)) (hb b' rfl)]
  exact hc i hi

section
variable {ops : Array Oper} {rest : List Oper} {o : Oper} {a : Act} {Q : Exit → Act → World → Prop}
/-- 'append(l, z)', l a slice of the call's own. -/
theorem append_one (w : World) (hgd : o.guard = none) (s x : Operand) (ho : o.op = .call { callee := .builtin .append, args := #[s, x], argTypes := #[22, 22] })
    (base : Nat) (v : Value) (zs : List Int) (z : Int) (hs : a.eval s = v) (hown : Gath w base v zs) (ad : Addr) (hx : a.eval x = .slice (some ad) 1 1) (hcell : w.cell? ad = some (.int .i64 z))
    (hlen : zs.length < 17592186044416) (hbase : base ≤ w.heap.size)
    (h : ∀ v' w', Gath w' base v' (zs ++ [z]) → w.grownBy w' v.ownBlock → wpList Tryz.prog ops Q rest (a.put o.dst v') w') : wpList Tryz.prog ops Q (o :: rest) a w := by
  obtain ⟨i0, hi, hz0, hz1, hz2⟩ := info_parts infoInt
  refine wpList_append_own w hgd s x 22 ho base 3 i0 (.int .i64 0) 1 8 Tryz.underlying22 hi hz0 hz1 hz2 rfl (by decide) v zs.length (zs.map (Value.int .i64)) hs hown ad 1 1 [.int .i64 z] hx rfl ?_ ?_ ?_ ?_ hbase ?_
  · intro j u hj
    match j, hj with
    | 0, hj =>
      simp at hj; subst hj
      have e : ad.add 0 = ad := by unfold Addr.add; simp
      rw [e]; exact hcell
  · intro u hu; simp at hu; subst hu; rfl
  · unfold maxLen; omega
  · omega
  · intro v' w' h1 h2 _
    refine h v' w' ?_ h2
    unfold Gath
    simpa using h1
end
/-- Behind an append: the dice's block, and all that was there below. -/
theorem But.append {w w' : World} {base b : Nat} {v : Value} {zs : List Int} {W : World} (hb : But b W w) (hW : W.heap.size ≤ base) (h : Gath w base v zs) (k : w.grownBy w' v.ownBlock) : But b W w' :=
  ⟨k.os.trans hb.os, k.tape.trans hb.tape, k.output.trans hb.output, Nat.le_trans hb.size k.size, fun i hi hne =>
    (k.block i (Nat.lt_of_lt_of_le hi hb.size) (fun e => by have := h.block i e.symm; omega)).trans (hb.block i hi hne)⟩
theorem DiceAt.grown {w w' : World} {b base : Nat} {s v : Value} {l zs : List Int} (h : DiceAt w b s l) (g : Gath w base v zs) (k : w.grownBy w' v.ownBlock) (hb : b < base) : DiceAt w' b s l :=
  h.below ((Below.refl (b + 1) w).grown k h.size (fun i e => by have := g.block i e; omega)) (by omega)

/-! ### Elements from the dice -/
theorem gather_step {p z : Int} {zs l : List Int} {n b : Nat} {w w1 w2 : World} {v v' s : Value} {o : Obj} (hel : ∀ x ∈ zs, Num.El p x) (hz : Num.El p z) (hlt : zs.length < n) (hd : DiceAt w1 b s l)
    (hown : Gath w1 w.heap.size v zs) (hbut : But b w w1) (hb : b < w.heap.size) (hown2 : Gath w2 w.heap.size v' (zs ++ [z])) (hgr : (w1.alloc o).grownBy w2 v.ownBlock) :
    (zs ++ [z]).length ≤ n ∧ Hid (∀ x ∈ zs ++ [z], Num.El p x) ∧ Gath w2 w.heap.size v' (zs ++ [z]) ∧ DiceAt w2 b s l ∧ But b w w2 := by
  refine ⟨by simp; omega, Lib.hid fun x hx => ?_, hown2, ?_, ?_⟩
  · rcases List.mem_append.1 hx with h | h
    · exact hel x h
    · simp at h; subst h; exact hz
  · exact (hd.below ((Below.refl _ _).alloc (Nat.le_refl _) o) hd.size).grown (hown.alloc o) hgr hb
  · exact But.append (hbut.trans (But.alloc b w1 o)) (Nat.le_refl _) (hown.alloc o) hgr

set_option maxHeartbeats 1000000 in
theorem dice_elements (b : Nat) (s : Value) (l : List Int) (p : Int) (n : Nat) (w : World) (hd : DiceAt w b s l) (hp : 1 ≤ p) (hp2 : p ≤ 1073741824) (hn : n ≤ 1000000) :
    Calls Tryz.prog 25 #[.pointer (some ⟨b, 0, none⟩), .int .i64 p, .int .i64 n] w fun e w' =>
      ∃ v zs, e = .returned v ∧ zs.length = n ∧ (∀ z ∈ zs, Num.El p z) ∧ Gath w' w.heap.size v zs ∧ DiceAt w' b s l ∧ But b w w' := by
  have hsz := hd.size
  go_enter Tryz.func25, Tryz.ntmps25
  go_wp2
  go_loopw [7, 8, 9, 11] (fun v _ _ i wr => ∃ zs : List Int, zs.length ≤ n ∧ i = .int .i64 zs.length ∧ Hid (∀ z ∈ zs, Num.El p z) ∧ Gath wr w.heap.size v zs ∧ DiceAt wr b s l ∧ But b w wr) (fun _ _ _ i _ => n - (intOf i).toNat)
  case atStart => exact ⟨[], Nat.zero_le _, rfl, fun z hz => (by cases hz), gath_nil _ _, hd, But.refl _ _⟩
  case round =>
    obtain ⟨zs, hk, rfl, hel, hown, hdr, hbut⟩ := hrel
    by_cases hlt : zs.length < n
    · go_wp2_with fail
      refine (next_any b s l 1099511627776 _ hdr (by omega) (by omega)).mono ?_
      rintro e w1 ⟨x, x0, x1, rfl, hd1, hb1⟩
      have hown1 := hown.but hb1 hsz
      have hbut1 := hbut.trans hb1
      clear hown hbut hb1 hdr
      by_cases h0 : 0 < zs.length
      · by_cases hx : x = 0
        · subst hx
          obtain ⟨a, c, rfl, _, hcells⟩ := hown1.reads (by omega)
          obtain ⟨g, off, rfl, hc⟩ := hcells (fun e => by subst e; simp at h0)
          have hc' := hc (zs.length - 1) (by omega)
          have hel' := hel.out (zs.getD (zs.length - 1) 0) (by rw [getD_at (show zs.length - 1 < zs.length by omega)]; exact List.getElem_mem _)
          obtain ⟨y0, y1⟩ := hel'
          clear hc hcells
          generalize zs.getD (zs.length - 1) 0 = y at *
          go_wp2_with fail
          refine (mod_el _ hp hp2).mono ?_; rintro e w' ⟨z, hz, rfl, rfl⟩
          clear hc' y0 y1
          go_wp2_with (at_builtin; refine append_one _ rfl _ _ rfl w.heap.size _ zs z rfl (hown1.alloc _) ⟨w1.heap.size, 0, none⟩ rfl ?c1 ?c2 ?c3 ?_)
          case c1 => rw [cell_new]; rfl
          case c2 => omega
          case c3 => have := hbut1.size; simp; omega
          intro v' w2 hown2 hgr
          have R := gather_step (n := n) hel.out hz hlt hd1 hown1 hbut1 hsz hown2 hgr
          clear hown2 hgr hown1 hbut1 hd1
          go_wp2
          go_roundw
          case rel => exact ⟨zs ++ [z], R.1, by simp, R.2.1, R.2.2.1, R.2.2.2.1, R.2.2.2.2⟩
          case measure => simp [intOf]; omega
        · have hx' : (x == 0) = false := by simp [hx]
          go_wp2_with fail
          refine (mod_el _ hp hp2).mono ?_; rintro e w' ⟨z, hz, rfl, rfl⟩
          clear hx
          go_wp2_with (at_builtin; refine append_one _ rfl _ _ rfl w.heap.size _ zs z rfl (hown1.alloc _) ⟨w1.heap.size, 0, none⟩ rfl ?c1 ?c2 ?c3 ?_)
          case c1 => rw [cell_new]; rfl
          case c2 => omega
          case c3 => have := hbut1.size; simp; omega
          intro v' w2 hown2 hgr
          have R := gather_step (n := n) hel.out hz hlt hd1 hown1 hbut1 hsz hown2 hgr
          clear hown2 hgr hown1 hbut1 hd1
          go_wp2
          go_roundw
          case rel => exact ⟨zs ++ [z], R.1, by simp, R.2.1, R.2.2.1, R.2.2.2.1, R.2.2.2.2⟩
          case measure => simp [intOf]; omega
      · have h0' : zs.length = 0 := by omega
        obtain rfl : zs = [] := List.length_eq_zero_iff.1 h0'
        clear h0 h0'
        go_wp2_with fail
        refine (mod_el _ hp hp2).mono ?_; rintro e w' ⟨z, hz, rfl, rfl⟩
        go_wp2_with (at_builtin; refine append_one _ rfl _ _ rfl w.heap.size _ [] z rfl (hown1.alloc _) ⟨w1.heap.size, 0, none⟩ rfl ?c1 ?c2 ?c3 ?_)
        case c1 => rw [cell_new]; rfl
        case c2 => simp
        case c3 => have := hbut1.size; simp; omega
        intro v' w2 hown2 hgr
        have R := gather_step (n := n) hel.out hz hlt hd1 hown1 hbut1 hsz hown2 hgr
        clear hown2 hgr hown1 hbut1 hd1
        go_wp2
        go_roundw
        case rel => exact ⟨[] ++ [z], R.1, by simp, R.2.1, R.2.2.1, R.2.2.2.1, R.2.2.2.2⟩
        case measure => simp [intOf]; omega
    · obtain rfl : zs.length = n := by omega
      go_wp2
      go_ret
      exact ⟨_, zs, rfl, rfl, hel, hown, hdr, hbut⟩
end Go.Proofs.YtpgbjnenllfmlaaGreatDoor
/-! Contracts of Linear: the program's and the document's answer. -/
namespace Go.Proofs.YtpgbjnenllfmlaaGreatDoor
open Go.RowKit
open Num
set_option linter.unusedVariables false

/-- The list a plus c times b, place by place. -/
def linAt (p : Int) (a b : List Int) (c : Int) (i : Nat) : Int := addF p (a.getD i 0) (mulF p c (b.getD i 0))
def linF (p : Int) (a b : List Int) (c : Int) : List Int := (List.range (max a.length b.length)).map (linAt p a b c)
theorem els_at {p : Int} (hp : 1 ≤ p) {l : List Int} (h : Els p l) (i : Nat) : El p (l.getD i 0) := by
  by_cases hi : i < l.length
  · rw [getD_at hi]; exact h _ (List.getElem_mem hi)
  · simp [List.getD, show l.length ≤ i by omega]; exact el_zero hp

theorem ints_at {w : World} {a : Option Addr} {n c : Nat} {l : List Int} (h : Ints w (.slice a n c) l) (hn : n = l.length) {k : Nat} (hk : k < n) :
    ∃ b off, a = some ⟨b, off, none⟩ ∧ w.cell? ⟨b, off + k, none⟩ = some (.int .i64 (l.getD k 0)) := by
  obtain ⟨a', c', hv, _, hc⟩ := h
  simp only [Value.slice.injEq] at hv
  obtain ⟨rfl, _⟩ := hv
  obtain ⟨b, off, ha, hx⟩ := hc (fun e => by subst e; simp at hn; omega)
  exact ⟨b, off, ha, hx k (by omega)⟩

/-- What has been stored behind k rounds. -/
def linRow (p : Int) (a b : List Int) (c : Int) (k j : Nat) : Value := .int .i64 (if j < k then linAt p a b c j else 0)

theorem lin_step {p c v : Int} {a b : List Int} {k : Nat} (h : linAt p a b c k = v) (j : Nat) : (if j = k then Value.int .i64 v else linRow p a b c k j) = linRow p a b c (k + 1) j := by
  subst h
  unfold linRow
  by_cases e : j = k
  · subst e; simp
  · rw [if_neg e]
    by_cases h1 : j < k
    · rw [if_pos h1, if_pos (by omega)]
    · rw [if_neg h1, if_neg (by omega)]

set_option maxHeartbeats 1000000 in
theorem linear_core (p c : Int) (aa ab : Option Addr) (la lb ca cb n : Nat) (a b : List Int) (w : World) (hp : 1 ≤ p) (hp2 : p ≤ 1073741824) (hc : El p c) (ha : Els p a) (hb : Els p b)
    (hsa : Ints w (.slice aa la ca) a) (hsb : Ints w (.slice ab lb cb) b) (hn : (la < lb ∧ n = lb) ∨ (lb ≤ la ∧ n = la)) (hn2 : n ≤ 1000000000) :
    Calls Tryz.prog 82 #[.int .i64 p, .slice aa la ca, .slice ab lb cb, .int .i64 c] w fun e w' =>
      e = .returned (.slice (some ⟨w.heap.size, 0, none⟩) n n) ∧ w'.rowIs w.heap.size 3 n (linRow p a b c n) ∧ Below w.heap.size w w' := by
  have hmk := run_make_row' (P := Tryz.prog) 22 3 (.int .i64 0) 8 Tryz.underlying22 infoInt rfl .i64 .i64 n (by omega) (by omega)
  rcases hn with ⟨hn, rfl⟩ | ⟨hn, rfl⟩
  all_goals
    go_enter Tryz.func82, Tryz.ntmps82
    go_wp2_with fail
    go_loopw [10, 19] (fun _ i wr => ∃ k : Nat, k ≤ n ∧ i = .int .i64 k ∧ wr.rowIs w.heap.size 3 n (linRow p a b c k) ∧ Below w.heap.size w wr) (fun _ i _ => n - (intOf i).toNat)
    case atStart => exact ⟨0, Nat.zero_le _, rfl, (World.rowIs_made w (.int .i64 0) n 3).congr (fun j _ => by simp [linRow]), (Below.refl _ _).alloc (Nat.le_refl _) _⟩
    case round =>
      obtain ⟨k, hk, rfl, hrow, hbel⟩ := hrel
      have HR := Lib.hid hrow
      have HB := Lib.hid hbel
      by_cases hlt : k < n
      · have hx := els_at hp ha k
        have hy := els_at hp hb k
        have c1 := Lib.hid (at_any _ a k wr (hsa.below (Nat.le_refl _) hbel) (by omega))
        have c2 := Lib.hid (at_any _ b k wr (hsb.below (Nat.le_refl _) hbel) (by omega))
        have hcl := hrow.cell hlt
        have hfr := hrow.frozen k
        have HV : Hid (linAt p a b c k = addF p (a.getD k 0) (mulF p c (b.getD k 0))) := rfl
        clear hrow hbel
        generalize a.getD k 0 = x at *
        generalize b.getD k 0 = y at *
        go_wp2_with fail
        refine c1.out.mono ?_; rintro e w' ⟨rfl, rfl⟩
        go_wp2_with fail
        refine c2.out.mono ?_; rintro e w' ⟨rfl, rfl⟩
        go_wp2_with (first
          | (go_at_call 60; refine (mul_el _ hp hp2 hc hy).mono ?_; rintro e w' ⟨rfl, rfl⟩)
          | (go_at_call 59; refine (add_el _ hp hp2 hx (el_mul hp _ _)).mono ?_; rintro e w' ⟨rfl, rfl⟩))
        have HR' : Hid ((wr.setCell ⟨w.heap.size, k, none⟩ (.int .i64 (addF p x (mulF p c y)))).rowIs w.heap.size 3 n (linRow p a b c (k + 1))) :=
          (HR.out.set k _).congr fun j hj => lin_step HV.out j
        go_roundw
        case rel => exact ⟨k + 1, by omega, by go_num, HR'.out, HB.out.setCell (Nat.le_refl _) _⟩
        case measure => simp [intOf]; omega
      · obtain rfl : k = n := by omega
        go_wp2
        go_ret
        exact ⟨rfl, HR.out, HB.out⟩

theorem row_gath {w : World} {g n base : Nat} {f : Nat → Int} (h : w.rowIs g 3 n (fun j => .int .i64 (f j))) (hg : base ≤ g) (hn : n ≤ maxLen) :
    Gath w base (.slice (some ⟨g, 0, none⟩) n n) ((List.range n).map f) := by
  obtain ⟨c, hb, hs, hc⟩ := h
  refine ⟨by simp, .inr ⟨g, n, c, by simp, hg, hb, by simp, hn, by simp [hs], ?_⟩⟩
  apply List.ext_getElem?
  intro i
  by_cases hi : i < n
  · rw [List.getElem?_take_of_lt (by simpa using hi)]
    have := hc i hi
    rw [Array.getElem?_toList, this]
    simp [hi]
  · rw [List.getElem?_eq_none (by simp [hs]; omega), List.getElem?_eq_none (by simp; omega)]

theorem linear_any (p c : Int) (sa sb : Value) (a b : List Int) (w : World) (hp : 1 ≤ p) (hp2 : p ≤ 1073741824) (hc : El p c) (ha : Els p a) (hb : Els p b) (hsa : Ints w sa a) (hsb : Ints w sb b)
    (hla : a.length ≤ 1000000000) (hlb : b.length ≤ 1000000000) :
    Calls Tryz.prog 82 #[.int .i64 p, sa, sb, .int .i64 c] w fun e w' =>
      ∃ v, e = .returned v ∧ Gath w' w.heap.size v (linF p a b c) ∧ Below w.heap.size w w' := by
  obtain ⟨aa, ca, rfl, _, _⟩ := id hsa
  obtain ⟨ab, cb, rfl, _, _⟩ := id hsb
  refine (linear_core p c aa ab a.length b.length ca cb (max a.length b.length) a b w hp hp2 hc ha hb hsa hsb (by omega) (by omega)).mono fun e w' ⟨he, hr, hbel⟩ => ⟨_, he, ?_, hbel⟩
  refine row_gath (f := linAt p a b c) (hr.congr fun j hj => ?_) (Nat.le_refl _) (by unfold maxLen; omega)
  simp [linRow, hj]
end Go.Proofs.YtpgbjnenllfmlaaGreatDoor
/-! Contract of the document's answer for Linear. -/
namespace Go.Proofs.YtpgbjnenllfmlaaGreatDoor
open Go.RowKit
open Num
set_option linter.unusedVariables false

def pre (p : Int) (a b : List Int) (c : Int) (k : Nat) : List Int := (List.range k).map (linAt p a b c)
theorem pre_length (p : Int) (a b : List Int) (c : Int) (k : Nat) : (pre p a b c k).length = k := by simp [pre]
theorem pre_succ {p c z : Int} {a b : List Int} {k : Nat} (h : z = linAt p a b c k) : pre p a b c k ++ [z] = pre p a b c (k + 1) := by
  subst h; simp [pre, List.range_succ]
theorem lin_both {p c x y : Int} {a b : List Int} {k : Nat} (hx : a.getD k 0 = x) (hy : b.getD k 0 = y) : (x + c * y) % p = linAt p a b c k := by
  subst hx hy; unfold linAt addF mulF; rw [Int.add_emod_emod]
theorem lin_left {p c x : Int} {a b : List Int} {k : Nat} (hx : a.getD k 0 = x) (hk : b.length ≤ k) (he : El p x) : x = linAt p a b c k := by
  subst hx; unfold linAt addF mulF
  rw [show b.getD k 0 = 0 by simp [List.getD, hk]]
  simp; exact (el_fix he).symm
theorem lin_right {p c y : Int} {a b : List Int} {k : Nat} (hk : a.length ≤ k) (hy : b.getD k 0 = y) : c * y % p = linAt p a b c k := by
  subst hy; unfold linAt addF mulF
  rw [show a.getD k 0 = 0 by simp [List.getD, hk]]
  simp

theorem ref_step {p c z : Int} {a b : List Int} {k B : Nat} {w wr w2 : World} {v v' : Value} {o : Obj} (hz : z = linAt p a b c k) (hB : B = w.heap.size) (hown : Gath wr B v (pre p a b c k)) (hbel : Below B w wr)
    (hown2 : Gath w2 B v' (pre p a b c k ++ [z])) (hgr : (wr.alloc o).grownBy w2 v.ownBlock) : Gath w2 B v' (pre p a b c (k + 1)) ∧ Below B w w2 := by
  rw [pre_succ hz] at hown2
  refine ⟨hown2, ((hbel.alloc (by subst hB; exact hbel.size) o).grown hgr (by subst hB; have := hbel.size; simp; omega) fun g hg => hown.block g hg)⟩

end Go.Proofs.YtpgbjnenllfmlaaGreatDoor
