
/- The program's package refresh: rows of shares in the making; copies. -/
import Derived.Test.YtgdclefnfjbbdaaDoorJPr1
import Derived.Deep.RegionHeld3
namespace Go.Proofs.YtgdclefnfjbbdaaDoor
open Go.RowKit Go.Sort
open Num
set_option linter.unusedVariables false

/-- A row of n shares in block q that is being written: what place i reads as. -/
structure PutS (W : World) (g q n : Nat) (Z : Nat → Int × Value) (f : Nat → Shr) : Prop where
  row : RowS W q n Z
  val : ∀ i, i < n → (Z i).1 = (f i).1 ∧ Ints W (Z i).2 (f i).2 ∧ ∀ b, (Z i).2.ownBlock = some b → g ≤ b ∧ b ≠ q
  lo : g ≤ q
  lt : q < W.heap.size
theorem PutS.below {W W' : World} {g q n : Nat} {Z : Nat → Int × Value} {f : Nat → Shr} (h : PutS W g q n Z f) (b : Below W.heap.size W W') : PutS W' g q n Z f :=
  ⟨h.row.of_block (b.block q h.lt), fun i hi => ⟨(h.val i hi).1, (h.val i hi).2.1.below (Nat.le_refl _) b, (h.val i hi).2.2⟩, h.lo, Nat.lt_of_lt_of_le h.lt b.size⟩
theorem PutS.congr {W : World} {g q n : Nat} {Z : Nat → Int × Value} {f f' : Nat → Shr} (h : PutS W g q n Z f) (e : ∀ i, i < n → f i = f' i) : PutS W g q n Z f' :=
  ⟨h.row, fun i hi => by rw [← e i hi]; exact h.val i hi, h.lo, h.lt⟩
theorem putS_start (w : World) (g N : Nat) (t : TypeId) (hg : g ≤ w.heap.size) : PutS (w.alloc (.cells (madeCells #[.int .i64 0, .slice none 0 0] (N * 2)) t)) g w.heap.size N (fun _ => (0, .slice none 0 0)) (fun _ => (0, [])) := by
  have h := (made_start w g N 0 (fun _ => 0) (fun _ _ => 0) t hg).row
  simp only [Nat.not_lt_zero, if_false] at h
  exact ⟨h, fun i hi => ⟨rfl, ints_zero _ _ _, fun b hb => by simp [Value.ownBlock] at hb⟩, hg, by simp⟩
theorem PutS.put {W : World} {g q n : Nat} {Z : Nat → Int × Value} {f : Nat → Shr} (h : PutS W g q n Z f) {i : Nat} (hi : i < n) (x : Int) {v : Value} {l : List Int} (hv : Ints W v l) (hb : ∀ b, v.ownBlock = some b → g ≤ b ∧ b ≠ q) :
    PutS ((W.setCell ⟨q, i * 2, none⟩ (.int .i64 x)).setCell ⟨q, i * 2 + 1, none⟩ v) g q n (fun j => if j = i then (x, v) else Z j) (fun j => if j = i then (x, l) else f j) := by
  have hbut : But q W ((W.setCell ⟨q, i * 2, none⟩ (.int .i64 x)).setCell ⟨q, i * 2 + 1, none⟩ v) := (But.set W ⟨q, i * 2, none⟩ _).trans (But.set _ ⟨q, i * 2 + 1, none⟩ _)
  have hr := h.row.store hi (x, v)
  refine ⟨hr, fun j hj => ?_, h.lo, Nat.lt_of_lt_of_le h.lt hbut.size⟩
  by_cases e : j = i
  · simp only [if_pos e]
    exact ⟨trivial, hv.but hbut (fun b h2 => (hb b h2).2), hb⟩
  · simp only [if_neg e]
    have hh := h.val j hj
    exact ⟨hh.1, hh.2.1.but hbut (fun b h2 => (hh.2.2 b h2).2), hh.2.2⟩
theorem PutS.shares {W : World} {g q n : Nat} {Z : Nat → Int × Value} {f : Nat → Shr} {L : List Shr} (h : PutS W g q n Z f) (hl : L.length = n) (hn : n ≤ 1000) (e : ∀ i, i < n → L.getD i (0, []) = f i) : SharesN W g (.slice (some ⟨q, 0, none⟩) n n) L := by
  subst hl
  refine ⟨_, _, rfl, hn, Nat.le_refl _, by omega, fun _ => ⟨q, 0, rfl, h.lo, fun i hi => ?_⟩⟩
  obtain ⟨k0, k1, _, _⟩ := h.row i hi
  obtain ⟨e1, e2, e3⟩ := h.val i hi
  rw [Nat.zero_add, e i hi]
  exact ⟨_, by rw [← e1]; exact k0, k1, e2, fun b hb => (e3 b hb).1⟩
/-- The first j shares of a list, and then none. -/
def toL (L : List Shr) (j i : Nat) : Shr := if i < j then L.getD i (0, []) else (0, [])
theorem toL_zero (L : List Shr) (i : Nat) : ((0, []) : Shr) = toL L 0 i := by unfold toL; rw [if_neg (by omega)]
theorem toL_step {L : List Shr} {j : Nat} {s : Shr} (h : L.getD j (0, []) = s) (i : Nat) : (if i = j then s else toL L j i) = toL L (j + 1) i := by
  unfold toL
  by_cases e : i = j
  · subst e; rw [if_pos rfl, if_pos (by omega), h]
  · rw [if_neg e]
    by_cases e2 : i < j
    · rw [if_pos e2, if_pos (by omega)]
    · rw [if_neg e2, if_neg (by omega)]
theorem toL_all {L : List Shr} {n i : Nat} (hi : i < n) : L.getD i (0, []) = toL L n i := by unfold toL; rw [if_pos hi]
set_option maxRecDepth 100000 in
set_option maxHeartbeats 8000000 in
theorem refresh_copies (v : Value) (L : List Shr) (w : World) (hs : Shares w v L) (hb : ∀ x ∈ L, x.2.length ≤ 100000) :
    Calls Tryd.prog 47 #[v] w fun e w' => ∃ v', e = .returned v' ∧ SharesN w' w.heap.size v' L ∧ Below w.heap.size w w' := by
  obtain ⟨a, c, rfl, hl, _⟩ := id hs
  obtain ⟨N, hN⟩ : ∃ N, L.length = N := ⟨_, rfl⟩
  rw [hN] at hs hl ⊢
  obtain ⟨g, hg⟩ : ∃ g, w.heap.size = g := ⟨_, rfl⟩
  have hmkS := run_make_share N hl w
  have HN := Lib.hid hN
  have HS := Lib.hid hs
  have HLB := Lib.hid (fun k (hk : k < N) => hb (L.getD k (0, [])) (by rw [getS_at (by omega)]; exact List.getElem_mem _))
  have HB1 : Hid (Below g w (w.alloc (.cells (madeCells #[.int .i64 0, .slice none 0 0] (N * 2)) 36))) := by rw [← hg]; exact (Below.refl _ _).alloc (Nat.le_refl _) _
  have HP1 : Hid (∃ Z, PutS (w.alloc (.cells (madeCells #[.int .i64 0, .slice none 0 0] (N * 2)) 36)) g g N Z (toL L 0)) := by
    have h := putS_start w g N 36 (Nat.le_of_eq hg.symm)
    rw [hg] at h
    exact ⟨_, h.congr fun i _ => toL_zero L i⟩
  rw [hg] at hmkS ⊢
  have HGG := Lib.hid hg
  clear hs hN hb hg
  go_enter Tryd.func47, Tryd.ntmps47
  go_wp2_with fail
  clear hmkS
  generalize w.alloc (.cells (madeCells #[.int .i64 0, .slice none 0 0] (N * 2)) 36) = w1 at *
  go_loopw [4, 5, 11] (fun _ _ i wr => ∃ k : Nat, k ≤ N ∧ i = .int .i64 k ∧ Hid (∃ Z, PutS wr g g N Z (toL L k)) ∧ Hid (Below g w wr)) (fun _ _ i _ => N - (intOf i).toNat)
  case atStart => exact ⟨0, Nat.zero_le _, rfl, HP1, HB1⟩
  case round =>
    obtain ⟨k, hk, rfl, HP, HW⟩ := hrel
    by_cases hlt : k < N
    · obtain ⟨b1, o1, v1, rfl, c0, c1, hi1⟩ := (HS.out.below (Nat.le_of_eq HGG.out) HW.out).at hlt
      have hll := HLB.out k hlt
      have HST := Lib.hid (toL_step (L := L) (j := k) rfl)
      obtain ⟨⟨h, l⟩, hsh⟩ : ∃ z, L.getD k (0, []) = z := ⟨_, rfl⟩
      rw [hsh] at c0 hi1 hll HST
      simp only at c0 hi1 hll
      obtain ⟨a1, d1, rfl⟩ := hi1.shape
      obtain ⟨Z, hZ⟩ := HP.out
      obtain ⟨gs, hgs⟩ : ∃ gs, wr.heap.size = gs := ⟨_, rfl⟩
      obtain ⟨nl, hnl⟩ : ∃ nl, l.length = nl := ⟨_, rfl⟩
      rw [hnl] at c1 hi1 hll
      have hal : Below wr.heap.size wr (wr.alloc (.cells #[.int .i64 h, .slice a1 nl d1] 36)) := (Below.refl _ _).alloc (Nat.le_refl _) _
      have hsa := shAt_new wr h (.slice a1 nl d1) 36
      rw [hgs] at hsa
      have HSA := Lib.hid hsa
      have HZA := Lib.hid (hZ.below hal)
      have hgl : g < wr.heap.size := hZ.lt
      have HBA : Hid (Below g w (wr.alloc (.cells #[.int .i64 h, .slice a1 nl d1] 36))) := HW.out.trans (hal.mono (Nat.le_of_lt hgl))
      have HIA := Lib.hid (hi1.below (Nat.le_refl _) hal)
      have HGS := Lib.hid hgs
      have HGL := Lib.hid (show g < gs by omega)
      have HNL := Lib.hid hnl
      clear hal hsa hi1 hsh HP hZ hgl hnl
      go_wp2_with fail
      clear hgs c0 c1
      generalize wr.alloc (.cells #[.int .i64 h, .slice a1 nl d1] 36) = w6 at *
      have s0 := HSA.out.c0
      have s1 := HSA.out.c1
      have HCL := Lib.hid (clone_any (.slice a1 nl d1) l w6.drew HIA.out (by rw [HNL.out]; omega))
      have HSZ : Hid (gs < w6.heap.size) := HSA.out.lt
      have HKD : Hid (∀ W, Below w6.drew.heap.size w6.drew W → ShAt W gs h (.slice a1 nl d1)) := fun W hb => HSA.out.below (((Below.refl _ _).drew).trans hb) HSA.out.lt
      have HZW : Hid (∀ W, Below w6.drew.heap.size w6.drew W → PutS W g g N Z (toL L k)) := fun W hb => HZA.out.below (((Below.refl _ _).drew).trans hb)
      have HBW : Hid (∀ W, Below w6.drew.heap.size w6.drew W → Below g w W) := fun W hb => HBA.out.trans ((((Below.refl _ _).drew).trans hb).mono (show g ≤ w6.heap.size by have := HGL.out; have := HSZ.out; omega))
      have HKE : Hid (∀ W x y, Below w6.drew.heap.size w6.drew W → ShAt ((W.setCell ⟨g, k * 2, none⟩ x).setCell ⟨g, k * 2 + 1, none⟩ y) gs h (.slice a1 nl d1)) := fun W x y hb => by
        obtain ⟨t, ht⟩ := HKD.out W hb
        exact ⟨t, by rw [blk_other _ _ _ _ (by have := HGL.out; omega), blk_other _ _ _ _ (by have := HGL.out; omega)]; exact ht⟩
      go_region_held3 (fun W' => W'.cell? ⟨gs, 0, none⟩ = some (.int .i64 h) ∧ W'.cell? ⟨gs, 1, none⟩ = some (.slice a1 nl d1)) (first | go_keep | exact HSK | exact HSK2)
        (first | (go_at_call 65; refine HCL.out.mono ?_; rintro e W7 ⟨v7, rfl, hg7, hb⟩; obtain ⟨av, cv, rfl⟩ := hg7.shape; have h7 := HKD.out W7 hb; have HSK := And.intro h7.c0 h7.c1; have h8 := HKE.out W7 (.int .i64 h) (.slice av l.length cv) hb; have HSK2 := And.intro h8.c0 h8.c1; have hZ7 := HZW.out W7 hb; obtain ⟨x0, x1, f0, f1⟩ := hZ7.row k hlt; have x2 : (W7.setCell ⟨g, k * 2, none⟩ (.int .i64 h)).cell? ⟨g, k * 2 + 1, none⟩ = some (Z k).2 := (by rw [World.cell?_setCell_other _ _ _ _ (by simp)]; exact x1); have HZ7 := Lib.hid hZ7; have HB7 := Lib.hid (HBW.out W7 hb); have HG7 := Lib.hid hg7; clear hb hZ7 hg7 h7 h8))
      all_goals
        have HZ8 : Hid (∃ Z, PutS ((W7.setCell ⟨g, k * 2, none⟩ (.int .i64 h)).setCell ⟨g, k * 2 + 1, none⟩ (.slice av l.length cv)) g g N Z (toL L (k + 1))) :=
          ⟨_, (HZ7.out.put hlt h (HG7.out.reads (by rw [HNL.out]; omega)) (fun b hb => by have h1 : w6.heap.size ≤ b := (World.ownsRow.lt HG7.out b hb).1; have h2 := HSZ.out; have h3 := HGL.out; omega)).congr fun i _ => HST.out i⟩
        have HB8 : Hid (Below g w ((W7.setCell ⟨g, k * 2, none⟩ (.int .i64 h)).setCell ⟨g, k * 2 + 1, none⟩ (.slice av l.length cv))) := HB7.out.trans ((set1_below _ _ _ (Nat.le_refl _)).trans (set1_below _ _ _ (Nat.le_refl _)))
        go_wp2_with fail
        go_roundw
        case rel => exact ⟨k + 1, by omega, by go_num, HZ8, HB8⟩
        case measure => simp [intOf]; omega
    · obtain rfl : k = N := by omega
      have HF : Hid (SharesN wr g (.slice (some ⟨g, 0, none⟩) k k) L) := by
        obtain ⟨Z, hZ⟩ := HP.out
        exact hZ.shares HN.out hl fun i hi => toL_all hi
      go_wp2
      go_ret
      exact ⟨_, rfl, HF.out, HW.out⟩
end Go.Proofs.YtgdclefnfjbbdaaDoor
