
/- Lists of shares compared: the document's Same, where both read alike. -/
import Derived.Test.YtpgbjnenllfmlaaGreatDoorHDea
import Derived.BigQuiet
import Derived.Deep.MidRow
/-! Lists of shares compared: the document's Same, where both read alike. -/
namespace Go.Proofs.YtpgbjnenllfmlaaGreatDoor
open Go.RowKit
open Num
set_option linter.unusedVariables false

set_option maxRecDepth 100000 in
set_option maxHeartbeats 4000000 in
theorem sameS_yes (s t : Value) (L : List Shr) (w : World) (hs : Shares w s L) (ht : Shares w t L) :
    Calls Tryz.prog 20 #[s, t] w fun e w' => e = .returned (.bool true) ∧ Below w.heap.size w w' := by
  obtain ⟨a1, d1, rfl, hl, hld1, hd1, _⟩ := id hs
  obtain ⟨a2, d2, rfl, _, hld2, hd2, _⟩ := id ht
  obtain ⟨N, hN⟩ : ∃ N, L.length = N := ⟨_, rfl⟩
  rw [hN] at hs ht hl hld1 hld2 ⊢
  obtain ⟨g, hg⟩ : ∃ g, w.heap.size = g := ⟨_, rfl⟩
  have HGG := Lib.hid hg
  have HS := Lib.hid hs
  have HT := Lib.hid ht
  have HW0 : Hid (Below g w w) := Below.refl _ _
  have n1 : ((N : Int) == (N : Int)) = true := by simp
  rw [hg]
  clear hs ht hg hN
  go_enter Tryz.func20, Tryz.ntmps20
  go_wp2_with fail
  go_loopw [5, 6, 14] (fun _ _ i wr => ∃ k : Nat, k ≤ N ∧ i = .int .i64 k ∧ Hid (Below g w wr)) (fun _ _ i _ => N - (intOf i).toNat)
  case atStart => exact ⟨0, Nat.zero_le _, rfl, HW0⟩
  case round =>
    obtain ⟨k, hk, rfl, HW⟩ := hrel
    by_cases hlt : k < N
    · have hsz : g ≤ wr.heap.size := by have := HW.out.size; have := HGG.out; omega
      obtain ⟨b1, o1, v1, rfl, c0, c1, hi1⟩ := (HS.out.below (Nat.le_of_eq HGG.out) HW.out).at hlt
      obtain ⟨b2, o2, v2, rfl, e0, e1, hi2⟩ := (HT.out.below (Nat.le_of_eq HGG.out) HW.out).at hlt
      obtain ⟨⟨h, l⟩, hsh⟩ : ∃ z, L.getD k (0, []) = z := ⟨_, rfl⟩
      rw [hsh] at c0 hi1 e0 hi2
      simp only at c0 hi1 e0 hi2
      obtain ⟨va1, vc1, rfl⟩ := hi1.shape
      obtain ⟨va2, vc2, rfl⟩ := hi2.shape
      obtain ⟨ll, hll⟩ : ∃ ll, l.length = ll := ⟨_, rfl⟩
      rw [hll] at c1 e1 hi1 hi2
      have hba : Below wr.heap.size wr (wr.alloc (.cells #[.int .i64 h, .slice va1 ll vc1] 42)) := (Below.refl _ _).alloc (Nat.le_refl _) _
      have HI1 := Lib.hid (hi1.below (Nat.le_refl _) hba)
      have HI2 := Lib.hid (hi2.below (Nat.le_refl _) hba)
      have HBA : Hid (Below g w (wr.alloc (.cells #[.int .i64 h, .slice va1 ll vc1] 42))) := HW.out.alloc hsz _
      have hlt1 := cell_lt c0
      have hlt2 := cell_lt e0
      have e0' : (wr.alloc (.cells #[.int .i64 h, .slice va1 ll vc1] 42)).cell? ⟨b2, o2 + k * 2, none⟩ = some (.int .i64 h) := by rw [hba.cell (p := ⟨b2, o2 + k * 2, none⟩) hlt2]; exact e0
      have e1' : (wr.alloc (.cells #[.int .i64 h, .slice va1 ll vc1] 42)).cell? ⟨b2, o2 + k * 2 + 1, none⟩ = some (.slice va2 ll vc2) := by rw [hba.cell (p := ⟨b2, o2 + k * 2 + 1, none⟩) hlt2]; exact e1
      have hsa := shAt_new wr h (.slice va1 ll vc1) 42
      have s0 := hsa.c0
      have s1 := hsa.c1
      have hne : (h == h) = true := by simp
      clear hi1 hi2 hba hsh hsa HW
      go_wp2_with fail
      go_quiet ((go_at_call 18; exact quiet_left (same_yes _ _ l _ HI1.out HI2.out)))
      have HBQ : Hid (Below g w ((wr.alloc (.cells #[.int .i64 h, .slice va1 ll vc1] 42)).drewN nq)) := ⟨HBA.out.os, HBA.out.tape, HBA.out.output, HBA.out.size, HBA.out.block⟩
      clear HBA c0 c1 e0 e1 e0' e1' s0 s1 HI1 HI2
      generalize (wr.alloc (.cells #[.int .i64 h, .slice va1 ll vc1] 42)).drewN nq = w9 at *
      go_wp2
      go_roundw
      case rel => exact ⟨k + 1, by omega, by go_num, HBQ⟩
      case measure => simp [intOf]; omega
    · obtain rfl : k = N := by omega
      go_wp2
      go_ret
      exact ⟨rfl, HW.out⟩
end Go.Proofs.YtpgbjnenllfmlaaGreatDoor
/-! Lists of shares copied: the document's Copy. -/
namespace Go.Proofs.YtpgbjnenllfmlaaGreatDoor
open Go.RowKit
open Num
set_option linter.unusedVariables false

theorem take_snocS {L : List Shr} {k : Nat} (hk : k < L.length) : L.take k ++ [L.getD k (0, [])] = L.take (k + 1) := by
  rw [List.take_add_one, List.getElem?_eq_getElem hk]
  simp [List.getD, hk]
/-- A region whose orders all end alike, but for two values and a place. -/
theorem region_oneV3 {P : Program} {id : Nat} {ops : Array Oper} {d : Bool} {Q : Exit → Act → World → Prop} {a : Act} {w : World} (R : Value → World → Prop) (A : Value → Value → Nat → Act) (hr : (Code.region id ops d).wp P (fun e a' W => e = .normal ∧ ∃ v x n, a' = A v x n ∧ R v W) a w)
    (h : ∀ v x n W, R v W → Q .normal (A v x n) W) : (Code.region id ops d).wp P Q a w :=
  Code.wp_mono (fun _ _ _ ⟨h1, v, x, n, h2, h3⟩ => by subst h1; subst h2; exact h v x n _ h3) hr
/-- Behind the copy of the values of one share. -/
def CopR1 (w5 : World) (gs : Nat) (h : Int) (l : List Int) (va : Option Addr) (n c : Nat) (v' : Value) (W' : World) : Prop := Gath W' (gs + 1) v' l ∧ Below (gs + 1) w5 W' ∧ ShAt W' gs h (.slice va n c)
set_option maxRecDepth 100000 in
set_option maxHeartbeats 4000000 in
theorem copyS_any (s : Value) (L : List Shr) (w : World) (hs : Shares w s L) (hb : ∀ x ∈ L, x.2.length ≤ 100000) (hL : L.length < 1000) :
    Calls Tryz.prog 27 #[s] w fun e w' => ∃ v, e = .returned v ∧ GathS w' w.heap.size v L ∧ Below w.heap.size w w' := by
  obtain ⟨a1, d1, rfl, _, hld1, hd1, _⟩ := id hs
  obtain ⟨N, hN⟩ : ∃ N, L.length = N := ⟨_, rfl⟩
  rw [hN] at hs hld1 hL ⊢
  obtain ⟨g, hg⟩ : ∃ g, w.heap.size = g := ⟨_, rfl⟩
  have HGG := Lib.hid hg
  have HNN := Lib.hid hN
  have HS := Lib.hid hs
  have HLB := Lib.hid (fun k (hk : k < N) => hb (L.getD k (0, [])) (by rw [List.getD_eq_getElem?_getD, List.getElem?_eq_getElem (by omega)]; exact List.getElem_mem _))
  have HW0 : Hid (Below g w w) := Below.refl _ _
  have HG0 : Hid (GathS w g (.slice none 0 0) (L.take 0)) := by rw [List.take_zero]; exact gathS_nil _ _
  have HZ0 : Hid (g ≤ w.heap.size) := Nat.le_of_eq hg.symm
  rw [hg]
  clear hs hg hN hb
  go_enter Tryz.func27, Tryz.ntmps27
  go_wp2_with fail
  go_loopw [3, 5, 8] (fun v _ i wr => ∃ k : Nat, k ≤ N ∧ i = .int .i64 k ∧ Hid (GathS wr g v (L.take k)) ∧ Hid (Below g w wr) ∧ Hid (g ≤ wr.heap.size)) (fun _ _ i _ => N - (intOf i).toNat)
  case atStart => exact ⟨0, Nat.zero_le _, rfl, HG0, HW0, HZ0⟩
  case round =>
    obtain ⟨k, hk, rfl, HG, HW, HZ⟩ := hrel
    by_cases hlt : k < N
    · obtain ⟨b1, o1, v1, rfl, c0, c1, hi1⟩ := (HS.out.below (Nat.le_of_eq HGG.out) HW.out).at hlt
      have HTK := Lib.hid (take_snocS (L := L) (k := k) (by have := HNN.out; omega))
      have hll6 := HLB.out k hlt
      obtain ⟨⟨h, l⟩, hsh⟩ : ∃ z, L.getD k (0, []) = z := ⟨_, rfl⟩
      rw [hsh] at c0 hi1 HTK hll6
      simp only at c0 hi1 hll6
      obtain ⟨va1, vc1, rfl⟩ := hi1.shape
      obtain ⟨ll, hll⟩ : ∃ ll, l.length = ll := ⟨_, rfl⟩
      have HLL := Lib.hid hll
      rw [hll] at c1 hi1 hll6
      obtain ⟨gs, hgs⟩ : ∃ gs, wr.heap.size = gs := ⟨_, rfl⟩
      have hgg : g ≤ gs := by rw [← hgs]; exact HZ.out
      have hba : Below gs wr (wr.alloc (.cells #[.int .i64 h, .slice va1 ll vc1] 42)) := by rw [← hgs]; exact (Below.refl _ _).alloc (Nat.le_refl _) _
      have HI1 := Lib.hid (hi1.below (Nat.le_of_eq hgs) hba)
      have HBA := Lib.hid (HW.out.trans (hba.mono hgg))
      have hsa := shAt_new wr h (.slice va1 ll vc1) 42
      rw [hgs] at hsa
      have HSA := Lib.hid hsa
      have HGA : Hid (GathS (wr.alloc (.cells #[.int .i64 h, .slice va1 ll vc1] 42)) g u3 (L.take k)) := HG.out.alloc _
      have hub : ∀ q, u3.ownBlock = some q → g ≤ q ∧ q < gs := by rw [← hgs]; exact HG.out.block
      have HUB := Lib.hid hub
      have hza : (wr.alloc (.cells #[.int .i64 h, .slice va1 ll vc1] 42)).heap.size = gs + 1 := by rw [← hgs]; simp
      have HZA := Lib.hid hza
      have HKL : Hid ((L.take k).length = k) := by show _ = _; rw [List.length_take]; have := HNN.out; omega
      have HGS := Lib.hid hgs
      clear hi1 hba hsh hsa HW hll HG hub hza
      go_wp2_with fail
      clear hgs
      generalize wr.alloc (.cells #[.int .i64 h, .slice va1 ll vc1] 42) = w5 at *
      have s0 := HSA.out.c0
      have s1 := HSA.out.c1
      have HAP1 : Hid (∃ v' W', (Builtin.append_ #[22, 22] 22 #[.slice none 0 0, .slice va1 ll vc1]).run Tryz.prog w5.drew = .ok v' W' ∧ CopR1 w5 gs h l va1 ll vc1 v' W') := by
        obtain ⟨v', W', h1, h2, h3⟩ := run_append_ints (W := w5.drew) (B := gs + 1) (gath_nil _ _) (HI1.out.below (Nat.le_refl _) (Below.refl _ _).drew) (by have := HLL.out; simp; omega) (by show gs + 1 ≤ w5.heap.size; have := HZA.out; omega) 22
        rw [List.nil_append] at h2
        have hbw : Below (gs + 1) w5 W' := ((Below.refl _ _).drew).grown h3 (by show gs + 1 ≤ w5.heap.size; have := HZA.out; omega) (fun k hk => by cases hk)
        exact ⟨v', W', h1, h2, hbw, HSA.out.grown (grownBy_of_below hbw (by have := HZA.out; omega)) (fun e => by cases e)⟩
      have HAP2 : Hid (∀ v' W', CopR1 w5 gs h l va1 ll vc1 v' W' → ∃ v'' W'', (Builtin.append_ #[23, 23] 23 #[u3, .slice (some ⟨W'.heap.size, 0, none⟩) 1 1]).run Tryz.prog (W'.alloc (.cells #[.int .i64 h, v'] 42)) = .ok v'' W'' ∧ (Hid (GathS W'' g v'' (L.take (k + 1))) ∧ Hid (Below g w W'') ∧ Hid (g ≤ W''.heap.size))) := by
        intro v' W' ⟨r1, r2, r3⟩
        have hzw : gs + 1 ≤ W'.heap.size := by have := r2.size; have := HZA.out; omega
        have hga : GathS (W'.alloc (.cells #[.int .i64 h, v'] 42)) g u3 (L.take k) := (HGA.out.below r2 (by have := HZA.out; omega)).alloc _
        have hal : World.grownBy W' (W'.alloc (.cells #[.int .i64 h, v'] 42)) none := World.grownBy_alloc _ _ none
        obtain ⟨v'', W'', e1, e2, e3, _⟩ := run_appendS hga W'.heap.size h v' l (shAt_new W' h v' 42).c0 (shAt_new W' h v' 42).c1 ((r1.slc (by have := HLL.out; have := hll6; omega)).grown hal (fun q _ e => by cases e)) (fun q hq => by
          have h1 := World.ownsRow.lt r1 q hq
          refine ⟨by omega, by simp; omega, fun e => ?_⟩
          have h2 := HUB.out q e
          omega) (by rw [HKL.out]; omega) (by simp; omega) 23
        rw [HTK.out] at e2
        refine ⟨v'', W'', e1, e2, ((HBA.out.trans (r2.mono (by omega))).alloc (by omega) _).grown e3 (by simp; omega) (fun q hq => (HUB.out q hq).1), ?_⟩
        have := e3.size; simp at this; show g ≤ W''.heap.size; omega
      clear HGA HZA HBA HI1 HTK HKL HLL HUB
      apply region_oneV3 (fun vn W => Hid (GathS W g vn (L.take (k + 1))) ∧ Hid (Below g w W) ∧ Hid (g ≤ W.heap.size))
      case hr =>
        refine wp_region_noPanic ?_
        go_region_law (first
          | (refine step_appendV rfl _ _ _ _ rfl _ _ rfl rfl _ HAP1.out ?_; rintro v' W' hr1; obtain ⟨av, cv, rfl⟩ := hr1.1.shape; have k0 := hr1.2.2.c0; have k1 := hr1.2.2.c1; have HR1 := Lib.hid hr1; clear hr1)
          | (refine step_appendV rfl _ _ _ _ rfl _ _ rfl rfl _ (HAP2.out _ _ HR1.out) ?_; rintro v'' W'' ⟨H1, H2, H3⟩))
        all_goals
          refine NoPanic.normal ?_
          obtain ⟨vq, hvq⟩ : ∃ vq, Value.slice av l.length cv = vq := ⟨_, rfl⟩
          obtain ⟨nq, hnq⟩ : ∃ nq, W'.heap.size = nq := ⟨_, rfl⟩
          rw [hvq, hnq]
          exact ⟨rfl, v'', vq, nq, rfl, H1, H2, H3⟩
      rintro vn vx nx W ⟨H1, H2, H3⟩
      clear HAP1 HAP2 s0 s1
      go_wp2
      go_roundw
      case rel => exact ⟨k + 1, by omega, by go_num, H1, H2, H3⟩
      case measure => simp [intOf]; omega
    · obtain rfl : k = N := by omega
      have HGF : Hid (GathS wr g u3 L) := by have h := HG.out; rw [List.take_of_length_le (by have := HNN.out; omega)] at h; exact h
      go_wp2
      go_ret
      exact ⟨_, rfl, HGF.out, HW.out⟩
end Go.Proofs.YtpgbjnenllfmlaaGreatDoor
/-! Plans from the dice: kit's Plan. -/
namespace Go.Proofs.YtpgbjnenllfmlaaGreatDoor
open Go.RowKit
open Num
set_option linter.unusedVariables false

/-- A plan that is a variable of the call. -/
def PlanR (w : World) (g : Nat) (p k n : Int) : Prop := ∃ t, w.heap[g]? = some (.cells #[.int .i64 p, .int .i64 k, .int .i64 n] t (0, 0))
theorem planR_new (w : World) (p k n : Int) (t : TypeId) : PlanR (w.alloc (.cells #[.int .i64 p, .int .i64 k, .int .i64 n] t)) w.heap.size p k n := ⟨t, heap_alloc_new w _⟩
theorem PlanR.c0 {w : World} {g : Nat} {p k n : Int} (h : PlanR w g p k n) : w.cell? ⟨g, 0, none⟩ = some (.int .i64 p) := by
  obtain ⟨t, h⟩ := h
  simp [World.cell?, h]
theorem PlanR.c1 {w : World} {g : Nat} {p k n : Int} (h : PlanR w g p k n) : w.cell? ⟨g, 1, none⟩ = some (.int .i64 k) := by
  obtain ⟨t, h⟩ := h
  simp [World.cell?, h]
theorem PlanR.c2 {w : World} {g : Nat} {p k n : Int} (h : PlanR w g p k n) : w.cell? ⟨g, 2, none⟩ = some (.int .i64 n) := by
  obtain ⟨t, h⟩ := h
  simp [World.cell?, h]
theorem PlanR.fr {w : World} {g : Nat} {p k n : Int} (h : PlanR w g p k n) (j : Nat) : w.frozen? ⟨g, j, none⟩ = false := by
  obtain ⟨t, h⟩ := h
  exact frozen_of_row w g j _ t h
theorem PlanR.lt {w : World} {g : Nat} {p k n : Int} (h : PlanR w g p k n) : g < w.heap.size := by
  obtain ⟨t, h⟩ := h
  exact block_lt h
theorem PlanR.but {w w' : World} {g b : Nat} {p k n : Int} (h : PlanR w g p k n) (hb : But b w w') (hg : g ≠ b) : PlanR w' g p k n := by
  have hl := h.lt
  obtain ⟨t, h⟩ := h
  exact ⟨t, by rw [hb.block g hl hg]; exact h⟩
theorem PlanR.below {w w' : World} {g B : Nat} {p k n : Int} (h : PlanR w g p k n) (hb : Below B w w') (hg : g < B) : PlanR w' g p k n := by
  obtain ⟨t, h⟩ := h
  exact ⟨t, by rw [hb.block g hg]; exact h⟩
theorem PlanR.set0 {w : World} {g : Nat} {p k n : Int} (h : PlanR w g p k n) (x : Int) : PlanR (w.setCell ⟨g, 0, none⟩ (.int .i64 x)) g x k n := by
  obtain ⟨t, h⟩ := h
  exact ⟨t, by rw [heap_setCell_same w g 0 _ t _ h]; rfl⟩
theorem PlanR.set1 {w : World} {g : Nat} {p k n : Int} (h : PlanR w g p k n) (x : Int) : PlanR (w.setCell ⟨g, 1, none⟩ (.int .i64 x)) g p x n := by
  obtain ⟨t, h⟩ := h
  exact ⟨t, by rw [heap_setCell_same w g 1 _ t _ h]; rfl⟩
theorem PlanR.set2 {w : World} {g : Nat} {p k n : Int} (h : PlanR w g p k n) (x : Int) : PlanR (w.setCell ⟨g, 2, none⟩ (.int .i64 x)) g p k x := by
  obtain ⟨t, h⟩ := h
  exact ⟨t, by rw [heap_setCell_same w g 2 _ t _ h]; rfl⟩
theorem set1_below {B g : Nat} (w : World) (j : Nat) (x : Value) (h : B ≤ g) : Below B w (w.setCell ⟨g, j, none⟩ x) :=
  (Below.refl B w).setCell (by show B ≤ g; exact h) x
theorem set3_below {B g : Nat} (w : World) (x y z : Value) (h : B ≤ g) : Below B w (((w.setCell ⟨g, 0, none⟩ x).setCell ⟨g, 1, none⟩ y).setCell ⟨g, 2, none⟩ z) :=
  ((set1_below w 0 x h).trans (set1_below _ 1 y h)).trans (set1_below _ 2 z h)
theorem But.above {b B : Nat} {w w1 w2 : World} (h : But b w w1) (k : Below B w1 w2) (hB : w.heap.size ≤ B) : But b w w2 :=
  ⟨k.os.trans h.os, k.tape.trans h.tape, k.output.trans h.output, Nat.le_trans h.size k.size, fun i hi hb => (k.block i (by omega)).trans (h.block i hi hb)⟩

set_option maxRecDepth 100000 in
set_option maxHeartbeats 4000000 in
theorem plan_any (b : Nat) (s : Value) (l : List Int) (p : Int) (w : World) (hd : DiceAt w b s l) (hp : 2 ≤ p) (hp2 : p ≤ 1073741824) :
    Calls Tryz.prog 8 #[.pointer (some ⟨b, 0, none⟩), .int .i64 p] w fun e w' => ∃ k n : Int, e = .returned (planV p k n) ∧ 1 ≤ k ∧ k ≤ n ∧ n ≤ 7 ∧ n < p ∧ DiceAt w' b s l ∧ But b w w' := by
  have hsz := hd.size
  have hd0 := hd.below ((Below.refl w.heap.size w).alloc (Nat.le_refl _) (.cells #[.int .i64 0, .int .i64 0, .int .i64 0] 31)) hsz
  have hb0 : But b w (w.alloc (.cells #[.int .i64 0, .int .i64 0, .int .i64 0] 31)) := But.alloc _ _ _
  have HP0 := Lib.hid (planR_new w 0 0 0 31)
  go_enter Tryz.func8, Tryz.ntmps8
  by_cases h7 : 7 ≤ p - 1
  all_goals
    go_wp2_with fail
    refine (next_any b s l _ _ hd0 (by omega) (by omega)).mono ?_
    rintro e w1 ⟨r, r0, r1, rfl, hd1, hb1⟩
    obtain ⟨n, hn⟩ : ∃ n, 1 + r = n := ⟨_, rfl⟩
    have hn1 : 1 ≤ n ∧ n ≤ 7 ∧ n < p := by omega
    obtain ⟨hn2, hn3, hn4⟩ := hn1
    have HNP := Lib.hid hn4
    have hn5 : n < 8 := by omega
    have HB1 := Lib.hid (hb0.trans hb1)
    have HP1 := Lib.hid (HP0.out.but hb1 (by omega))
    clear hd0 hb0 hn4 r1 hb1 HP0
    go_wp2_with fail
    refine (next_any b s l n _ hd1 (by omega) (by omega)).mono ?_
    rintro e w2 ⟨r2, r20, r21, rfl, hd2, hb2⟩
    have hp2' := HP1.out.but hb2 (by omega)
    have HB2 := Lib.hid (HB1.out.trans hb2)
    have c0 := hp2'.c0
    have c1 := hp2'.c1
    have c2 := hp2'.c2
    have f0 := hp2'.fr 0
    have f1 := hp2'.fr 1
    have f2 := hp2'.fr 2
    have HK : Hid (1 ≤ 1 + r2 ∧ 1 + r2 ≤ n) := ⟨by omega, by omega⟩
    have hw2 : IntKind.i64.wrap (1 + r2) = 1 + r2 := by rw [IntKind.wrap_i64]; omega
    have HP2 := Lib.hid hp2'
    have HD2 := Lib.hid hd2
    clear HP1 HB1 hb2 hd1 hp2' hd2
    go_wp2_with fail
    obtain ⟨k, hk⟩ : ∃ k, 1 + r2 = k := ⟨_, rfl⟩
    rw [hk] at HK ⊢
    have HP3 := ((HP2.out.set0 p).set1 k).set2 n
    have HB3 : Below w.heap.size w2 (((w2.setCell ⟨w.heap.size, 0, none⟩ (.int .i64 p)).setCell ⟨w.heap.size, 1, none⟩ (.int .i64 k)).setCell ⟨w.heap.size, 2, none⟩ (.int .i64 n)) := set3_below _ _ _ _ (Nat.le_refl _)
    clear c0 c1 c2 f0 f1 f2
    generalize ((w2.setCell ⟨w.heap.size, 0, none⟩ (.int .i64 p)).setCell ⟨w.heap.size, 1, none⟩ (.int .i64 k)).setCell ⟨w.heap.size, 2, none⟩ (.int .i64 n) = w3 at *
    have c0 := HP3.c0
    have c1 := HP3.c1
    have c2 := HP3.c2
    refine bodyPost_ret (v := planV p k n) (by unfold planV; simp [results, Tryz.results8, go_sem, c0, c1, c2]) rfl ?_
    exact ⟨k, n, rfl, HK.out.1, HK.out.2, hn3, HNP.out, HD2.out.below HB3 hsz, HB2.out.above HB3 (Nat.le_refl _)⟩
end Go.Proofs.YtpgbjnenllfmlaaGreatDoor
/-! Lists of shares in another order: kit's Turn. -/
namespace Go.Proofs.YtpgbjnenllfmlaaGreatDoor
open Go.RowKit
open Num
set_option linter.unusedVariables false

/-- A row of shares that may be written. -/
def RowS (w : World) (q n : Nat) (Z : Nat → Int × Value) : Prop := ∀ i, i < n → w.cell? ⟨q, i * 2, none⟩ = some (.int .i64 (Z i).1) ∧ w.cell? ⟨q, i * 2 + 1, none⟩ = some (Z i).2 ∧ w.frozen? ⟨q, i * 2, none⟩ = false ∧ w.frozen? ⟨q, i * 2 + 1, none⟩ = false
theorem RowS.of_block {w w' : World} {q n : Nat} {Z : Nat → Int × Value} (h : RowS w q n Z) (hb : w'.heap[q]? = w.heap[q]?) : RowS w' q n Z := fun i hi => by
  obtain ⟨h1, h2, h3, h4⟩ := h i hi
  have hf : ∀ j, w'.frozen? ⟨q, j, none⟩ = w.frozen? ⟨q, j, none⟩ := fun j => by simp [World.frozen?, hb]
  have hc : ∀ j, w'.cell? ⟨q, j, none⟩ = w.cell? ⟨q, j, none⟩ := fun j => World.cell?_of_block hb
  exact ⟨by rw [hc]; exact h1, by rw [hc]; exact h2, by rw [hf]; exact h3, by rw [hf]; exact h4⟩
theorem RowS.there {w : World} {q n : Nat} {Z : Nat → Int × Value} (h : RowS w q n Z) {i : Nat} (hi : i < n) : w.there q (i * 2) 2 := by
  obtain ⟨h1, h2, h3, h4⟩ := h i hi
  intro j hj
  match j, hj with
  | 0, _ => exact ⟨by rw [Nat.add_zero, h1]; rfl, by rw [Nat.add_zero]; exact h3⟩
  | 1, _ => exact ⟨by rw [h2]; rfl, h4⟩
theorem RowS.store {w : World} {q n : Nat} {Z : Nat → Int × Value} (h : RowS w q n Z) {i : Nat} (hi : i < n) (x : Int × Value) : RowS (w.setCells q (i * 2) [.int .i64 x.1, x.2]) q n (fun j => if j = i then x else Z j) := fun j hj => by
  have hth := h.there hi
  obtain ⟨h1, h2, h3, h4⟩ := h j hj
  by_cases e : j = i
  · subst e
    have k0 := World.cell?_setCells_in q [.int .i64 x.1, x.2] (j * 2) w (fun i hi => (hth i hi).1) 0 (by simp)
    have k1 := World.cell?_setCells_in q [.int .i64 x.1, x.2] (j * 2) w (fun i hi => (hth i hi).1) 1 (by simp)
    refine ⟨by simpa using k0, by simpa using k1, by rw [World.frozen?_setCells]; exact h3, by rw [World.frozen?_setCells]; exact h4⟩
  · show _ ∧ _ ∧ _ ∧ _
    simp only [if_neg e]
    rw [World.frozen?_setCells, World.frozen?_setCells, World.cell?_setCells_out _ _ _ _ _ (fun _ _ => by simp; omega), World.cell?_setCells_out _ _ _ _ _ (fun _ _ => by simp; omega)]
    exact ⟨h1, h2, h3, h4⟩
/-- A list of shares of the call's own, to be written. -/
def TurnS (w : World) (base : Nat) (a : Option Addr) (L : List Shr) : Prop := L ≠ [] → ∃ q Z, a = some ⟨q, 0, none⟩ ∧ base ≤ q ∧ q < w.heap.size ∧ RowS w q L.length Z ∧
  ∀ i, i < L.length → (Z i).1 = (L.getD i (0, [])).1 ∧ Ints w (Z i).2 (L.getD i (0, [])).2 ∧ ∀ g, (Z i).2.ownBlock = some g → base ≤ g ∧ g ≠ q
theorem GathS.turnS {w : World} {base : Nat} {a : Option Addr} {n c : Nat} {L : List Shr} (h : GathS w base (.slice a n c) L) : TurnS w base a L := fun hne => by
  have h0 : 0 < L.length := List.length_pos_iff.2 hne
  obtain ⟨Z, h1, h2, h3⟩ := h
  obtain ⟨h00, hn | ⟨g, cap, cur, hv, hb, hg, hr⟩⟩ := id h2
  · omega
  · have hcell := World.ownsRow.cells h2 (g := g) (by rw [hv]; rfl)
    have hlt := World.ownsRow.lt h2 g (by rw [hv]; rfl)
    simp only [Value.slice.injEq] at hv
    obtain ⟨rfl, rfl, rfl⟩ := hv
    have hfz := World.ownsRow.frozenAt h2
    have had : ∀ j, (⟨g, 0, none⟩ : Addr).add j = ⟨g, j, none⟩ := fun j => by unfold Addr.add; split <;> simp_all
    refine ⟨g, fun i => Z.getD i (0, undef), rfl, hb, hlt.2, fun i hi => ?_, fun i hi => ?_⟩
    · obtain ⟨f1, f2⟩ := flatZ_get Z i (by omega)
      have c1 := hcell _ _ f1
      have c2 := hcell _ _ f2
      rw [had] at c1 c2
      exact ⟨c1, c2, hfz _, hfz _⟩
    · obtain ⟨e1, e2, e3⟩ := h3 i hi
      exact ⟨e1, e2.ints, fun q hq => ⟨(e3 q hq).1, fun e => (e3 q hq).2.2 (by rw [e]; rfl)⟩⟩
theorem TurnS.but {w w' : World} {base b : Nat} {a : Option Addr} {L : List Shr} (h : TurnS w base a L) (k : But b w w') (hb : b < base) : TurnS w' base a L := fun hne => by
  obtain ⟨q, Z, h1, h2, h3, h4, h5⟩ := h hne
  exact ⟨q, Z, h1, h2, Nat.lt_of_lt_of_le h3 k.size, h4.of_block (k.block q h3 (by omega)), fun i hi => ⟨(h5 i hi).1, (h5 i hi).2.1.but k (fun g hg => by have := ((h5 i hi).2.2 g hg).1; omega), (h5 i hi).2.2⟩⟩
/-- A list of shares, all of it in memory from block 'base' on. -/
def SharesN (w : World) (base : Nat) (s : Value) (L : List Shr) : Prop := ∃ a c, s = .slice a L.length c ∧ L.length ≤ 1000 ∧ L.length ≤ c ∧ c ≤ 9223372036854775807 ∧ (L ≠ [] → ∃ b off, a = some ⟨b, off, none⟩ ∧ base ≤ b ∧
  ∀ i, i < L.length → ∃ v, w.cell? ⟨b, off + i * 2, none⟩ = some (.int .i64 (L.getD i (0, [])).1) ∧ w.cell? ⟨b, off + i * 2 + 1, none⟩ = some v ∧ Ints w v (L.getD i (0, [])).2 ∧ ∀ g, v.ownBlock = some g → base ≤ g)
theorem SharesN.shares {w : World} {base : Nat} {s : Value} {L : List Shr} (h : SharesN w base s L) : Shares w s L := by
  obtain ⟨a, c, h1, h2, h3, h4, h5⟩ := h
  refine ⟨a, c, h1, h2, h3, h4, fun hl => ?_⟩
  obtain ⟨b, off, e, _, hc⟩ := h5 hl
  refine ⟨b, off, e, fun i hi => ?_⟩
  obtain ⟨v, k1, k2, k3, _⟩ := hc i hi
  exact ⟨v, k1, k2, k3⟩
theorem SharesN.but {w w' : World} {base b : Nat} {s : Value} {L : List Shr} (h : SharesN w base s L) (k : But b w w') (hb : b < base) : SharesN w' base s L := by
  obtain ⟨a, c, h1, h2, h3, h4, h5⟩ := h
  refine ⟨a, c, h1, h2, h3, h4, fun hl => ?_⟩
  obtain ⟨q, off, e, hq, hc⟩ := h5 hl
  refine ⟨q, off, e, hq, fun i hi => ?_⟩
  obtain ⟨v, k1, k2, k3, k4⟩ := hc i hi
  have hlt := cell_lt k1
  exact ⟨v, by rw [k.cell (p := ⟨q, off + i * 2, none⟩) hlt (by show q ≠ b; omega)]; exact k1, by rw [k.cell (p := ⟨q, off + i * 2 + 1, none⟩) hlt (by show q ≠ b; omega)]; exact k2, k3.but k (fun g hg => by have := k4 g hg; omega), k4⟩
theorem SharesN.below {w w' : World} {base B : Nat} {s : Value} {L : List Shr} (h : SharesN w base s L) (k : Below B w w') (hB : w.heap.size ≤ B) : SharesN w' base s L := by
  obtain ⟨a, c, h1, h2, h3, h4, h5⟩ := h
  refine ⟨a, c, h1, h2, h3, h4, fun hl => ?_⟩
  obtain ⟨q, off, e, hq, hc⟩ := h5 hl
  refine ⟨q, off, e, hq, fun i hi => ?_⟩
  obtain ⟨v, k1, k2, k3, k4⟩ := hc i hi
  have hlt := cell_lt k1
  exact ⟨v, by rw [k.cell (p := ⟨q, off + i * 2, none⟩) (Nat.lt_of_lt_of_le hlt hB)]; exact k1, by rw [k.cell (p := ⟨q, off + i * 2 + 1, none⟩) (Nat.lt_of_lt_of_le hlt hB)]; exact k2, k3.below hB k, k4⟩
theorem SharesN.mono {w : World} {B B' : Nat} {s : Value} {L : List Shr} (h : SharesN w B s L) (hB : B' ≤ B) : SharesN w B' s L := by
  obtain ⟨a, c, h1, h2, h3, h4, h5⟩ := h
  refine ⟨a, c, h1, h2, h3, h4, fun hl => ?_⟩
  obtain ⟨q, off, e, hq, hc⟩ := h5 hl
  refine ⟨q, off, e, Nat.le_trans hB hq, fun i hi => ?_⟩
  obtain ⟨v, k1, k2, k3, k4⟩ := hc i hi
  exact ⟨v, k1, k2, k3, fun g hg => Nat.le_trans hB (k4 g hg)⟩
theorem SharesN.shape {w : World} {base : Nat} {s : Value} {L : List Shr} (h : SharesN w base s L) : ∃ a c, s = .slice a L.length c ∧ L.length ≤ c ∧ c ≤ 9223372036854775807 := by
  obtain ⟨a, c, h1, h2, h3, h4, h5⟩ := h
  exact ⟨a, c, h1, h3, h4⟩
theorem TurnS.shares {w : World} {base : Nat} {a : Option Addr} {L : List Shr} (h : TurnS w base a L) (m c : Nat) (hm : m ≤ L.length) (hm2 : m ≤ 1000) (hc : m ≤ c) (hc2 : c ≤ 9223372036854775807) : SharesN w base (.slice a m c) (L.take m) := by
  have hl : (L.take m).length = m := by rw [List.length_take]; omega
  refine ⟨a, c, by rw [hl], by omega, by omega, hc2, fun hne => ?_⟩
  have h0 : 0 < m := by rw [← hl]; exact List.length_pos_iff.2 hne
  obtain ⟨q, Z, h1, h2, h3, h4, h5⟩ := h (fun e => by subst e; simp at hm; omega)
  refine ⟨q, 0, h1, h2, fun i hi => ?_⟩
  rw [hl] at hi
  obtain ⟨c0, c1, _⟩ := h4 i (by omega)
  obtain ⟨e1, e2, e5⟩ := h5 i (by omega)
  have e3 : (L.take m).getD i (0, []) = L.getD i (0, []) := by simp [List.getD, hi]
  rw [e3, Nat.zero_add]
  exact ⟨_, by rw [← e1]; exact c0, c1, e2, fun g hg => (e5 g hg).1⟩
/-- Two shares change places. -/
def swapL (L : List Shr) (i k : Nat) : List Shr := (L.set i (L.getD k (0, []))).set k (L.getD i (0, []))
theorem swapL_len (L : List Shr) (i k : Nat) : (swapL L i k).length = L.length := by simp [swapL]
theorem swapL_perm {L : List Shr} {i k : Nat} (hi : i < L.length) (hk : k < L.length) : (swapL L i k).Perm L := by
  have e1 : L.getD k (0, []) = L[k] := by simp [List.getD, hk]
  have e2 : L.getD i (0, []) = L[i] := by simp [List.getD, hi]
  unfold swapL
  rw [e1, e2]
  exact List.set_set_perm hi hk
theorem swapL_get {L : List Shr} {i k : Nat} (hi : i < L.length) (hk : k < L.length) (j : Nat) (hj : j < L.length) : (swapL L i k).getD j (0, []) = if j = k then L.getD i (0, []) else if j = i then L.getD k (0, []) else L.getD j (0, []) := by
  unfold swapL
  simp only [List.getD, List.getElem?_set, List.length_set]
  by_cases h1 : j = k
  · subst h1; simp [hj]
  · by_cases h2 : j = i
    · subst h2; simp [h1, Ne.symm h1, hj]
    · simp [h1, h2, Ne.symm h1, Ne.symm h2]
theorem TurnS.swap {w : World} {base q : Nat} {L : List Shr} {Z : Nat → Int × Value} (h2 : base ≤ q) (h3 : q < w.heap.size) (h4 : RowS w q L.length Z) (h5 : ∀ i, i < L.length → (Z i).1 = (L.getD i (0, [])).1 ∧ Ints w (Z i).2 (L.getD i (0, [])).2 ∧ ∀ g, (Z i).2.ownBlock = some g → base ≤ g ∧ g ≠ q) {i k : Nat} (hi : i < L.length) (hk : k < L.length) :
    TurnS ((w.setCells q (i * 2) [.int .i64 (Z k).1, (Z k).2]).setCells q (k * 2) [.int .i64 (Z i).1, (Z i).2]) base (some ⟨q, 0, none⟩) (swapL L i k) := fun hne => by
  have hb : But q w ((w.setCells q (i * 2) [.int .i64 (Z k).1, (Z k).2]).setCells q (k * 2) [.int .i64 (Z i).1, (Z i).2]) :=
    (((But.set w ⟨q, i * 2, none⟩ _).trans (But.set _ ⟨q, i * 2 + 1, none⟩ _)).trans (But.set _ ⟨q, k * 2, none⟩ _)).trans (But.set _ ⟨q, k * 2 + 1, none⟩ _)
  have hr := (h4.store hi (Z k)).store hk (Z i)
  refine ⟨q, _, rfl, h2, Nat.lt_of_lt_of_le h3 hb.size, by rw [swapL_len]; exact hr, fun j hj => ?_⟩
  rw [swapL_len] at hj
  rw [swapL_get hi hk j hj]
  by_cases e1 : j = k
  · simp only [e1, if_true]
    exact ⟨(h5 i hi).1, (h5 i hi).2.1.but hb (fun g hg => ((h5 i hi).2.2 g hg).2), (h5 i hi).2.2⟩
  · by_cases e2 : j = i
    · simp only [if_neg e1, if_pos e2]
      exact ⟨(h5 k hk).1, (h5 k hk).2.1.but hb (fun g hg => ((h5 k hk).2.2 g hg).2), (h5 k hk).2.2⟩
    · simp only [if_neg e1, if_neg e2]
      exact ⟨(h5 j hj).1, (h5 j hj).2.1.but hb (fun g hg => ((h5 j hj).2.2 g hg).2), (h5 j hj).2.2⟩
theorem swap_below {B q : Nat} (w : World) (o1 o2 : Nat) (x1 x2 y1 y2 : Value) (h : B ≤ q) : Below B w ((w.setCells q o1 [x1, x2]).setCells q o2 [y1, y2]) :=
  ((set1_below w o1 x1 h).trans (set1_below _ (o1 + 1) x2 h)).trans ((set1_below _ o2 y1 h).trans (set1_below _ (o2 + 1) y2 h))
section
variable {ops : Array Oper} {o : Oper} {a : Act} {w : World} {K : Act → World → Prop} {Q : Exit → Act → World → Prop} {E : Prop}
/-- A share stored into a list, as a step of a region that draws its order. -/
theorem step_storeS (hg : o.guard = none) (x y : Operand) (hop : o.op = .store 42 x y) (b off : Nat) (h : Int) (v : Value) (hx : a.eval x = .pointer (some ⟨b, off, none⟩)) (hy : a.eval y = .agg #[.int .i64 h, v]) (ht : w.there b off 2) (hv : v.oneCell' = true)
    (hK : K (a.put o.dst undef) (w.setCells b off [.int .i64 h, v])) : if Region.wanted o (yielded ops a.tmps) = true then Oper.wp Tryz.prog o a w K Q else E := by
  have hw : Region.wanted o (yielded ops a.tmps) = true := by simp [Region.wanted, hg]
  rw [if_pos hw]
  obtain ⟨i0, hi, hz0, hz1, hz2⟩ := info_parts infoShare
  exact wp_store_mid 42 x y hop b off #[.int .i64 h, v] hx hy ht (by rw [hi]; simp [hz1]) (by simpa using ⟨rfl, hv⟩) hK
end

/-- A region whose orders all end in one frame. -/
theorem region_oneW {P : Program} {id : Nat} {ops : Array Oper} {d : Bool} {Q : Exit → Act → World → Prop} {a : Act} {w : World} (R : World → Prop) (A : Act) (hr : (Code.region id ops d).wp P (fun e a' W => e = .normal ∧ a' = A ∧ R W) a w)
    (h : ∀ W, R W → Q .normal A W) : (Code.region id ops d).wp P Q a w :=
  Code.wp_mono (fun _ _ _ ⟨h1, h2, h3⟩ => by subst h1; subst h2; exact h _ h3) hr
set_option maxRecDepth 100000 in
set_option maxHeartbeats 4000000 in
theorem turn_any (b : Nat) (s : Value) (l : List Int) (sv : Value) (L : List Shr) (least : Nat) (w : World) (hd : DiceAt w b s l) (hs : Shares w sv L) (hb : ∀ x ∈ L, x.2.length ≤ 100000) (hL : L.length < 1000) (hle : least ≤ 1000) :
    Calls Tryz.prog 12 #[.pointer (some ⟨b, 0, none⟩), sv, .int .i64 least] w fun e w' => ∃ (v : Value) (L2 : List Shr) (m : Nat), e = .returned v ∧ L2.Perm L ∧ min least L.length ≤ m ∧ m ≤ L.length ∧ SharesN w' w.heap.size v (L2.take m) ∧ DiceAt w' b s l ∧ But b w w' := by
  have hsz := hd.size
  obtain ⟨n, hn⟩ : ∃ n, L.length = n := ⟨_, rfl⟩
  obtain ⟨g, hg⟩ : ∃ g, w.heap.size = g := ⟨_, rfl⟩
  have HC := Lib.hid (copyS_any sv L w hs hb hL)
  obtain ⟨sa, sc, rfl, _⟩ := id hs
  have HD := Lib.hid hd
  rw [hn] at hL HC ⊢
  rw [hg] at hsz HC ⊢
  have HNN := Lib.hid hn
  have HGG := Lib.hid hg
  clear hs hb hd hn hg
  go_enter Tryz.func12, Tryz.ntmps12
  go_wp2_with fail
  refine HC.out.mono ?_
  rintro e w1 ⟨v, rfl, hG1, hB1⟩
  obtain ⟨va, vc, rfl, hvc, hvc2⟩ := hG1.shape
  have HT1 := Lib.hid hG1.turnS
  have HB1 := Lib.hid (But.of_below (b := b) hB1 (Nat.le_of_eq HGG.out))
  have HD1 := Lib.hid (HD.out.below hB1 hsz)
  rw [HNN.out] at hvc ⊢
  clear hG1 hB1 HC HD
  go_wp2_with fail
  go_loopw [8, 9, 14] (fun _ _ i wr => ∃ (k : Nat) (L2 : List Shr), k ≤ n ∧ i = .int .i64 k ∧ Hid (L2.Perm L) ∧ Hid (TurnS wr g va L2) ∧ Hid (DiceAt wr b s l) ∧ Hid (But b w wr)) (fun _ _ i _ => n - (intOf i).toNat)
  case atStart => exact ⟨0, L, Nat.zero_le _, rfl, List.Perm.refl _, HT1, HD1, HB1⟩
  case round =>
    obtain ⟨k, L2, hk, rfl, HP, HT, HDr, HBr⟩ := hrel
    by_cases hlt : k < n
    · have hw1 : IntKind.i64.wrap ((k : Int) + 1) = (k : Int) + 1 := by rw [IntKind.wrap_i64]; omega
      go_wp2_with fail
      refine (next_any b s l _ _ HDr.out (by omega) (by omega)).mono ?_
      rintro e w2 ⟨r, r0, r1, rfl, hd2, hb2⟩
      obtain ⟨j, rfl⟩ := Int.eq_ofNat_of_zero_le r0
      have hjk : j < n := by omega
      have HL2 : Hid (L2.length = n) := by show _ = _; rw [HP.out.length_eq]; exact HNN.out
      have hbd : But b w2 w2.drew := But.of_below ((Below.refl _ _).drew) (Nat.le_refl _)
      obtain ⟨q, Z, rfl, hq1, hq2, hrow, hz⟩ := (HT.out.but hb2 hsz).but hbd hsz (fun e => by have := HL2.out; rw [e] at this; simp at this; omega)
      have HD2 := Lib.hid hd2
      have HB2 := Lib.hid ((HBr.out.trans hb2).trans hbd)
      have HDD := Lib.hid (hd2.below ((Below.refl _ _).drew) hd2.size)
      have HQ1 := Lib.hid hq1
      have HQ2 := Lib.hid hq2
      have HR := Lib.hid hrow
      have HZ := Lib.hid hz
      rw [HL2.out] at hrow
      obtain ⟨c0, c1, _⟩ := hrow k hlt
      obtain ⟨d0, d1, _⟩ := hrow j hjk
      have ht1 := hrow.there hlt
      have ht2 := hrow.there hjk
      rw [HL2.out] at hz
      obtain ⟨a1, x1, he1⟩ := (hz k hlt).2.1.shape
      obtain ⟨a2, x2, he2⟩ := (hz j hjk).2.1.shape
      have HE1 := Lib.hid he1
      have HE2 := Lib.hid he2
      rw [he1] at c1
      rw [he2] at d1
      obtain ⟨n1, hn1⟩ : ∃ n1, (L2.getD k (0, [])).2.length = n1 := ⟨_, rfl⟩
      obtain ⟨n2, hn2⟩ : ∃ n2, (L2.getD j (0, [])).2.length = n2 := ⟨_, rfl⟩
      obtain ⟨h1, hh1⟩ : ∃ h1, (Z k).1 = h1 := ⟨_, rfl⟩
      obtain ⟨h2, hh2⟩ : ∃ h2, (Z j).1 = h2 := ⟨_, rfl⟩
      rw [hn1] at c1 HE1
      rw [hn2] at d1 HE2
      rw [hh1] at c0
      rw [hh2] at d0
      have HSW : Hid (TurnS ((w2.drew.setCells q (k * 2) [.int .i64 h2, .slice a2 n2 x2]).setCells q (j * 2) [.int .i64 h1, .slice a1 n1 x1]) g (some ⟨q, 0, none⟩) (swapL L2 k j)) := by
        have h := TurnS.swap (base := g) hq1 hq2 HR.out HZ.out (i := k) (k := j) (by rw [HL2.out]; exact hlt) (by rw [HL2.out]; exact hjk)
        rw [hh1, hh2, HE1.out, HE2.out] at h
        exact h
      have HSB := swap_below (B := g) w2.drew (k * 2) (j * 2) (.int .i64 h2) (.slice a2 n2 x2) (.int .i64 h1) (.slice a1 n1 x1) hq1
      have HDW := Lib.hid (HDD.out.below HSB hsz)
      have HBW := Lib.hid (HB2.out.above HSB (Nat.le_of_eq HGG.out))
      have HPW : Hid ((swapL L2 k j).Perm L) := (swapL_perm (by rw [HL2.out]; exact hlt) (by rw [HL2.out]; exact hjk)).trans HP.out
      clear HSB hq1 hq2 hrow hz he1 he2 hn1 hn2 hh1 hh2 HR HZ HE1 HE2 hd2 hb2 HT HDr HBr HP r1
      have HTH1 := Lib.hid ht1
      have HTH2 := Lib.hid ht2
      clear ht1 ht2
      have c0' : w2.cell? ⟨q, k * 2, none⟩ = some (.int .i64 h1) := c0
      have c1' : w2.cell? ⟨q, k * 2 + 1, none⟩ = some (.slice a1 n1 x1) := c1
      have d0' : w2.cell? ⟨q, j * 2, none⟩ = some (.int .i64 h2) := d0
      have d1' : w2.cell? ⟨q, j * 2 + 1, none⟩ = some (.slice a2 n2 x2) := d1
      have f0' : w2.frozen? ⟨q, k * 2, none⟩ = false := (HTH1.out 0 (by omega)).2
      have f1' : w2.frozen? ⟨q, k * 2 + 1, none⟩ = false := (HTH1.out 1 (by omega)).2
      have k0' : w2.frozen? ⟨q, j * 2, none⟩ = false := (HTH2.out 0 (by omega)).2
      have k1' : w2.frozen? ⟨q, j * 2 + 1, none⟩ = false := (HTH2.out 1 (by omega)).2
      have hth3 := World.there_setCells (w := w2) HTH2.out q (k * 2) [.int .i64 h2, .slice a2 n2 x2]
      obtain ⟨y0, e0⟩ : ∃ y, ((w2.setCell ⟨q, k * 2, none⟩ (.int .i64 h2)).setCell ⟨q, k * 2 + 1, none⟩ (.slice a2 n2 x2)).cell? ⟨q, j * 2, none⟩ = some y := Option.isSome_iff_exists.1 (hth3 0 (by omega)).1
      obtain ⟨y1, e1⟩ : ∃ y, (((w2.setCell ⟨q, k * 2, none⟩ (.int .i64 h2)).setCell ⟨q, k * 2 + 1, none⟩ (.slice a2 n2 x2)).setCell ⟨q, j * 2, none⟩ (.int .i64 h1)).cell? ⟨q, j * 2 + 1, none⟩ = some y := by
        rw [World.cell?_setCell_other _ _ _ _ (by simp)]
        exact Option.isSome_iff_exists.1 (hth3 1 (by omega)).1
      clear c0 c1 d0 d1 hbd HD2 hth3
      go_wp2_with fail
      apply region_oneW (fun W => Hid (TurnS W g (some ⟨q, 0, none⟩) (swapL L2 k j)) ∧ Hid (DiceAt W b s l) ∧ Hid (But b w W))
      case hr =>
        refine wp_region_noPanic ?_
        go_region_law (fail)
        all_goals
          refine NoPanic.normal ?_
          exact ⟨rfl, rfl, HSW, HDW, HBW⟩
      rintro W ⟨H1, H2, H3⟩
      clear HSW HDW HBW HTH1 HTH2 c0' c1' d0' d1' f0' f1' k0' k1' e0 e1 HB2 HDD
      have hw1 : True := trivial
      go_wp2
      go_roundw
      case rel => exact ⟨k + 1, swapL L2 k j, by omega, by go_num, HPW, H1, H2, H3⟩
      case measure => simp [intOf]; omega
    · obtain rfl : k = n := by omega
      have HL2 : Hid (L2.length = k) := by show _ = _; rw [HP.out.length_eq]; exact HNN.out
      have HSH : Hid (∀ m, m ≤ k → SharesN wr g (.slice va m vc) (L2.take m)) := fun m hm => HT.out.shares m vc (by rw [HL2.out]; exact hm) (by omega) (by omega) hvc2
      have HT2 := Lib.hid HT.out
      clear HT
      by_cases hge : k ≤ least
      · have hm : SharesN wr g (.slice va k vc) (L2.take k) := HSH.out k (Nat.le_refl _)
        have HM := Lib.hid hm
        clear hm
        go_wp2
        go_ret
        exact ⟨_, L2, k, rfl, HP.out, Nat.min_le_right _ _, Nat.le_refl _, HM.out, HDr.out, HBr.out⟩
      · have hw1 : IntKind.i64.wrap ((k : Int) - (least : Int)) = (k : Int) - (least : Int) := by rw [IntKind.wrap_i64]; omega
        have hw2 : IntKind.i64.wrap ((k : Int) - (least : Int) + 1) = (k : Int) - (least : Int) + 1 := by rw [IntKind.wrap_i64]; omega
        go_wp2_with fail
        refine (next_any b s l _ _ HDr.out (by omega) (by omega)).mono ?_
        rintro e w2 ⟨r, r0, r1, rfl, hd2, hb2⟩
        obtain ⟨m, hm⟩ := Int.eq_ofNat_of_zero_le (show 0 ≤ (least : Int) + r by omega)
        have hmk : m ≤ k := by omega
        have hlm : least ≤ m := by omega
        have hw3 : IntKind.i64.wrap ((least : Int) + r) = (m : Int) := by rw [IntKind.wrap_i64]; omega
        have HM : Hid (SharesN w2 g (.slice va m vc) (L2.take m)) := (HT2.out.but hb2 hsz).shares m vc (by rw [HL2.out]; exact hmk) (by omega) (by omega) hvc2
        have HD2 := Lib.hid hd2
        have HB2 := Lib.hid (HBr.out.trans hb2)
        have HMM := Lib.hid hmk
        have HLM := Lib.hid hlm
        have hmc : m ≤ vc := by omega
        clear hd2 hb2 hm hlm HSH r1 HT2
        go_wp2
        go_ret
        exact ⟨_, L2, m, rfl, HP.out, Nat.le_trans (Nat.min_le_left _ _) HLM.out, HMM.out, HM.out, HD2.out, HB2.out⟩
end Go.Proofs.YtpgbjnenllfmlaaGreatDoor
