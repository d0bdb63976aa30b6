
/- Copies of shares whose values lie apart: the document's Copy. -/
import Derived.Test.YtpgbjnenllfmlaaGreatDoorHXp
/-! Copies of shares whose values lie apart: the document's Copy. -/
namespace Go.Proofs.YtpgbjnenllfmlaaGreatDoor
open Go.RowKit Go.Sort
open Num
set_option linter.unusedVariables false

/-- A list of shares of the call's own, with values of its own that lie apart from each other. -/
def InT (w : World) (base lim : Nat) (row : Option Nat) (z : Int × Value) (s : Shr) : Prop := z.1 = s.1 ∧ Gath w base z.2 s.2 ∧ ∀ g, z.2.ownBlock = some g → row ≠ some g ∧ g < lim
def GathT (w : World) (base lim : Nat) (v : Value) (L : List Shr) : Prop := ∃ Z : List (Int × Value), Z.length = L.length ∧ w.ownsRow base 42 2 v L.length (flatZ Z) ∧ (∀ i, i < L.length → InT w base lim v.ownBlock (Z.getD i (0, undef)) (L.getD i (0, []))) ∧
  ∀ i j, i < j → j < L.length → ∀ g, (Z.getD i (0, undef)).2.ownBlock = some g → (Z.getD j (0, undef)).2.ownBlock ≠ some g
theorem gathT_nil (w : World) (base lim : Nat) : GathT w base lim (.slice none 0 0) [] := ⟨[], rfl, World.ownsRow_nil _ _ _ _, fun i hi => by simp at hi, fun i j h1 h2 => by simp at h2⟩
theorem GathT.kept {w w' : World} {base lim : Nat} {v : Value} {L : List Shr} {row : Option Nat} (h : GathT w base lim v L) (k : w.grownBy w' row) (hr : ∀ g, row = some g → g < base ∨ w.heap.size ≤ g) : GathT w' base lim v L := by
  obtain ⟨Z, h1, h2, h3, h4⟩ := h
  have hx : ∀ u : Value, (∀ g, u.ownBlock = some g → base ≤ g ∧ g < w.heap.size) → u.ownBlock = none ∨ u.ownBlock ≠ row := fun u hu => by
    cases e : u.ownBlock with
    | none => exact .inl rfl
    | some q =>
      refine .inr fun e2 => ?_
      have := hu q e
      rcases hr q e2.symm with h | h <;> omega
  refine ⟨Z, h1, World.ownsRow.kept h2 k (hx v (World.ownsRow.lt h2)), fun i hi => ?_, h4⟩
  obtain ⟨e1, e2, e3⟩ := h3 i hi
  exact ⟨e1, World.ownsRow.kept e2 k (hx _ (World.ownsRow.lt e2)), e3⟩
theorem GathT.below {w w' : World} {base lim B : Nat} {v : Value} {L : List Shr} (h : GathT w base lim v L) (b : Below B w w') (hB : w.heap.size ≤ B) : GathT w' base lim v L :=
  h.kept (grownBy_of_below b hB) (fun g e => by cases e)
theorem GathT.alloc {w : World} {base lim : Nat} {v : Value} {L : List Shr} (h : GathT w base lim v L) (o : Obj) : GathT (w.alloc o) base lim v L :=
  h.kept (World.grownBy_alloc w o none) (fun g e => by cases e)
theorem GathT.block {w : World} {base lim : Nat} {v : Value} {L : List Shr} (h : GathT w base lim v L) : ∀ g, v.ownBlock = some g → base ≤ g ∧ g < w.heap.size := by
  obtain ⟨Z, h1, h2, h3, _⟩ := h
  exact World.ownsRow.lt h2
theorem GathT.but {w w' : World} {base lim b : Nat} {v : Value} {L : List Shr} (h : GathT w base lim v L) (k : But b w w') (hb : b < base) : GathT w' base lim v L :=
  h.kept k.grown (fun g e => by simp at e; omega)
theorem GathT.toS {w : World} {base lim : Nat} {v : Value} {L : List Shr} (h : GathT w base lim v L) (hl : ∀ s ∈ L, s.2.length ≤ 140737488355328) : GathS w base v L := by
  obtain ⟨Z, h1, h2, h3, _⟩ := h
  refine ⟨Z, h1, h2, fun i hi => ?_⟩
  obtain ⟨e1, e2, e3⟩ := h3 i hi
  have hm : L.getD i (0, []) ∈ L := by rw [List.getD_eq_getElem?_getD, List.getElem?_eq_getElem hi]; exact List.getElem_mem _
  exact ⟨e1, e2.slc (hl _ hm), fun g hg => ⟨(World.ownsRow.lt e2 g hg).1, (World.ownsRow.lt e2 g hg).2, (e3 g hg).1⟩⟩
theorem run_appendT {W : World} {B lim : Nat} {v : Value} {L : List Shr} (hown : GathT W B lim v L) (ad : Nat) (hd : Int) (gv : Value) (l : List Int) (hc0 : W.cell? ⟨ad, 0, none⟩ = some (.int .i64 hd)) (hc1 : W.cell? ⟨ad, 1, none⟩ = some gv)
    (hS : Gath W B gv l) (hblk : ∀ g, gv.ownBlock = some g → lim ≤ g ∧ v.ownBlock ≠ some g) (hlen : L.length < 1000) (hB : B ≤ W.heap.size) (ty : TypeId) :
    ∃ v' W', (Builtin.append_ #[23, 23] ty #[v, .slice (some ⟨ad, 0, none⟩) 1 1]).run Tryz.prog W = .ok v' W' ∧ GathT W' B W'.heap.size v' (L ++ [(hd, l)]) ∧ W.grownBy W' v.ownBlock ∧ (v'.ownBlock = v.ownBlock ∨ v'.ownBlock = some W.heap.size) := by
  obtain ⟨i0, hi, hz0, hz1, hz2⟩ := info_parts infoShare
  obtain ⟨Z, z1, z2, z3, z4⟩ := hown
  obtain ⟨v', w', h0, h1, h2, _, h5⟩ := run_append_own_at (P := Tryz.prog) W B 23 ty 42 i0 (.agg #[.int .i64 0, .slice none 0 0]) 2 32 Tryz.underlying23 hi hz0 hz1 hz2 rfl (by decide) v L.length (flatZ Z) z2 ⟨ad, 0, none⟩ 1 1 [.int .i64 hd, gv] rfl (by
    have had : ∀ j, (⟨ad, 0, none⟩ : Addr).add j = ⟨ad, j, none⟩ := fun j => by unfold Addr.add; split <;> simp_all
    intro j u hj
    rw [had]
    match j, hj with
    | 0, hj => simp at hj; subst hj; exact hc0
    | 1, hj => simp at hj; subst hj; exact hc1) (by
    obtain ⟨_, _, rfl⟩ := hS.shape
    intro u hu
    simp only [List.mem_cons, List.not_mem_nil, or_false] at hu
    rcases hu with rfl | rfl <;> rfl) (by unfold maxLen; omega) (by omega) hB
  have hne : ∀ u : Value, (∀ g, u.ownBlock = some g → v.ownBlock ≠ some g) → u.ownBlock = none ∨ u.ownBlock ≠ v.ownBlock := fun u hu => by
    cases e : u.ownBlock with
    | none => exact .inl rfl
    | some q => exact .inr fun e2 => hu q e e2.symm
  have hrow : ∀ g : Nat, g < W.heap.size → v.ownBlock ≠ some g → v'.ownBlock ≠ some g := fun g g1 g2 e => by
    rcases h5 with h5 | h5
    · rw [h5] at e; exact g2 e
    · rw [h5] at e; simp at e; omega
  have e1 : ∀ i, i < L.length → (Z ++ [(hd, gv)]).getD i (0, undef) = Z.getD i (0, undef) := fun i hlt => by simp [List.getD, List.getElem?_append, z1, hlt]
  have e2 : ∀ i, i < L.length → (L ++ [(hd, l)]).getD i (0, []) = L.getD i (0, []) := fun i hlt => by simp [List.getD, List.getElem?_append, hlt]
  have e3 : (Z ++ [(hd, gv)]).getD L.length (0, undef) = (hd, gv) := by simp [List.getD, ← z1]
  have e4 : (L ++ [(hd, l)]).getD L.length (0, []) = (hd, l) := by simp [List.getD]
  refine ⟨v', w', h0, ⟨Z ++ [(hd, gv)], by simp [z1], by rw [flatZ_snoc, List.length_append]; exact h1, fun i hi => ?_, fun i j hij hj g hg => ?_⟩, h2, h5⟩
  · rw [List.length_append, List.length_singleton] at hi
    by_cases hlt : i < L.length
    · rw [e1 i hlt, e2 i hlt]
      obtain ⟨q1, q2, q3⟩ := z3 i hlt
      have q4 := World.ownsRow.lt q2
      refine ⟨q1, World.ownsRow.kept q2 h2 (hne _ fun g hg => (q3 g hg).1), fun g hg => ⟨hrow g (q4 g hg).2 (q3 g hg).1, Nat.lt_of_lt_of_le (q4 g hg).2 h2.size⟩⟩
    · obtain rfl : i = L.length := by omega
      rw [e3, e4]
      have q4 := World.ownsRow.lt hS
      exact ⟨rfl, World.ownsRow.kept hS h2 (hne _ fun g hg => (hblk g hg).2), fun g hg => ⟨hrow g (q4 g hg).2 (hblk g hg).2, Nat.lt_of_lt_of_le (q4 g hg).2 h2.size⟩⟩
  · rw [List.length_append, List.length_singleton] at hj
    by_cases hlt : j < L.length
    · rw [e1 i (by omega)] at hg
      rw [e1 j hlt]
      exact z4 i j hij hlt g hg
    · obtain rfl : j = L.length := by omega
      rw [e1 i hij] at hg
      rw [e3]
      intro e
      have h6 := (hblk g e).1
      have h7 := ((z3 i hij).2.2 g hg).2
      omega
set_option maxRecDepth 100000 in
set_option maxHeartbeats 4000000 in
theorem copyT_any (s : Value) (L : List Shr) (w : World) (hs : Shares w s L) (hb : ∀ x ∈ L, x.2.length ≤ 100000) (hL : L.length < 1000) :
    Calls Tryz.prog 27 #[s] w fun e w' => ∃ v, e = .returned v ∧ GathT w' w.heap.size w'.heap.size v L ∧ Below w.heap.size w w' := by
  obtain ⟨a1, d1, rfl, _, hld1, hd1, _⟩ := id hs
  obtain ⟨N, hN⟩ : ∃ N, L.length = N := ⟨_, rfl⟩
  rw [hN] at hs hld1 hL ⊢
  obtain ⟨g, hg⟩ : ∃ g, w.heap.size = g := ⟨_, rfl⟩
  have HGG := Lib.hid hg
  have HNN := Lib.hid hN
  have HS := Lib.hid hs
  have HLB := Lib.hid (fun k (hk : k < N) => hb (L.getD k (0, [])) (by rw [List.getD_eq_getElem?_getD, List.getElem?_eq_getElem (by omega)]; exact List.getElem_mem _))
  have HW0 : Hid (Below g w w) := Below.refl _ _
  have HG0 : Hid (GathT w g w.heap.size (.slice none 0 0) (L.take 0)) := by rw [List.take_zero]; exact gathT_nil _ _ _
  have HZ0 : Hid (g ≤ w.heap.size) := Nat.le_of_eq hg.symm
  rw [hg]
  clear hs hg hN hb
  go_enter Tryz.func27, Tryz.ntmps27
  go_wp2_with fail
  go_loopw [3, 5, 8] (fun v _ i wr => ∃ k : Nat, k ≤ N ∧ i = .int .i64 k ∧ Hid (GathT wr g wr.heap.size v (L.take k)) ∧ Hid (Below g w wr) ∧ Hid (g ≤ wr.heap.size)) (fun _ _ i _ => N - (intOf i).toNat)
  case atStart => exact ⟨0, Nat.zero_le _, rfl, HG0, HW0, HZ0⟩
  case round =>
    obtain ⟨k, hk, rfl, HG, HW, HZ⟩ := hrel
    by_cases hlt : k < N
    · obtain ⟨b1, o1, v1, rfl, c0, c1, hi1⟩ := (HS.out.below (Nat.le_of_eq HGG.out) HW.out).at hlt
      have HTK := Lib.hid (take_snocS (L := L) (k := k) (by have := HNN.out; omega))
      have hll6 := HLB.out k hlt
      obtain ⟨⟨h, l⟩, hsh⟩ : ∃ z, L.getD k (0, []) = z := ⟨_, rfl⟩
      rw [hsh] at c0 hi1 HTK hll6
      simp only at c0 hi1 hll6
      obtain ⟨va1, vc1, rfl⟩ := hi1.shape
      obtain ⟨ll, hll⟩ : ∃ ll, l.length = ll := ⟨_, rfl⟩
      have HLL := Lib.hid hll
      rw [hll] at c1 hi1 hll6
      obtain ⟨gs, hgs⟩ : ∃ gs, wr.heap.size = gs := ⟨_, rfl⟩
      have hgg : g ≤ gs := by rw [← hgs]; exact HZ.out
      have hba : Below gs wr (wr.alloc (.cells #[.int .i64 h, .slice va1 ll vc1] 42)) := by rw [← hgs]; exact (Below.refl _ _).alloc (Nat.le_refl _) _
      have HI1 := Lib.hid (hi1.below (Nat.le_of_eq hgs) hba)
      have HBA := Lib.hid (HW.out.trans (hba.mono hgg))
      have hsa := shAt_new wr h (.slice va1 ll vc1) 42
      rw [hgs] at hsa
      have HSA := Lib.hid hsa
      have HGA : Hid (GathT (wr.alloc (.cells #[.int .i64 h, .slice va1 ll vc1] 42)) g gs u3 (L.take k)) := by have h := HG.out; rw [hgs] at h; exact h.alloc _
      have hub : ∀ q, u3.ownBlock = some q → g ≤ q ∧ q < gs := by rw [← hgs]; exact HG.out.block
      have HUB := Lib.hid hub
      have hza : (wr.alloc (.cells #[.int .i64 h, .slice va1 ll vc1] 42)).heap.size = gs + 1 := by rw [← hgs]; simp
      have HZA := Lib.hid hza
      have HKL : Hid ((L.take k).length = k) := by show _ = _; rw [List.length_take]; have := HNN.out; omega
      have HGS := Lib.hid hgs
      clear hi1 hba hsh hsa HW hll HG hub hza
      go_wp2_with fail
      clear hgs
      generalize wr.alloc (.cells #[.int .i64 h, .slice va1 ll vc1] 42) = w5 at *
      have s0 := HSA.out.c0
      have s1 := HSA.out.c1
      have HAP1 : Hid (∃ v' W', (Builtin.append_ #[22, 22] 22 #[.slice none 0 0, .slice va1 ll vc1]).run Tryz.prog w5.drew = .ok v' W' ∧ CopR1 w5 gs h l va1 ll vc1 v' W') := by
        obtain ⟨v', W', h1, h2, h3⟩ := run_append_ints (W := w5.drew) (B := gs + 1) (gath_nil _ _) (HI1.out.below (Nat.le_refl _) (Below.refl _ _).drew) (by have := HLL.out; simp; omega) (by show gs + 1 ≤ w5.heap.size; have := HZA.out; omega) 22
        rw [List.nil_append] at h2
        have hbw : Below (gs + 1) w5 W' := ((Below.refl _ _).drew).grown h3 (by show gs + 1 ≤ w5.heap.size; have := HZA.out; omega) (fun k hk => by cases hk)
        exact ⟨v', W', h1, h2, hbw, HSA.out.grown (grownBy_of_below hbw (by have := HZA.out; omega)) (fun e => by cases e)⟩
      have HAP2 : Hid (∀ v' W', CopR1 w5 gs h l va1 ll vc1 v' W' → ∃ v'' W'', (Builtin.append_ #[23, 23] 23 #[u3, .slice (some ⟨W'.heap.size, 0, none⟩) 1 1]).run Tryz.prog (W'.alloc (.cells #[.int .i64 h, v'] 42)) = .ok v'' W'' ∧ (Hid (GathT W'' g W''.heap.size v'' (L.take (k + 1))) ∧ Hid (Below g w W'') ∧ Hid (g ≤ W''.heap.size))) := by
        intro v' W' ⟨r1, r2, r3⟩
        have hzw : gs + 1 ≤ W'.heap.size := by have := r2.size; have := HZA.out; omega
        have hga : GathT (W'.alloc (.cells #[.int .i64 h, v'] 42)) g gs u3 (L.take k) := (HGA.out.below r2 (by have := HZA.out; omega)).alloc _
        have hal : World.grownBy W' (W'.alloc (.cells #[.int .i64 h, v'] 42)) none := World.grownBy_alloc _ _ none
        obtain ⟨v'', W'', e1, e2, e3, _⟩ := run_appendT hga W'.heap.size h v' l (shAt_new W' h v' 42).c0 (shAt_new W' h v' 42).c1 ((Gath.alloc r1 _).mono (by omega)) (fun q hq => by
          have h1 := World.ownsRow.lt r1 q hq
          refine ⟨by omega, fun e => ?_⟩
          have h2 := HUB.out q e
          omega) (by rw [HKL.out]; omega) (by simp; omega) 23
        rw [HTK.out] at e2
        refine ⟨v'', W'', e1, e2, ((HBA.out.trans (r2.mono (by omega))).alloc (by omega) _).grown e3 (by simp; omega) (fun q hq => (HUB.out q hq).1), ?_⟩
        have := e3.size; simp at this; show g ≤ W''.heap.size; omega
      clear HGA HZA HBA HI1 HTK HKL HLL HUB
      apply region_oneV3 (fun vn W => Hid (GathT W g W.heap.size vn (L.take (k + 1))) ∧ Hid (Below g w W) ∧ Hid (g ≤ W.heap.size))
      case hr =>
        refine wp_region_noPanic ?_
        go_region_law (first
          | (refine step_appendV rfl _ _ _ _ rfl _ _ rfl rfl _ HAP1.out ?_; rintro v' W' hr1; obtain ⟨av, cv, rfl⟩ := hr1.1.shape; have k0 := hr1.2.2.c0; have k1 := hr1.2.2.c1; have HR1 := Lib.hid hr1; clear hr1)
          | (refine step_appendV rfl _ _ _ _ rfl _ _ rfl rfl _ (HAP2.out _ _ HR1.out) ?_; rintro v'' W'' ⟨H1, H2, H3⟩))
        all_goals
          refine NoPanic.normal ?_
          obtain ⟨vq, hvq⟩ : ∃ vq, Value.slice av l.length cv = vq := ⟨_, rfl⟩
          obtain ⟨nq, hnq⟩ : ∃ nq, W'.heap.size = nq := ⟨_, rfl⟩
          rw [hvq, hnq]
          exact ⟨rfl, v'', vq, nq, rfl, H1, H2, H3⟩
      rintro vn vx nx W ⟨H1, H2, H3⟩
      clear HAP1 HAP2 s0 s1
      go_wp2
      go_roundw
      case rel => exact ⟨k + 1, by omega, by go_num, H1, H2, H3⟩
      case measure => simp [intOf]; omega
    · obtain rfl : k = N := by omega
      have HGF : Hid (GathT wr g wr.heap.size u3 L) := by have h := HG.out; rw [List.take_of_length_le (by have := HNN.out; omega)] at h; exact h
      go_wp2
      go_ret
      exact ⟨_, rfl, HGF.out, HW.out⟩
end Go.Proofs.YtpgbjnenllfmlaaGreatDoor
/-! Shares in which something is changed: memory. -/
namespace Go.Proofs.YtpgbjnenllfmlaaGreatDoor
open Go.RowKit Go.Sort
open Num
set_option linter.unusedVariables false

/-- A row of shares that may be written, with values of its own that lie apart. -/
structure OddS (w : World) (base q n : Nat) (Z : Nat → Int × Value) (L : List Shr) : Prop where
  len : L.length = n
  row : RowS w q n Z
  hold : ∀ i, i < n → (Z i).1 = (L.getD i (0, [])).1
  val : ∀ i, i < n → Gath w base (Z i).2 (L.getD i (0, [])).2
  off : ∀ i, i < n → ∀ g, (Z i).2.ownBlock = some g → g ≠ q
  apart : ∀ i j, i < n → j < n → i ≠ j → ∀ g, (Z i).2.ownBlock = some g → (Z j).2.ownBlock ≠ some g
  lo : base ≤ q
  lt : q < w.heap.size
theorem GathT.odd {w : World} {base lim : Nat} {a : Option Addr} {n c : Nat} {L : List Shr} (h : GathT w base lim (.slice a n c) L) (hn : 0 < n) : ∃ q Z, a = some ⟨q, 0, none⟩ ∧ OddS w base q n Z L := by
  obtain ⟨Z, h1, h2, h3, h4⟩ := h
  obtain ⟨h00, hn' | ⟨g, cap, cur, hv, hb, hg, hr⟩⟩ := id h2
  · simp only [Value.slice.injEq] at hn'
    omega
  · have hcell := World.ownsRow.cells h2 (g := g) (by rw [hv]; rfl)
    have hlt := World.ownsRow.lt h2 g (by rw [hv]; rfl)
    simp only [Value.slice.injEq] at hv
    obtain ⟨rfl, rfl, rfl⟩ := hv
    have hfz := World.ownsRow.frozenAt h2
    have had : ∀ j, (⟨g, 0, none⟩ : Addr).add j = ⟨g, j, none⟩ := fun j => by unfold Addr.add; split <;> simp_all
    refine ⟨g, fun i => Z.getD i (0, undef), rfl, rfl, fun i hi => ?_, fun i hi => (h3 i hi).1, fun i hi => (h3 i hi).2.1, fun i hi q hq e => ((h3 i hi).2.2 q hq).1 (by rw [e]; rfl), fun i j hi hj hne q hq e => ?_, hb, hlt.2⟩
    · obtain ⟨f1, f2⟩ := flatZ_get Z i (by omega)
      have c1 := hcell _ _ f1
      have c2 := hcell _ _ f2
      rw [had] at c1 c2
      exact ⟨c1, c2, hfz _, hfz _⟩
    · rcases Nat.lt_or_gt_of_ne hne with h | h
      · exact h4 i j h hj q hq e
      · exact h4 j i h hi q e hq
theorem OddS.kept {w w' : World} {base q n : Nat} {Z : Nat → Int × Value} {L : List Shr} {row : Option Nat} (h : OddS w base q n Z L) (k : w.grownBy w' row) (hr : ∀ g, row = some g → g < base ∨ w.heap.size ≤ g) : OddS w' base q n Z L := by
  refine ⟨h.len, h.row.of_block (k.block q h.lt (fun e => ?_)), h.hold, fun i hi => World.ownsRow.kept (h.val i hi) k ?_, h.off, h.apart, h.lo, Nat.lt_of_lt_of_le h.lt k.size⟩
  · have h1 := h.lo
    have h2 := h.lt
    rcases hr q e.symm with h3 | h3 <;> omega
  · cases e : (Z i).2.ownBlock with
    | none => exact .inl rfl
    | some b =>
      refine .inr fun e2 => ?_
      have h1 := World.ownsRow.lt (h.val i hi) b e
      rcases hr b e2.symm with h3 | h3 <;> omega
theorem OddS.but {w w' : World} {base q n b : Nat} {Z : Nat → Int × Value} {L : List Shr} (h : OddS w base q n Z L) (k : But b w w') (hb : b < base) : OddS w' base q n Z L :=
  h.kept k.grown (fun g e => by simp at e; omega)
theorem OddS.below {w w' : World} {base q n B : Nat} {Z : Nat → Int × Value} {L : List Shr} (h : OddS w base q n Z L) (b : Below B w w') (hB : w.heap.size ≤ B) : OddS w' base q n Z L :=
  h.kept (grownBy_of_below b hB) (fun g e => by cases e)
theorem RowS.set0 {w : World} {q n : Nat} {Z : Nat → Int × Value} (h : RowS w q n Z) {i : Nat} (hi : i < n) (x : Int) : RowS (w.setCell ⟨q, i * 2, none⟩ (.int .i64 x)) q n (fun j => if j = i then (x, (Z i).2) else Z j) := fun j hj => by
  obtain ⟨k0, k1, k2, k3⟩ := h j hj
  refine ⟨?_, ?_, by rw [World.frozen?_setCell]; exact k2, by rw [World.frozen?_setCell]; exact k3⟩
  · dsimp only
    by_cases e : j = i
    · subst e
      rw [if_pos rfl, World.cell?_setCell_same _ _ _ k0]
    · rw [if_neg e, World.cell?_setCell_other _ _ _ _ (by intro e2; simp only [Addr.mk.injEq] at e2; omega)]; exact k0
  · dsimp only
    rw [World.cell?_setCell_other _ _ _ _ (by intro e2; simp only [Addr.mk.injEq] at e2; omega)]
    by_cases e : j = i
    · subst e; rw [if_pos rfl]; exact k1
    · rw [if_neg e]; exact k1
theorem RowS.set1 {w : World} {q n : Nat} {Z : Nat → Int × Value} (h : RowS w q n Z) {i : Nat} (hi : i < n) (x : Value) : RowS (w.setCell ⟨q, i * 2 + 1, none⟩ x) q n (fun j => if j = i then ((Z i).1, x) else Z j) := fun j hj => by
  obtain ⟨k0, k1, k2, k3⟩ := h j hj
  refine ⟨?_, ?_, by rw [World.frozen?_setCell]; exact k2, by rw [World.frozen?_setCell]; exact k3⟩
  · dsimp only
    rw [World.cell?_setCell_other _ _ _ _ (by intro e2; simp only [Addr.mk.injEq] at e2; omega)]
    by_cases e : j = i
    · subst e; rw [if_pos rfl]; exact k0
    · rw [if_neg e]; exact k0
  · dsimp only
    by_cases e : j = i
    · subst e
      rw [if_pos rfl, World.cell?_setCell_same _ _ _ k1]
    · rw [if_neg e, World.cell?_setCell_other _ _ _ _ (by intro e2; simp only [Addr.mk.injEq] at e2; omega)]; exact k1
theorem odd_shares {w : World} {base q n c : Nat} {Z : Nat → Int × Value} {L : List Shr} (hl : L.length = n) (hn : n ≤ 1000) (hc : n ≤ c) (hc2 : c ≤ 9223372036854775807) (hq : base ≤ q) (hr : RowS w q n Z) (hv : ∀ i, i < n → (Z i).1 = (L.getD i (0, [])).1 ∧ Ints w (Z i).2 (L.getD i (0, [])).2 ∧ ∀ g, (Z i).2.ownBlock = some g → base ≤ g) :
    SharesN w base (.slice (some ⟨q, 0, none⟩) n c) L := by
  subst hl
  refine ⟨_, c, rfl, hn, hc, hc2, fun _ => ⟨q, 0, rfl, hq, fun i hi => ?_⟩⟩
  obtain ⟨k0, k1, _, _⟩ := hr i hi
  obtain ⟨e1, e2, e3⟩ := hv i hi
  rw [Nat.zero_add]
  exact ⟨_, by rw [← e1]; exact k0, k1, e2, e3⟩
theorem set_getD {L : List Shr} {i : Nat} (x : Shr) (hi : i < L.length) (j : Nat) : (L.set i x).getD j (0, []) = if j = i then x else L.getD j (0, []) := by
  by_cases e : j = i
  · subst e; rw [if_pos rfl]; simp [List.getD, hi]
  · rw [if_neg e]; simp [List.getD, Ne.symm e]
theorem OddS.plain {w : World} {base q n c : Nat} {Z : Nat → Int × Value} {L : List Shr} (h : OddS w base q n Z L) (hn : n ≤ 1000) (hc : n ≤ c) (hc2 : c ≤ 9223372036854775807) (hl : ∀ s ∈ L, s.2.length ≤ 140737488355328) : SharesN w base (.slice (some ⟨q, 0, none⟩) n c) L :=
  odd_shares h.len hn hc hc2 h.lo h.row fun i hi => ⟨h.hold i hi, (h.val i hi).reads (hl _ (by rw [List.getD_eq_getElem?_getD, List.getElem?_eq_getElem (by rw [h.len]; exact hi)]; exact List.getElem_mem _)), fun g hg => (World.ownsRow.lt (h.val i hi) g hg).1⟩
theorem OddS.bound {w : World} {base q n : Nat} {Z : Nat → Int × Value} {L : List Shr} (h : OddS w base q n Z L) {M : Nat} (hl : ∀ s ∈ L, s.2.length ≤ M) {i : Nat} (hi : i < n) : (L.getD i (0, [])).2.length ≤ M :=
  hl _ (by rw [List.getD_eq_getElem?_getD, List.getElem?_eq_getElem (by rw [h.len]; exact hi)]; exact List.getElem_mem _)
/-- Another holder. -/
theorem OddS.one {w : World} {base q n c : Nat} {Z : Nat → Int × Value} {L : List Shr} (h : OddS w base q n Z L) (hn : n ≤ 1000) (hc : n ≤ c) (hc2 : c ≤ 9223372036854775807) (hl : ∀ s ∈ L, s.2.length ≤ 140737488355328) {i : Nat} (hi : i < n) (x : Int) : SharesN (w.setCell ⟨q, i * 2, none⟩ (.int .i64 x)) base (.slice (some ⟨q, 0, none⟩) n c) (L.set i (x, (L.getD i (0, [])).2)) := by
  refine odd_shares (by rw [List.length_set]; exact h.len) hn hc hc2 h.lo (h.row.set0 hi x) fun j hj => ?_
  have hI := (h.val j hj).reads (h.bound hl hj)
  have hI2 := hI.but (But.set w ⟨q, i * 2, none⟩ (.int .i64 x)) (h.off j hj)
  have hb := fun g hg => (World.ownsRow.lt (h.val j hj) g hg).1
  rw [set_getD _ (by rw [h.len]; exact hi)]
  by_cases e : j = i
  · subst e; rw [if_pos rfl, if_pos rfl]; exact ⟨rfl, hI2, hb⟩
  · rw [if_neg e, if_neg e]; exact ⟨h.hold j hj, hI2, hb⟩
/-- Other values. -/
theorem OddS.two {w w' : World} {base q n c : Nat} {Z : Nat → Int × Value} {L : List Shr} (h : OddS w base q n Z L) (hn : n ≤ 1000) (hc : n ≤ c) (hc2 : c ≤ 9223372036854775807) (hl : ∀ s ∈ L, s.2.length ≤ 140737488355328) {i : Nat} (hi : i < n) (k : w.grownBy w' (Z i).2.ownBlock) {v : Value} {l : List Int} (hv : Ints w' v l) (hb : ∀ g, v.ownBlock = some g → base ≤ g ∧ g ≠ q) :
    SharesN (w'.setCell ⟨q, i * 2 + 1, none⟩ v) base (.slice (some ⟨q, 0, none⟩) n c) (L.set i ((L.getD i (0, [])).1, l)) := by
  have hrow : RowS w' q n Z := h.row.of_block (k.block q h.lt fun e => h.off i hi q e.symm rfl)
  refine odd_shares (by rw [List.length_set]; exact h.len) hn hc hc2 h.lo (hrow.set1 hi v) fun j hj => ?_
  rw [set_getD _ (by rw [h.len]; exact hi)]
  by_cases e : j = i
  · subst e; rw [if_pos rfl, if_pos rfl]
    exact ⟨h.hold j hj, hv.but (But.set w' ⟨q, j * 2 + 1, none⟩ v) (fun g hg => (hb g hg).2), fun g hg => (hb g hg).1⟩
  · rw [if_neg e, if_neg e]
    have hI := (h.val j hj).reads (h.bound hl hj)
    have hI2 := hI.grown k fun g hg e2 => h.apart i j hi hj (Ne.symm e) g e2 hg
    exact ⟨h.hold j hj, hI2.but (But.set w' ⟨q, i * 2 + 1, none⟩ v) (h.off j hj), fun g hg => (World.ownsRow.lt (h.val j hj) g hg).1⟩
/-- Another value. -/
theorem OddS.four {w : World} {base q n c gv : Nat} {Z : Nat → Int × Value} {L : List Shr} (h : OddS w base q n Z L) (hn : n ≤ 1000) (hc : n ≤ c) (hc2 : c ≤ 9223372036854775807) (hl : ∀ s ∈ L, s.2.length ≤ 140737488355328) {i : Nat} (hi : i < n) {m cv : Nat} (hz : (Z i).2 = .slice (some ⟨gv, 0, none⟩) m cv) (x : Int) :
    SharesN (w.setCell ⟨gv, 0, none⟩ (.int .i64 x)) base (.slice (some ⟨q, 0, none⟩) n c) (L.set i ((L.getD i (0, [])).1, (L.getD i (0, [])).2.set 0 x)) := by
  have hne : gv ≠ q := h.off i hi gv (by rw [hz]; rfl)
  refine odd_shares (by rw [List.length_set]; exact h.len) hn hc hc2 h.lo (h.row.of_block (blk_other _ _ _ _ (Ne.symm hne))) fun j hj => ?_
  rw [set_getD _ (by rw [h.len]; exact hi)]
  have hb := fun g hg => (World.ownsRow.lt (h.val j hj) g hg).1
  by_cases e : j = i
  · subst e; rw [if_pos rfl]
    have h1 := h.val j hj
    rw [hz] at h1
    have h2 := h1.set 0 x
    rw [hz]
    rw [hz] at hb
    exact ⟨h.hold j hj, h2.reads (by rw [List.length_set]; exact h.bound hl hj), hb⟩
  · rw [if_neg e]
    have hI := (h.val j hj).reads (h.bound hl hj)
    exact ⟨h.hold j hj, hI.but (But.set w ⟨gv, 0, none⟩ (.int .i64 x)) (fun g hg e2 => h.apart i j hi hj (Ne.symm e) g (by rw [hz, e2]; rfl) hg), hb⟩
/-! Room: the block of a slice of shares is all there, and the values lie elsewhere, so that another list can be appended. -/
def RoomQ (w : World) (q c : Nat) : Prop := ∃ cur, w.heap[q]? = some (.cells cur 42 (0, 0)) ∧ cur.size = c * 2
def RoomS (w : World) (base : Nat) (v : Value) (m : Nat) : Prop := (v = .slice none 0 0 ∧ m = 0) ∨ ∃ q c, v = .slice (some ⟨q, 0, none⟩) m c ∧ base ≤ q ∧ RoomQ w q c ∧ m ≤ c ∧ c ≤ 9223372036854775807 ∧ ∀ i, i < m → ∀ z, w.cell? ⟨q, i * 2 + 1, none⟩ = some z → z.ownBlock ≠ some q
def SharesO (w : World) (base : Nat) (v : Value) (L : List Shr) : Prop := SharesN w base v L ∧ RoomS w base v L.length
theorem RoomQ.block {w w' : World} {q c : Nat} (h : RoomQ w q c) (e : w'.heap[q]? = w.heap[q]?) : RoomQ w' q c := by
  obtain ⟨cur, h1, h2⟩ := h
  exact ⟨cur, by rw [e]; exact h1, h2⟩
theorem RoomQ.set {w : World} {q c : Nat} (h : RoomQ w q c) (b o : Nat) (v : Value) : RoomQ (w.setCell ⟨b, o, none⟩ v) q c := by
  by_cases e : q = b
  · subst e
    obtain ⟨cur, h1, h2⟩ := h
    exact ⟨_, heap_setCell_same w q o cur _ v h1, by simpa using h2⟩
  · exact h.block (Below.heap_setCell w ⟨b, o, none⟩ v q e)
/-- A row of shares that may be written, and all of its block. -/
structure OddC (w : World) (base q n c : Nat) (Z : Nat → Int × Value) (L : List Shr) : Prop extends OddS w base q n Z L where
  rm : RoomQ w q c
section
variable {w w' : World} {base q n c : Nat} {Z : Nat → Int × Value} {L : List Shr}
theorem GathT.oddC {lim : Nat} {a : Option Addr} (h : GathT w base lim (.slice a n c) L) (hn : 0 < n) : ∃ q Z, a = some ⟨q, 0, none⟩ ∧ OddC w base q n c Z L := by
  obtain ⟨q, Z, rfl, h1⟩ := h.odd hn
  refine ⟨q, Z, rfl, h1, ?_⟩
  obtain ⟨Z', k1, k2, k3, k4⟩ := h
  rcases k2.2 with ⟨hv, _⟩ | ⟨g, cap, cur, hv, hb, hg, h1, h2, h3, h4⟩
  · cases hv
  · simp only [Value.slice.injEq, Option.some.injEq, Addr.mk.injEq, and_true] at hv
    obtain ⟨rfl, _, rfl⟩ := hv
    exact ⟨cur, hg, h3⟩
theorem GathT.roomO {lim : Nat} {v : Value} (h : GathT w base lim v []) (hn : SharesN w base v []) : SharesO w base v [] := by
  refine ⟨hn, ?_⟩
  obtain ⟨Z', k1, k2, k3, k4⟩ := h
  rcases k2.2 with ⟨hv, _⟩ | ⟨g, cap, cur, hv, hb, hg, h1, h2, h3, h4⟩
  · exact .inl ⟨hv, rfl⟩
  · exact .inr ⟨g, cap, hv, hb, ⟨cur, hg, h3⟩, h1, h2, fun i hi => absurd hi (by simp)⟩
theorem GathS.roomO {v : Value} (h : GathS w base v L) (hn : SharesN w base v L) : SharesO w base v L := by
  refine ⟨hn, ?_⟩
  obtain ⟨Z', k1, k2, k3⟩ := h
  rcases id k2.2 with ⟨hv, h0⟩ | ⟨g, cap, cur, hv, hb, hg, h1, h2, h3, h4⟩
  · exact .inl ⟨hv, h0⟩
  · refine .inr ⟨g, cap, hv, hb, ⟨cur, hg, h3⟩, h1, h2, fun i hi z hz e => ?_⟩
    have hcell := World.ownsRow.cells k2 (g := g) (by rw [hv]; rfl)
    have had : ∀ j, (⟨g, 0, none⟩ : Addr).add j = ⟨g, j, none⟩ := fun j => by unfold Addr.add; split <;> simp_all
    obtain ⟨f1, f2⟩ := flatZ_get Z' i (by omega)
    have c2 := hcell _ _ f2
    rw [had, hz] at c2
    have c3 := Option.some.inj c2
    subst c3
    have h5 := (k3 i hi).2.2 g e
    exact h5.2.2 (by rw [hv]; rfl)
theorem OddC.roomS (h : OddC w base q n c Z L) (hc : n ≤ c) (hc2 : c ≤ 9223372036854775807) : RoomS w base (.slice (some ⟨q, 0, none⟩) n c) n := .inr ⟨q, c, rfl, h.lo, h.rm, hc, hc2, fun i hi z hz e => by
  have h1 := (h.row i hi).2.1
  rw [hz] at h1
  have h2 := Option.some.inj h1
  subst h2
  exact h.off i hi q e rfl⟩
theorem OddC.but {b : Nat} (h : OddC w base q n c Z L) (k : But b w w') (hb : b < base) : OddC w' base q n c Z L :=
  ⟨h.toOddS.but k hb, h.rm.block (k.grown.block q h.lt (fun e => by have := Option.some.inj e; have := h.lo; omega))⟩
theorem OddC.below {B : Nat} (h : OddC w base q n c Z L) (b : Below B w w') (hB : w.heap.size ≤ B) : OddC w' base q n c Z L :=
  ⟨h.toOddS.below b hB, h.rm.block ((grownBy_of_below b hB).block q h.lt (fun e => by cases e))⟩
theorem OddC.alloc (h : OddC w base q n c Z L) (o : Obj) : OddC (w.alloc o) base q n c Z L :=
  h.below ((Below.refl _ _).alloc (Nat.le_refl _) o) (Nat.le_refl _)
theorem OddC.plainO (h : OddC w base q n c Z L) (hn : n ≤ 1000) (hc : n ≤ c) (hc2 : c ≤ 9223372036854775807) (hl : ∀ s ∈ L, s.2.length ≤ 140737488355328) : SharesO w base (.slice (some ⟨q, 0, none⟩) n c) L := ⟨h.plain hn hc hc2 hl, by rw [h.len]; exact h.roomS hc hc2⟩
theorem room_of_row {W : World} {Z' : Nat → Int × Value} (hr : RowS W q n Z') (hq : base ≤ q) (hc : n ≤ c) (hc2 : c ≤ 9223372036854775807) (rm : RoomQ W q c) (ho : ∀ i, i < n → (Z' i).2.ownBlock ≠ some q) : RoomS W base (.slice (some ⟨q, 0, none⟩) n c) n := .inr ⟨q, c, rfl, hq, rm, hc, hc2, fun i hi z hz e => by
  have h1 := (hr i hi).2.1
  rw [hz] at h1
  have h2 := Option.some.inj h1
  subst h2
  exact ho i hi e⟩
theorem OddC.oneO (h : OddC w base q n c Z L) (hn : n ≤ 1000) (hc : n ≤ c) (hc2 : c ≤ 9223372036854775807) (hl : ∀ s ∈ L, s.2.length ≤ 140737488355328) {i : Nat} (hi : i < n) (x : Int) : SharesO (w.setCell ⟨q, i * 2, none⟩ (.int .i64 x)) base (.slice (some ⟨q, 0, none⟩) n c) (L.set i (x, (L.getD i (0, [])).2)) :=
  ⟨h.one hn hc hc2 hl hi x, by
    rw [List.length_set, h.len]
    refine room_of_row (h.row.set0 hi x) h.lo hc hc2 (h.rm.set _ _ _) fun j hj e => ?_
    by_cases ej : j = i
    · subst ej; rw [if_pos rfl] at e; exact h.off j hj q e rfl
    · rw [if_neg ej] at e; exact h.off j hj q e rfl⟩
theorem OddC.twoO (h : OddC w base q n c Z L) (hn : n ≤ 1000) (hc : n ≤ c) (hc2 : c ≤ 9223372036854775807) (hl : ∀ s ∈ L, s.2.length ≤ 140737488355328) {i : Nat} (hi : i < n) (k : w.grownBy w' (Z i).2.ownBlock) {v : Value} {l : List Int} (hv : Ints w' v l) (hb : ∀ g, v.ownBlock = some g → base ≤ g ∧ g ≠ q) :
    SharesO (w'.setCell ⟨q, i * 2 + 1, none⟩ v) base (.slice (some ⟨q, 0, none⟩) n c) (L.set i ((L.getD i (0, [])).1, l)) :=
  ⟨h.two hn hc hc2 hl hi k hv hb, by
    rw [List.length_set, h.len]
    have hblk := k.block q h.lt fun e => h.off i hi q e.symm rfl
    have hrow : RowS w' q n Z := h.row.of_block hblk
    refine room_of_row (hrow.set1 hi v) h.lo hc hc2 ((h.rm.block hblk).set _ _ _) fun j hj e => ?_
    by_cases ej : j = i
    · subst ej; rw [if_pos rfl] at e; exact (hb q e).2 rfl
    · rw [if_neg ej] at e; exact h.off j hj q e rfl⟩
theorem OddC.fourO {gv : Nat} (h : OddC w base q n c Z L) (hn : n ≤ 1000) (hc : n ≤ c) (hc2 : c ≤ 9223372036854775807) (hl : ∀ s ∈ L, s.2.length ≤ 140737488355328) {i : Nat} (hi : i < n) {m cv : Nat} (hz : (Z i).2 = .slice (some ⟨gv, 0, none⟩) m cv) (x : Int) :
    SharesO (w.setCell ⟨gv, 0, none⟩ (.int .i64 x)) base (.slice (some ⟨q, 0, none⟩) n c) (L.set i ((L.getD i (0, [])).1, (L.getD i (0, [])).2.set 0 x)) :=
  ⟨h.four hn hc hc2 hl hi hz x, by
    rw [List.length_set, h.len]
    have hne : gv ≠ q := h.off i hi gv (by rw [hz]; rfl)
    refine room_of_row (h.row.of_block (blk_other _ _ _ _ (Ne.symm hne))) h.lo hc hc2 (h.rm.set _ _ _) fun j hj e => h.off j hj q e rfl⟩
end
/-- 'append(v, raw...)': all the shares of another, older list behind those of a list that is the call's own. -/
theorem run_append_shares {W0 W : World} {B : Nat} {v sv : Value} {L R : List Shr} (hown : SharesO W B v L) (hR : Shares W0 sv R) (h0 : W0.heap.size ≤ B) (hb0 : Below W0.heap.size W0 W) (hlen : L.length + R.length ≤ 1000) (hB : B ≤ W.heap.size) (ty : TypeId) :
    ∃ v' W', (Builtin.append_ #[23, 23] ty #[v, sv]).run Tryz.prog W = .ok v' W' ∧ Shares W' v' (L ++ R) ∧ Below B W W' := by
  obtain ⟨hN, hroom⟩ := hown
  have had : ∀ (g o j : Nat), (⟨g, o, none⟩ : Addr).add j = ⟨g, o + j, none⟩ := fun g o j => by unfold Addr.add; split <;> simp_all
  obtain ⟨i0, hi, hz0, hz1, hz2⟩ := info_parts infoShare
  -- the row that v is
  have hx : ∃ xs, W.ownsRow B 42 2 v L.length xs := by
    rcases hroom with ⟨rfl, h⟩ | ⟨q, c, rfl, hq, ⟨cur, h1, h2⟩, h3, h4, h5⟩
    · rw [h]; exact ⟨[], World.ownsRow_nil _ _ _ _⟩
    · have h6 : L.length * 2 ≤ c * 2 := Nat.mul_le_mul_right _ h3
      exact ⟨cur.toList.take (L.length * 2), by have e : cur.toList.length = c * 2 := (by simpa using h2); rw [List.length_take]; omega, .inr ⟨q, c, cur, rfl, hq, h1, h3, by simpa [maxLen] using h4, h2, rfl⟩⟩
  obtain ⟨xs, hxs⟩ := hx
  have hRW := hR.below (Nat.le_refl _) hb0
  obtain ⟨aa, cR, rfl, hR1, hR2, hR3, hRc⟩ := hRW
  obtain ⟨a0, c0, hv0, hN1, hN2, hN3, hNc⟩ := id hN
  -- what an answer must be
  have key : ∀ v' W' news, news.length = R.length * 2 → W'.ownsRow B 42 2 v' (L.length + R.length) (xs ++ news) → W.grownBy W' v.ownBlock →
      (∀ i, i < R.length → ∃ z, news[i * 2]? = some (.int .i64 (R.getD i (0, [])).1) ∧ news[i * 2 + 1]? = some z ∧ Ints W0 z (R.getD i (0, [])).2) → Shares W' v' (L ++ R) ∧ Below B W W' := by
    intro v' W' news hnl hown' hgr hnews
    have hbl : Below B W W' := (Below.refl B W).grown hgr hB fun g hg => (World.ownsRow.lt hxs g hg).1
    refine ⟨?_, hbl⟩
    rcases id hown'.2 with ⟨hv, hz⟩ | ⟨g, cap, cur, hv, hb, hg, hr1, hr2, hr3⟩
    · have : L ++ R = [] := by
        have h1 : L = [] := List.eq_nil_of_length_eq_zero (by omega)
        have h2 : R = [] := List.eq_nil_of_length_eq_zero (by omega)
        rw [h1, h2]; rfl
      rw [this, hv]
      exact shares_nil _
    · have hcell := World.ownsRow.cells hown' (g := g) (by rw [hv]; rfl)
      refine ⟨_, cap, by rw [List.length_append]; exact hv, by rw [List.length_append]; omega, by rw [List.length_append]; omega, by simpa [maxLen] using hr2, fun hne => ⟨g, 0, rfl, fun i hi => ?_⟩⟩
      rw [List.length_append] at hi
      rw [Nat.zero_add]
      have hxl := hxs.1
      by_cases hlt : i < L.length
      · obtain ⟨b, off, e, hbb, hcs⟩ := hNc (fun e => by rw [e] at hlt; simp at hlt)
        obtain ⟨z, k0, k1, k2, k3⟩ := hcs i hlt
        rcases hroom with ⟨hn1, hn2⟩ | ⟨q, c, hq1, hq, ⟨cur0, h1, h2⟩, h3, h4, h5⟩
        · omega
        · rw [hq1] at hv0
          simp only [Value.slice.injEq] at hv0
          obtain ⟨hv1, _, _⟩ := hv0
          rw [e] at hv1
          simp only [Option.some.injEq, Addr.mk.injEq, and_true] at hv1
          obtain ⟨rfl, rfl⟩ := hv1
          rw [Nat.zero_add] at k0 k1
          have hold := World.ownsRow.cells hxs (g := q) (by rw [hq1]; rfl)
          have f0 : xs[i * 2]? = some (xs[i * 2]'(by omega)) := List.getElem?_eq_getElem _
          have f1 : xs[i * 2 + 1]? = some (xs[i * 2 + 1]'(by omega)) := List.getElem?_eq_getElem _
          have g0 := hold _ _ f0
          have g1 := hold _ _ f1
          rw [had, Nat.zero_add] at g0 g1
          rw [k0] at g0
          rw [k1] at g1
          have n0 := hcell (i * 2) _ (by rw [List.getElem?_append_left (by omega)]; exact f0)
          have n1 := hcell (i * 2 + 1) _ (by rw [List.getElem?_append_left (by omega)]; exact f1)
          rw [had, Nat.zero_add] at n0 n1
          have e2 : (L ++ R).getD i (0, []) = L.getD i (0, []) := by simp [List.getD, List.getElem?_append, hlt]
          rw [e2]
          refine ⟨z, by rw [n0, ← g0], by rw [n1, ← g1], k2.grown hgr fun g' hg' e3 => ?_⟩
          rw [hq1] at e3
          simp [Value.ownBlock] at e3
          exact h5 i hlt z k1 (by rw [hg', e3])
      · obtain ⟨z, k0, k1, k2⟩ := hnews (i - L.length) (by omega)
        have n0 := hcell (i * 2) _ (by rw [List.getElem?_append_right (by omega), show i * 2 - xs.length = (i - L.length) * 2 by omega]; exact k0)
        have n1 := hcell (i * 2 + 1) _ (by rw [List.getElem?_append_right (by omega), show i * 2 + 1 - xs.length = (i - L.length) * 2 + 1 by omega]; exact k1)
        rw [had, Nat.zero_add] at n0 n1
        have e2 : (L ++ R).getD i (0, []) = R.getD (i - L.length) (0, []) := by simp [List.getD, List.getElem?_append, hlt]
        rw [e2]
        exact ⟨z, n0, n1, k2.below (Nat.le_refl _) (hb0.trans (hbl.mono h0))⟩
  cases aa with
  | none =>
    have hl : R = [] := by
      by_cases e : R = []
      · exact e
      · obtain ⟨b, off, h1, _⟩ := hRc e; cases h1
    subst hl
    have hk := key v W [] rfl (by simpa using hxs) (World.grownBy.refl W _) (fun i hi => absurd hi (by simp))
    refine ⟨v, W, ?_, hk⟩
    rcases id hxs.2 with ⟨rfl, _⟩ | ⟨g, cap, cur, rfl, _, _, h1, _⟩
    · simp [Builtin.append_, run_underlying Tryz.underlying23, sizeOf, typeInfo, hi, Builtin.lenOf, Builtin.firstCells]
    · simp [Builtin.append_, run_underlying Tryz.underlying23, sizeOf, typeInfo, hi, Builtin.lenOf, Builtin.firstCells, h1, storeCells]
  | some ad =>
    obtain ⟨a1, c1, ha1, _, _, _, hRc0⟩ := id hR
    simp only [Value.slice.injEq, true_and] at ha1
    obtain ⟨rfl, rfl⟩ := ha1
    let Z : List (Int × Value) := (List.range R.length).map fun i => ((R.getD i (0, [])).1, (W0.cell? (ad.add (i * 2 + 1))).getD undef)
    have hZl : Z.length = R.length := by simp [Z]
    have hZg : ∀ i, i < R.length → ∃ z, (flatZ Z)[i * 2]? = some (.int .i64 (R.getD i (0, [])).1) ∧ (flatZ Z)[i * 2 + 1]? = some z ∧ Ints W0 z (R.getD i (0, [])).2 ∧ W.cell? (ad.add (i * 2)) = some (.int .i64 (R.getD i (0, [])).1) ∧ W.cell? (ad.add (i * 2 + 1)) = some z := fun i hi => by
      obtain ⟨f1, f2⟩ := flatZ_get Z i (by omega)
      obtain ⟨b, off, e, hc⟩ := hRc0 (fun e => by rw [e] at hi; simp at hi)
      cases e
      obtain ⟨z, k0, k1, k2⟩ := hc i hi
      have e1 : Z.getD i (0, undef) = ((R.getD i (0, [])).1, z) := by
        simp only [Z, List.getD, List.getElem?_map, List.getElem?_range hi, Option.map_some, Option.getD_some]
        rw [had, show off + (i * 2 + 1) = off + i * 2 + 1 by omega, k1]
        rfl
      rw [e1] at f1 f2
      refine ⟨z, f1, f2, k2, ?_, ?_⟩
      · rw [had, hb0.cell (p := ⟨b, off + i * 2, none⟩) (cell_lt k0)]; exact k0
      · rw [had, show off + (i * 2 + 1) = off + i * 2 + 1 by omega, hb0.cell (p := ⟨b, off + i * 2 + 1, none⟩) (cell_lt k1)]; exact k1
    have hfl : (flatZ Z).length = R.length * 2 := by rw [flatZ_len, hZl]
    obtain ⟨v', W', h1, h2, h3, _⟩ := run_append_own_at (P := Tryz.prog) W B 23 ty 42 i0 (.agg #[.int .i64 0, .slice none 0 0]) 2 32 Tryz.underlying23 hi hz0 hz1 hz2 rfl (by decide) v L.length xs hxs ad R.length cR (flatZ Z) hfl (by
      intro j u hj
      have hjl : j < R.length * 2 := by
        by_cases e : j < (flatZ Z).length
        · omega
        · rw [List.getElem?_eq_none (by omega)] at hj; cases hj
      obtain ⟨z, f1, f2, _, f3, f4⟩ := hZg (j / 2) (by omega)
      rcases Nat.mod_two_eq_zero_or_one j with hm | hm
      · have e : j / 2 * 2 = j := by omega
        rw [e] at f1 f3
        rw [f1] at hj; rw [f3]; exact hj
      · have e : j / 2 * 2 + 1 = j := by omega
        rw [e] at f2 f4
        rw [f2] at hj; rw [f4]; exact hj) (by
      intro u hu
      obtain ⟨j, hj, rfl⟩ := List.getElem_of_mem hu
      obtain ⟨z, f1, f2, f3, _, _⟩ := hZg (j / 2) (by omega)
      rcases Nat.mod_two_eq_zero_or_one j with hm | hm
      · have e : j / 2 * 2 = j := by omega
        rw [e, List.getElem?_eq_getElem hj] at f1
        rw [Option.some.inj f1]; rfl
      · have e : j / 2 * 2 + 1 = j := by omega
        rw [e, List.getElem?_eq_getElem hj] at f2
        rw [Option.some.inj f2]
        obtain ⟨_, _, rfl⟩ := f3.shape
        rfl) (by unfold maxLen; omega) (by omega) hB
    exact ⟨v', W', h1, key v' W' (flatZ Z) hfl h2 h3 fun i hi => by
      obtain ⟨z, f1, f2, f3, _, _⟩ := hZg i hi
      exact ⟨z, f1, f2, f3⟩⟩
end Go.Proofs.YtpgbjnenllfmlaaGreatDoor
