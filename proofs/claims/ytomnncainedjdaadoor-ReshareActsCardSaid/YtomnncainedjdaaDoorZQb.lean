
/- The document's answer for layer 9: Join. -/
import Derived.Test.YtomnncainedjdaaDoorZQa
import Derived.Test.YtomnncainedjdaaDoorZPr4
import Derived.Lib.QuietBelow
import Derived.BigQuiet
namespace Go.Proofs.YtomnncainedjdaaDoor
open Go.RowKit Go.Sort
open Num
set_option linter.unusedVariables false
set_option linter.unusedSimpArgs false

theorem diffP_snoc {n x : Int} {l : List Int} (h : diffP n l) (h1 : 1 ≤ x ∧ x ≤ n) (h2 : ¬ x ∈ l) : diffP n (l ++ [x]) := by
  refine ⟨fun y hy => ?_, ?_⟩
  · rcases List.mem_append.1 hy with h3 | h3
    · exact h.1 y h3
    · rw [List.mem_singleton.1 h3]; exact h1
  · rw [List.nodup_append]
    exact ⟨h.2, by simp, fun a ha b hb e => h2 (by rw [← List.mem_singleton.1 hb, ← e]; exact ha)⟩
theorem take_snoc {l : List Int} {t : Nat} (ht : t < l.length) : l.take (t + 1) = l.take t ++ [l.getD t 0] := by
  rw [List.take_add_one, List.getElem?_eq_getElem ht]
  simp [List.getD, ht]
/-- A value of the sum, behind so many parts. -/
def sF (p : Int) (xs : List Int) (L : List Shr) (t x : Nat) : Int := sumTo (fun b => wt p xs 0 b * (L.getD b (0, [])).2.getD x 0) t % p
theorem sF_zero (p : Int) (xs : List Int) (L : List Shr) (x : Nat) : sF p xs L 0 x = 0 := by unfold sF sumTo; exact Int.zero_emod p
theorem sF_step (p : Int) (xs : List Int) (L : List Shr) (t x : Nat) : (sF p xs L t x + wt p xs 0 t * (L.getD t (0, [])).2.getD x 0) % p = sF p xs L (t + 1) x := by
  show (sumTo (fun b => wt p xs 0 b * (L.getD b (0, [])).2.getD x 0) t % p + _) % p = (sumTo (fun b => wt p xs 0 b * (L.getD b (0, [])).2.getD x 0) t + wt p xs 0 t * (L.getD t (0, [])).2.getD x 0) % p
  rw [Int.emod_add_emod]
theorem sF_el {p : Int} (hp : 1 ≤ p) (xs : List Int) (L : List Shr) (t x : Nat) : El p (sF p xs L t x) := el_mod hp _
def mF (p : Int) (xs : List Int) (L : List Shr) (t j x : Nat) : Int := if x < j then sF p xs L (t + 1) x else sF p xs L t x
/-- What Join keeps while it sums. -/
structure JnW (w0 W : World) (g gv c m : Nat) (p k n k2 n2 h : Int) (vw : Value) (wl : List Int) (F : Nat → Int) : Prop where
  jw : JoW w0 W g p k n p k2 n2
  wt : Gath W (g + 1 + 1 + 1) vw wl
  wn : ∀ b, vw.ownBlock = some b → b ≠ gv
  row : W.rowIs gv 3 m (fun j => .int .i64 (F j))
  out : ShAt W c h (.slice (some ⟨gv, 0, none⟩) m m)
  ne : c ≠ gv
  lt : g + 1 + 1 < gv ∧ g + 1 + 1 < c
section
variable {w0 W W' : World} {g gv c m : Nat} {p k n k2 n2 h : Int} {vw : Value} {wl : List Int} {F : Nat → Int}
theorem JnW.below (x : JnW w0 W g gv c m p k n k2 n2 h vw wl F) (b : Below W.heap.size W W') : JnW w0 W' g gv c m p k n k2 n2 h vw wl F :=
  ⟨x.jw.below b, x.wt.kept b (Nat.le_refl _), x.wn, x.row.of_block (b.block _ x.row.lt), x.out.below b x.out.lt, x.ne, x.lt⟩
theorem JnW.congr (x : JnW w0 W g gv c m p k n k2 n2 h vw wl F) {F' : Nat → Int} (e : ∀ j, j < m → F j = F' j) : JnW w0 W g gv c m p k n k2 n2 h vw wl F' :=
  ⟨x.jw, x.wt, x.wn, x.row.congr fun j hj => by rw [e j hj], x.out, x.ne, x.lt⟩
theorem JnW.set (x : JnW w0 W g gv c m p k n k2 n2 h vw wl F) (j : Nat) (v : Int) : JnW w0 (W.setCell ⟨gv, j, none⟩ (.int .i64 v)) g gv c m p k n k2 n2 h vw wl (fun i => if i = j then v else F i) := by
  have b : Below gv W (W.setCell ⟨gv, j, none⟩ (.int .i64 v)) := set1_below _ _ _ (Nat.le_refl _)
  have bt : W.grownBy (W.setCell ⟨gv, j, none⟩ (.int .i64 v)) (some gv) := (But.set W ⟨gv, j, none⟩ _).grown
  have h1 := x.lt
  refine ⟨⟨x.jw.pl.keep b (by omega), x.jw.rs.below b (by omega)⟩, gath_kept_row x.wt bt fun q hq e => x.wn q hq (Option.some.inj e).symm, x.wn, (x.row.set j _).congr fun i _ => by split <;> rfl, x.out.grown bt fun e => x.ne (Option.some.inj e).symm, x.ne, x.lt⟩
theorem jnW_rs (x : JoW w0 W g p k n p k2 n2) (y : Gath W (g + 1 + 1 + 1) vw wl) (t : TypeId) : JnW w0 ((W.alloc (.cells (madeCells #[.int .i64 0] m) 3)).alloc (.cells #[.int .i64 h, .slice (some ⟨W.heap.size, 0, none⟩) m m] t)) g W.heap.size (W.heap.size + 1) m p k n k2 n2 h vw wl (fun _ => 0) := by
  have b1 : Below W.heap.size W (W.alloc (.cells (madeCells #[.int .i64 0] m) 3)) := (Below.refl _ _).alloc (Nat.le_refl _) _
  have b2 : Below (W.alloc (.cells (madeCells #[.int .i64 0] m) 3)).heap.size (W.alloc (.cells (madeCells #[.int .i64 0] m) 3)) ((W.alloc (.cells (madeCells #[.int .i64 0] m) 3)).alloc (.cells #[.int .i64 h, .slice (some ⟨W.heap.size, 0, none⟩) m m] t)) := (Below.refl _ _).alloc (Nat.le_refl _) _
  have h1 := x.rs.lt
  have e : (W.alloc (.cells (madeCells #[.int .i64 0] m) 3)).heap.size = W.heap.size + 1 := by simp
  have hs := shAt_new (W.alloc (.cells (madeCells #[.int .i64 0] m) 3)) h (.slice (some ⟨W.heap.size, 0, none⟩) m m) t
  rw [e] at hs
  exact ⟨(x.below b1).below b2, (y.kept b1 (Nat.le_refl _)).kept b2 (Nat.le_refl _), fun q hq => by have := (gath_lt y q hq).2; omega, (World.rowIs_made W (.int .i64 0) m 3).alloc _, hs, by omega, by omega, by omega⟩
theorem jnW_sr (x : JoW w0 W g p k n p k2 n2) (y : Gath W (g + 1 + 1 + 1) vw wl) (t : TypeId) : JnW w0 ((W.alloc (.cells #[.int .i64 h, .slice (some ⟨W.heap.size + 1, 0, none⟩) m m] t)).alloc (.cells (madeCells #[.int .i64 0] m) 3)) g (W.heap.size + 1) W.heap.size m p k n k2 n2 h vw wl (fun _ => 0) := by
  have b1 : Below W.heap.size W (W.alloc (.cells #[.int .i64 h, .slice (some ⟨W.heap.size + 1, 0, none⟩) m m] t)) := (Below.refl _ _).alloc (Nat.le_refl _) _
  have b2 : Below (W.alloc (.cells #[.int .i64 h, .slice (some ⟨W.heap.size + 1, 0, none⟩) m m] t)).heap.size (W.alloc (.cells #[.int .i64 h, .slice (some ⟨W.heap.size + 1, 0, none⟩) m m] t)) ((W.alloc (.cells #[.int .i64 h, .slice (some ⟨W.heap.size + 1, 0, none⟩) m m] t)).alloc (.cells (madeCells #[.int .i64 0] m) 3)) := (Below.refl _ _).alloc (Nat.le_refl _) _
  have h1 := x.rs.lt
  have e : (W.alloc (.cells #[.int .i64 h, .slice (some ⟨W.heap.size + 1, 0, none⟩) m m] t)).heap.size = W.heap.size + 1 := by simp
  have hr := World.rowIs_made (W.alloc (.cells #[.int .i64 h, .slice (some ⟨W.heap.size + 1, 0, none⟩) m m] t)) (.int .i64 0) m 3
  rw [e] at hr
  have hs := shAt_new W h (.slice (some ⟨W.heap.size + 1, 0, none⟩) m m) t
  exact ⟨(x.below b1).below b2, (y.kept b1 (Nat.le_refl _)).kept b2 (Nat.le_refl _), fun q hq => by have := (gath_lt y q hq).2; omega, hr, hs.below b2 hs.lt, by omega, by omega, by omega⟩
end
set_option maxRecDepth 100000 in
set_option maxHeartbeats 16000000 in
theorem ref9_join_go (p k n k2 n2 : Int) (vf vl : Value) (xs : List Int) (L : List Shr) (w : World) (hw : Wheel w) (hp : (Lit.int .i64 p).wf = true) (hf : Slc w vf xs) (hs : Shares w vl L) (hL : ∀ x ∈ L, x.2.length ≤ 1000000)
    (hrel : relB p k n p k2 n2 = true) (hML : L.length = xs.length) :
    Calls Tryd.prog 24 #[planV p k n, planV p k2 n2, vf, vl] w fun e w' => ∃ v', e = .returned (.tuple #[shareV (joinR p k n p k2 n2 xs L).1 v', .int .i64 (joinE p k n p k2 n2 xs L)]) ∧ Gath w' w.heap.size v' (joinR p k n p k2 n2 xs L).2 ∧ Below w.heap.size w w' := by
  unfold planV shareV
  obtain ⟨af, cf, rfl, hfc, hfb, hI⟩ := id hf
  obtain ⟨al, cl, rfl, hL1, hcl1, hcl2, _⟩ := id hs
  obtain ⟨N, hN⟩ : ∃ N, xs.length = N := ⟨_, rfl⟩
  have hM : L.length = N := by rw [hML, hN]
  obtain ⟨g, hgw⟩ : ∃ g, w.heap.size = g := ⟨_, rfl⟩
  obtain ⟨w1, hw1⟩ : ∃ w1, ((w.alloc (Obj.cells #[Value.int IntKind.i64 p, Value.int IntKind.i64 k, Value.int IntKind.i64 n] 30)).alloc (Obj.cells #[Value.int IntKind.i64 p, Value.int IntKind.i64 k2, Value.int IntKind.i64 n2] 30)).alloc (Obj.cells #[Value.int IntKind.i64 0, .slice none 0 0] 38) = w1 := ⟨_, rfl⟩
  have HA0 : Hid (JoW w w1 g p k n p k2 n2) := by rw [← hw1, ← hgw]; exact joW_new w hw _ _ _ _ _ _ _ _ _
  have hpb1 := (relB_parts hrel).2.1
  have hpb2 := (relB_parts hrel).2.2
  obtain ⟨hprm, hp2, hk1, _, hn16, hnp⟩ := planB_parts hpb1
  have HPL := Lib.hid (fun W (q : JoW w W g p k n p k2 n2) => ref9_plans p k n p k2 n2 W q.pl.wh hp hp)
  unfold planV at HPL
  rw [hrel] at HPL
  have HIF : Hid (∀ W, JoW w W g p k n p k2 n2 → Ints W (.slice af N cf) xs) := fun W q => by have h := hI.below (Nat.le_of_eq hgw) q.pl.be; rwa [hN] at h
  have HSH : Hid (∀ W, JoW w W g p k n p k2 n2 → Shares W (.slice al N cl) L) := fun W q => by have h := hs.below (Nat.le_of_eq hgw) q.pl.be; rwa [hM] at h
  obtain ⟨EJ, hEJ⟩ : ∃ EJ, joinE p k n p k2 n2 xs L = EJ := ⟨_, rfl⟩
  obtain ⟨RJ, hRJ⟩ : ∃ RJ, joinR p k n p k2 n2 xs L = RJ := ⟨_, rfl⟩
  have HND : Hid (¬ diffP n xs → EJ = 1 ∧ RJ = (0, [])) := fun h => by
    have := joinE_no (p := p) (k := k) (n := n) (p2 := p) (k2 := k2) (n2 := n2) (xs := xs) (L := L) fun c => h (diffB_parts c.2.1)
    rwa [hEJ, hRJ] at this
  have HNA : Hid (∀ i, i < N → ¬ alikeAt p n2 L i → EJ = 1 ∧ RJ = (0, [])) := fun i hi h => by
    have := joinE_no (p := p) (k := k) (n := n) (p2 := p) (k2 := k2) (n2 := n2) (xs := xs) (L := L) fun c => h (alikeB_parts c.2.2.2 i (by omega))
    rwa [hEJ, hRJ] at this
  have HFW : Hid (diffP n xs → (∀ i, i < N → alikeAt p n2 L i) → (N : Int) < k → EJ = 5 ∧ RJ = (0, [])) := fun h1 h2 h3 => by
    have := joinE_few (p := p) (k := k) (n := n) (p2 := p) (k2 := k2) (n2 := n2) (xs := xs) (L := L) ⟨hrel, diffB_true h1, hML, alikeB_true fun i hi => h2 i (by omega)⟩ (by rw [hN]; exact h3)
    rwa [hEJ, hRJ] at this
  have HOK : Hid (diffP n xs → (∀ i, i < N → alikeAt p n2 L i) → k ≤ (N : Int) → EJ = 0 ∧ RJ = ((L.getD 0 (0, [])).1, joinL p xs L N)) := fun h1 h2 h3 => by
    have := joinE_ok (p := p) (k := k) (n := n) (p2 := p) (k2 := k2) (n2 := n2) (xs := xs) (L := L) ⟨hrel, diffB_true h1, hML, alikeB_true fun i hi => h2 i (by omega)⟩ (by rw [hN]; exact h3)
    rwa [hEJ, hRJ, hN] at this
  rw [hEJ, hRJ, hgw]
  have HSW : Hid (Shares w (.slice al N cl) L) := by have h := hs; rwa [hM] at h
  have HNN := Lib.hid hN
  have HMM := Lib.hid hM
  have HPQ : Hid (PrmI p ∧ p ≤ 1073741824 ∧ 1 ≤ k ∧ n ≤ 16 ∧ n < p) := ⟨hprm, hp2, hk1, hn16, hnp⟩
  have HLB := Lib.hid hL
  have HPW := Lib.hid hp
  rw [hN] at hfc ⊢
  rw [hM] at hL1 hcl1 ⊢
  have HNL : Hid (N ≤ 1000) := hL1
  have n1 : ((N : Int) != (N : Int)) = false := by simp
  clear hw hp hf hs hL hrel hML hN hM hEJ hRJ hpb1 hpb2 hprm hp2 hk1 hn16 hnp hI
  obtain ⟨p0, p1, p2', q0, q1, q2, r0, r1, f0, f1⟩ := HA0.out.cells
  go_enter Tryd.func24, Tryd.ntmps24
  go_wp2_with fail
  refine (HPL.out w1 HA0.out).mono ?_
  rintro e W1 ⟨rfl, hb⟩
  have HA1 := Lib.hid (HA0.out.below hb)
  clear hb p0 p1 p2' q0 q1 q2 r0 r1 f0 f1
  have HD0 : Hid (diffP n (xs.take 0)) := ⟨fun x hx => by simp at hx, by simp⟩
  clear HPL
  go_wp2_with fail
  go_loopw [10, 11, 13, 37] (fun _ _ _ i wr => ∃ t : Nat, t ≤ N ∧ i = .int .i64 t ∧ Hid (diffP n (xs.take t)) ∧ Hid (JoW w wr g p k n p k2 n2)) (fun _ _ _ i _ => N - (intOf i).toNat)
  case atStart => exact ⟨0, Nat.zero_le _, rfl, HD0, HA1⟩
  case round =>
    obtain ⟨t, ht, rfl, HD, HA⟩ := hrel
    clear HD0 HA1
    obtain ⟨p0, p1, p2', q0, q1, q2, r0, r1, f0, f1⟩ := HA.out.cells
    by_cases hlt : t < N
    · have hltI : (t : Int) < (N : Int) := by omega
      obtain ⟨bf, of, hfe, x0⟩ := (HIF.out wr HA.out).pos hlt
      subst hfe
      obtain ⟨x, hx⟩ : ∃ x, xs.getD t 0 = x := ⟨_, rfl⟩
      rw [hx] at x0
      have hmem : x ∈ xs := by rw [← hx, getD_at (by rw [HNN.out]; exact hlt)]; exact List.getElem_mem _
      by_cases hx1 : x < 1
      · have HBD : Hid (¬ diffP n xs) := fun h => by have := (h.1 x hmem).1; omega
        clear hx hmem
        have hd1 : decide (x < 1) = true := decide_eq_true hx1
        go_wp2_with fail
        have HF : Hid (Below g w ((wr.setCell ⟨g + 1 + 1, 0, none⟩ (.int .i64 0)).setCell ⟨g + 1 + 1, 1, none⟩ (.slice none 0 0))) := HA.out.pl.be.trans ((set1_below _ 0 _ (by omega)).trans (set1_below _ 1 _ (by omega)))
        have hr := (HA.out.rs.set0 0).set (.slice none 0 0)
        clear r0 r1 f0 f1
        generalize (wr.setCell ⟨g + 1 + 1, 0, none⟩ (.int .i64 0)).setCell ⟨g + 1 + 1, 1, none⟩ (.slice none 0 0) = W9 at *
        have r0 := hr.c0
        have r1 := hr.c1
        obtain ⟨e1, e2⟩ := HND.out HBD.out
        refine bodyPost_ret (v := .tuple #[.agg #[.int .i64 0, .slice none 0 0], .int .i64 1]) (by simp [results, Tryd.results24, go_sem, r0, r1]) rfl ?_
        exact ⟨.slice none 0 0, by rw [e1, e2], by rw [e2]; exact gath_nil _ _, HF.out⟩
      · by_cases hx2 : n < x
        · have HBD : Hid (¬ diffP n xs) := fun h => by have := (h.1 x hmem).2; omega
          clear hx hmem
          have hd1 : decide (x < 1) = false := decide_eq_false hx1
          have hd2 : decide (x > n) = true := decide_eq_true hx2
          go_wp2_with fail
          have HF : Hid (Below g w ((wr.setCell ⟨g + 1 + 1, 0, none⟩ (.int .i64 0)).setCell ⟨g + 1 + 1, 1, none⟩ (.slice none 0 0))) := HA.out.pl.be.trans ((set1_below _ 0 _ (by omega)).trans (set1_below _ 1 _ (by omega)))
          have hr := (HA.out.rs.set0 0).set (.slice none 0 0)
          clear r0 r1 f0 f1
          generalize (wr.setCell ⟨g + 1 + 1, 0, none⟩ (.int .i64 0)).setCell ⟨g + 1 + 1, 1, none⟩ (.slice none 0 0) = W9 at *
          have r0 := hr.c0
          have r1 := hr.c1
          obtain ⟨e1, e2⟩ := HND.out HBD.out
          refine bodyPost_ret (v := .tuple #[.agg #[.int .i64 0, .slice none 0 0], .int .i64 1]) (by simp [results, Tryd.results24, go_sem, r0, r1]) rfl ?_
          exact ⟨.slice none 0 0, by rw [e1, e2], by rw [e2]; exact gath_nil _ _, HF.out⟩
        · have hd1 : decide (x < 1) = false := decide_eq_false hx1
          have hd2 : decide (x > n) = false := decide_eq_false hx2
          have hx3 : ¬ x > n := hx2
          have HX := Lib.hid hx
          have HXB : Hid (1 ≤ x ∧ x ≤ n) := ⟨by omega, by omega⟩
          have htc : (t : Int) ≤ (cf : Int) := by omega
          have htc2 : t ≤ cf := by omega
          have HB0 : Hid (∀ a, a < 0 → xs.getD a 0 ≠ x) := fun a ha => by omega
          clear hx hmem
          go_wp2_with fail
          go_loopw [13, 55] (fun _ i wq => ∃ a : Nat, a ≤ t ∧ i = .int .i64 a ∧ Hid (∀ b, b < a → xs.getD b 0 ≠ x) ∧ Hid (JoW w wq g p k n p k2 n2)) (fun _ i _ => t - (intOf i).toNat)
          case atStart => exact ⟨0, Nat.zero_le _, rfl, HB0, HA⟩
          case round =>
            obtain ⟨a, ha, rfl, HNE, HA2⟩ := hrel
            clear HB0
            by_cases hla : a < t
            · have hlaI : (a : Int) < (t : Int) := by omega
              obtain ⟨p0, p1, p2', q0, q1, q2, r0, r1, f0, f1⟩ := HA2.out.cells
              obtain ⟨bf', of', hfe, y0⟩ := (HIF.out wr HA2.out).pos (k := a) (by omega)
              simp only [Option.some.injEq, Addr.mk.injEq, and_true] at hfe
              obtain ⟨rfl, rfl⟩ := hfe
              obtain ⟨y, hy⟩ : ∃ y, xs.getD a 0 = y := ⟨_, rfl⟩
              rw [hy] at y0
              by_cases hyx : y = x
              · subst hyx
                have HBD : Hid (¬ diffP n xs) := fun h => by
                  have h1 := List.nodup_iff_pairwise_ne.1 h.2
                  rw [List.pairwise_iff_getElem] at h1
                  have h2 := h1 a t (by rw [HNN.out]; omega) (by rw [HNN.out]; exact hlt) hla
                  have h3 : xs.getD a 0 = xs.getD t 0 := by rw [hy, HX.out]
                  rw [getD_at (by rw [HNN.out]; omega), getD_at (by rw [HNN.out]; exact hlt)] at h3
                  exact h2 h3
                clear hy
                go_wp2_with fail
                have HF : Hid (Below g w ((wr.setCell ⟨g + 1 + 1, 0, none⟩ (.int .i64 0)).setCell ⟨g + 1 + 1, 1, none⟩ (.slice none 0 0))) := HA2.out.pl.be.trans ((set1_below _ 0 _ (by omega)).trans (set1_below _ 1 _ (by omega)))
                have hr := (HA2.out.rs.set0 0).set (.slice none 0 0)
                clear r0 r1 f0 f1
                generalize (wr.setCell ⟨g + 1 + 1, 0, none⟩ (.int .i64 0)).setCell ⟨g + 1 + 1, 1, none⟩ (.slice none 0 0) = W9 at *
                have r0 := hr.c0
                have r1 := hr.c1
                obtain ⟨e1, e2⟩ := HND.out HBD.out
                refine bodyPost_ret (v := .tuple #[.agg #[.int .i64 0, .slice none 0 0], .int .i64 1]) (by simp [results, Tryd.results24, go_sem, r0, r1]) rfl ?_
                exact ⟨.slice none 0 0, by rw [e1, e2], by rw [e2]; exact gath_nil _ _, HF.out⟩
              · have hyf : (y == x) = false := by simpa using hyx
                have HNE2 : Hid (∀ b, b < a + 1 → xs.getD b 0 ≠ x) := fun b hb => by
                  by_cases e : b < a
                  · exact HNE.out b e
                  · obtain rfl : b = a := by omega
                    rw [hy]; exact hyx
                clear hy
                go_wp2_with fail
                go_roundw
                case rel => exact ⟨a + 1, by omega, by go_num, HNE2, HA2⟩
                case measure => simp [intOf]; omega
            · obtain rfl : a = t := by omega
              have HDN : Hid (diffP n (xs.take (a + 1))) := by
                rw [take_snoc (by rw [HNN.out]; exact hlt), HX.out]
                exact diffP_snoc HD.out HXB.out fun hm => by
                  obtain ⟨b, hb, hbe⟩ := List.mem_iff_getElem.1 hm
                  rw [List.length_take] at hb
                  refine HNE.out b (by omega) ?_
                  rw [List.getElem_take] at hbe
                  rw [getD_at (by rw [HNN.out]; omega)]
                  exact hbe
              have hnl := HNL.out
              go_wp2_with fail
              go_roundw
              case rel => exact ⟨a + 1, by omega, by go_num, HDN, HA2⟩
              case measure => simp [intOf]; omega
    · obtain rfl : t = N := by omega
      have HDF : Hid (diffP n xs) := by have h := HD.out; rwa [List.take_of_length_le (by rw [HNN.out]; exact Nat.le_refl _)] at h
      have HK0 : Hid (∀ i, i < 0 → alikeAt p n2 L i) := fun i hi => by omega
      clear HD
      go_wp2_with fail
      clear p0 p1 p2' q0 q1 q2 r0 r1 f0 f1
      go_loopw [15, 67] (fun _ i wq => ∃ a : Nat, a ≤ t ∧ i = .int .i64 a ∧ Hid (∀ i, i < a → alikeAt p n2 L i) ∧ Hid (JoW w wq g p k n p k2 n2)) (fun _ i _ => t - (intOf i).toNat)
      case atStart => exact ⟨0, Nat.zero_le _, rfl, HK0, HA⟩
      case round =>
        obtain ⟨a, ha, rfl, HK, HA2⟩ := hrel
        clear HK0
        by_cases hla : a < t
        · have hlaI : (a : Int) < (t : Int) := by omega
          have ht0 : (0 : Int) < (t : Int) := by omega
          obtain ⟨bl, ol, vs, hale, c0, c1, hi⟩ := (HSH.out wr HA2.out).at hla
          subst hale
          obtain ⟨bl', ol', v0, hale, z0, z1, hi0⟩ := (HSH.out wr HA2.out).at (i := 0) (by omega)
          simp only [Option.some.injEq, Addr.mk.injEq, and_true] at hale
          obtain ⟨rfl, rfl⟩ := hale
          rw [Nat.zero_mul, Nat.add_zero] at z0 z1
          obtain ⟨⟨h, l⟩, hsh⟩ : ∃ y, L.getD a (0, []) = y := ⟨_, rfl⟩
          obtain ⟨⟨h0, l0⟩, hsh0⟩ : ∃ y, L.getD 0 (0, []) = y := ⟨_, rfl⟩
          rw [hsh] at c0 hi
          rw [hsh0] at z0 hi0
          simp only at c0 hi z0 hi0
          obtain ⟨as', cs, rfl⟩ := hi.shape
          obtain ⟨a0, c0', rfl⟩ := hi0.shape
          have HSS : Hid (L.getD a (0, []) = (h, l) ∧ L.getD 0 (0, []) = (h0, l0)) := ⟨hsh, hsh0⟩
          obtain ⟨gs, hgs⟩ : ∃ gs, wr.heap.size = gs := ⟨_, rfl⟩
          have hal : Below wr.heap.size wr (wr.alloc (.cells #[.int .i64 h, .slice as' l.length cs] 38)) := (Below.refl _ _).alloc (Nat.le_refl _) _
          have HA5 := Lib.hid (HA2.out.below hal)
          have hsa := shAt_new wr h (.slice as' l.length cs) 38
          have hi5 := hi.below (Nat.le_refl _) hal
          have z05 := below_cell hal z0
          have z15 := below_cell hal z1
          rw [hgs] at hsa
          obtain ⟨m, hm⟩ : ∃ m, l.length = m := ⟨_, rfl⟩
          obtain ⟨m0, hm0⟩ : ∃ m, l0.length = m := ⟨_, rfl⟩
          have HSM : Hid (l.length = m ∧ l0.length = m0) := ⟨hm, hm0⟩
          rw [hm] at c1 hsa HA5 z05 z15 hi5 hal
          rw [hm0] at z1 z15
          go_upto_region 18 with fail
          generalize wr.alloc (.cells #[.int .i64 h, .slice as' m cs] 38) = W5 at *
          have s0 := hsa.c0
          have s1 := hsa.c1
          obtain ⟨p0, p1, p2', q0, q1, q2, r0, r1, f0, f1⟩ := HA5.out.cells
          have HI5 := Lib.hid hi5
          have s0 := cell_regrown s0
          have s1 := cell_regrown s1
          have q0 := cell_regrown q0
          have q1 := cell_regrown q1
          have q2 := cell_regrown q2
          have z05 := cell_regrown z05
          have z15 := cell_regrown z15
          obtain ⟨st, hst⟩ : ∃ st, stB p n2 (h, l) = st := ⟨_, rfl⟩
          have cST : ∀ d os, Calls Tryd.prog 39 #[.agg #[.int .i64 p, .int .i64 k2, .int .i64 n2], .agg #[.int .i64 h, .slice as' m cs]] (grow (redrawn W5 d) os) fun e w'' => e = .returned (.bool st) ∧ ∃ p : Regrown, w'' = grow (redrawn W5 p.d) p.os := fun d os => by
            have h := ref6_stands p k2 n2 h (.slice as' m cs) l (grow (redrawn W5 d) os) HPW.out (HI5.out.below (Nat.le_refl _) (below_regrown W5 d os))
            rw [hst] at h
            unfold planV shareV at h
            exact Calls.regrown_of h
          have HSTB := Lib.hid hst
          clear hal hsa hi5 hi hi0 hsh hsh0 hm hm0 hst c0 c1 z0 z1 p0 p1 p2' r0 r1 f0 f1
          cases st with
          | false =>
            have HBD : Hid (¬ alikeAt p n2 L a) := fun e => by
              have h := e.1
              rw [HSS.out.1, HSTB.out] at h
              cases h
            refine wp_region_quiet_below (by kernel_rfl) (by kernel_rfl) ?_
            repeat (go_big_quiet_step (with_reducible exact cST _ _))
            refine wpQuiet_nil ?_
            intro _ hw'
            obtain ⟨⟨dq, osq⟩, hw''⟩ := hw'
            subst hw''
            have hbq := below_regrown W5 dq osq
            have HA6 := Lib.hid (HA5.out.below hbq)
            clear hbq cST s0 s1 q0 q1 q2 z05 z15
            generalize grow (redrawn W5 dq) osq = W6 at *
            obtain ⟨p0, p1, p2', q0, q1, q2, r0, r1, f0, f1⟩ := HA6.out.cells
            go_wp2_with fail
            have HF : Hid (Below g w ((W6.setCell ⟨g + 1 + 1, 0, none⟩ (.int .i64 0)).setCell ⟨g + 1 + 1, 1, none⟩ (.slice none 0 0))) := HA6.out.pl.be.trans ((set1_below _ 0 _ (by omega)).trans (set1_below _ 1 _ (by omega)))
            have hr := (HA6.out.rs.set0 0).set (.slice none 0 0)
            clear r0 r1 f0 f1
            generalize (W6.setCell ⟨g + 1 + 1, 0, none⟩ (.int .i64 0)).setCell ⟨g + 1 + 1, 1, none⟩ (.slice none 0 0) = W9 at *
            have r0 := hr.c0
            have r1 := hr.c1
            obtain ⟨e1, e2⟩ := HNA.out a hla HBD.out
            refine bodyPost_ret (v := .tuple #[.agg #[.int .i64 0, .slice none 0 0], .int .i64 1]) (by simp [results, Tryd.results24, go_sem, r0, r1]) rfl ?_
            exact ⟨.slice none 0 0, by rw [e1, e2], by rw [e2]; exact gath_nil _ _, HF.out⟩
          | true =>
            by_cases hh : h = h0
            · subst hh
              by_cases hl : m = m0
              · subst hl
                have HKN : Hid (∀ i, i < a + 1 → alikeAt p n2 L i) := fun i hi => by
                  by_cases e : i < a
                  · exact HK.out i e
                  · obtain rfl : i = a := by omega
                    unfold alikeAt
                    rw [HSS.out.1, HSS.out.2]
                    exact ⟨HSTB.out, rfl, HSM.out.1.trans HSM.out.2.symm⟩
                refine wp_region_quiet_below (by kernel_rfl) (by kernel_rfl) ?_
                repeat (go_big_quiet_step (with_reducible exact cST _ _))
                refine wpQuiet_nil ?_
                intro _ hw'
                obtain ⟨⟨dq, osq⟩, hw''⟩ := hw'
                subst hw''
                have hbq := below_regrown W5 dq osq
                have HA6 := Lib.hid (HA5.out.below hbq)
                clear hbq cST s0 s1 q0 q1 q2 z05 z15
                generalize grow (redrawn W5 dq) osq = W6 at *
                have hnl := HNL.out
                go_wp2_with fail
                go_roundw
                case rel => exact ⟨a + 1, by omega, by go_num, HKN, HA6⟩
                case measure => simp [intOf]; omega
              · have HBD : Hid (¬ alikeAt p n2 L a) := fun e => by
                  have h := e.2.2
                  rw [HSS.out.1, HSS.out.2] at h
                  exact hl (HSM.out.1.symm.trans (h.trans HSM.out.2))
                have hl1 : ((m : Int) != (m0 : Int)) = true := by simpa using fun e : (m : Int) = m0 => hl (by omega)
                refine wp_region_quiet_below (by kernel_rfl) (by kernel_rfl) ?_
                repeat (go_big_quiet_step (with_reducible exact cST _ _))
                refine wpQuiet_nil ?_
                intro _ hw'
                obtain ⟨⟨dq, osq⟩, hw''⟩ := hw'
                subst hw''
                have hbq := below_regrown W5 dq osq
                have HA6 := Lib.hid (HA5.out.below hbq)
                clear hbq cST s0 s1 q0 q1 q2 z05 z15
                generalize grow (redrawn W5 dq) osq = W6 at *
                obtain ⟨p0, p1, p2', q0, q1, q2, r0, r1, f0, f1⟩ := HA6.out.cells
                go_wp2_with fail
                have HF : Hid (Below g w ((W6.setCell ⟨g + 1 + 1, 0, none⟩ (.int .i64 0)).setCell ⟨g + 1 + 1, 1, none⟩ (.slice none 0 0))) := HA6.out.pl.be.trans ((set1_below _ 0 _ (by omega)).trans (set1_below _ 1 _ (by omega)))
                have hr := (HA6.out.rs.set0 0).set (.slice none 0 0)
                clear r0 r1 f0 f1
                generalize (W6.setCell ⟨g + 1 + 1, 0, none⟩ (.int .i64 0)).setCell ⟨g + 1 + 1, 1, none⟩ (.slice none 0 0) = W9 at *
                have r0 := hr.c0
                have r1 := hr.c1
                obtain ⟨e1, e2⟩ := HNA.out a hla HBD.out
                refine bodyPost_ret (v := .tuple #[.agg #[.int .i64 0, .slice none 0 0], .int .i64 1]) (by simp [results, Tryd.results24, go_sem, r0, r1]) rfl ?_
                exact ⟨.slice none 0 0, by rw [e1, e2], by rw [e2]; exact gath_nil _ _, HF.out⟩
            · have HBD : Hid (¬ alikeAt p n2 L a) := fun e => by
                have h := e.2.1
                rw [HSS.out.1, HSS.out.2] at h
                exact hh h
              have hh1 : (h != h0) = true := by simpa using hh
              refine wp_region_quiet_below (by kernel_rfl) (by kernel_rfl) ?_
              repeat (go_big_quiet_step (with_reducible exact cST _ _))
              refine wpQuiet_nil ?_
              intro _ hw'
              obtain ⟨⟨dq, osq⟩, hw''⟩ := hw'
              subst hw''
              have hbq := below_regrown W5 dq osq
              have HA6 := Lib.hid (HA5.out.below hbq)
              clear hbq cST s0 s1 q0 q1 q2 z05 z15
              generalize grow (redrawn W5 dq) osq = W6 at *
              obtain ⟨p0, p1, p2', q0, q1, q2, r0, r1, f0, f1⟩ := HA6.out.cells
              go_wp2_with fail
              have HF : Hid (Below g w ((W6.setCell ⟨g + 1 + 1, 0, none⟩ (.int .i64 0)).setCell ⟨g + 1 + 1, 1, none⟩ (.slice none 0 0))) := HA6.out.pl.be.trans ((set1_below _ 0 _ (by omega)).trans (set1_below _ 1 _ (by omega)))
              have hr := (HA6.out.rs.set0 0).set (.slice none 0 0)
              clear r0 r1 f0 f1
              generalize (W6.setCell ⟨g + 1 + 1, 0, none⟩ (.int .i64 0)).setCell ⟨g + 1 + 1, 1, none⟩ (.slice none 0 0) = W9 at *
              have r0 := hr.c0
              have r1 := hr.c1
              obtain ⟨e1, e2⟩ := HNA.out a hla HBD.out
              refine bodyPost_ret (v := .tuple #[.agg #[.int .i64 0, .slice none 0 0], .int .i64 1]) (by simp [results, Tryd.results24, go_sem, r0, r1]) rfl ?_
              exact ⟨.slice none 0 0, by rw [e1, e2], by rw [e2]; exact gath_nil _ _, HF.out⟩
        · obtain rfl : a = t := by omega
          obtain ⟨p0, p1, p2', q0, q1, q2, r0, r1, f0, f1⟩ := HA2.out.cells
          by_cases hkk : (a : Int) < k
          · have hd1 : decide ((a : Int) < k) = true := decide_eq_true hkk
            go_wp2_with fail
            have HF : Hid (Below g w ((wr.setCell ⟨g + 1 + 1, 0, none⟩ (.int .i64 0)).setCell ⟨g + 1 + 1, 1, none⟩ (.slice none 0 0))) := HA2.out.pl.be.trans ((set1_below _ 0 _ (by omega)).trans (set1_below _ 1 _ (by omega)))
            have hr := (HA2.out.rs.set0 0).set (.slice none 0 0)
            clear r0 r1 f0 f1
            generalize (wr.setCell ⟨g + 1 + 1, 0, none⟩ (.int .i64 0)).setCell ⟨g + 1 + 1, 1, none⟩ (.slice none 0 0) = W9 at *
            have r0 := hr.c0
            have r1 := hr.c1
            obtain ⟨e1, e2⟩ := HFW.out HDF.out HK.out hkk
            refine bodyPost_ret (v := .tuple #[.agg #[.int .i64 0, .slice none 0 0], .int .i64 5]) (by simp [results, Tryd.results24, go_sem, r0, r1]) rfl ?_
            exact ⟨.slice none 0 0, by rw [e1, e2], by rw [e2]; exact gath_nil _ _, HF.out⟩
          · have hd1 : decide ((a : Int) < k) = false := decide_eq_false hkk
            obtain ⟨e1, e2⟩ := HOK.out HDF.out HK.out (by omega)
            have HE12 : Hid (EJ = 0 ∧ RJ = ((L.getD 0 (0, [])).1, joinL p xs L a)) := ⟨e1, e2⟩
            have ha1 : 1 ≤ a := by have := HPQ.out.2.2.1; omega
            have hxs : Els p xs := fun x hx => by have h1 := HDF.out.1 x hx; have h2 := HPQ.out.2.2.2.2; exact ⟨by omega, by omega⟩
            have hwt := ref_weights_core p 0 af a cf xs wr HPQ.out.1 HPQ.out.2.1 ⟨by omega, by have := HPQ.out.1.1; omega⟩ hxs (HIF.out wr HA2.out) (show Hid (a = xs.length) from HNN.out.symm) (show Hid (plc xs = 0) from plc_nodup (by rw [HNN.out]; omega) HDF.out.2) HNL.out hfc hfb
            have HWT := Lib.hid hwt
            have HXS := Lib.hid hxs
            have HA1' : Hid (1 ≤ a) := ha1
            clear e1 e2 hwt hxs ha HFW HOK HNA HND
            go_wp2_with fail
            refine HWT.out.mono ?_
            rintro e W7 ⟨vw, rfl, hgw7, hb7⟩
            have hwl : (wts p xs 0).length = a := by rw [wts_len]; exact HNN.out
            obtain ⟨aw, cw, rfl⟩ := hgw7.shape
            rw [hwl] at hgw7 ⊢
            have HA7 := Lib.hid (HA2.out.below hb7)
            have HGW := Lib.hid (hgw7.mono (show g + 1 + 1 + 1 ≤ wr.heap.size from HA2.out.rs.lt))
            have HWL := Lib.hid hwl
            obtain ⟨bl, ol, v0, hale, z0, z1, hi0⟩ := (HSH.out W7 HA7.out).at (i := 0) (by omega)
            subst hale
            rw [Nat.zero_mul, Nat.add_zero] at z0 z1
            obtain ⟨a0, c0', rfl⟩ := hi0.shape
            obtain ⟨h0, hh0⟩ : ∃ y, (L.getD 0 (0, [])).1 = y := ⟨_, rfl⟩
            obtain ⟨m, hm⟩ : ∃ y, (L.getD 0 (0, [])).2.length = y := ⟨_, rfl⟩
            rw [hh0] at z0
            rw [hm] at z1
            have HH0 := Lib.hid (And.intro hh0 hm)
            have HMB : Hid (m ≤ 1000000) := by
              show _ ≤ _
              rw [← hm]
              exact HLB.out _ (by rw [getS_at (by rw [HMM.out]; omega)]; exact List.getElem_mem _)
            have hmk := run_make_row' (P := Tryd.prog) 22 3 (.int .i64 0) 8 Tryd.underlying22 infoInt rfl .i64 .i64 m (by have := HMB.out; omega) (by have := HMB.out; omega)
            have HKP : Hid (∀ W, Below W7.heap.size W7 W → W.cell? ⟨bl, ol, none⟩ = some (.int .i64 h0) ∧ W.cell? ⟨bl, ol + 1, none⟩ = some (.slice a0 m c0')) :=
              fun W hb => ⟨below_cell hb z0, below_cell hb z1⟩
            have i1 : (0 : Int) < (a : Int) := by omega
            have i2 : 0 < a := by omega
            obtain ⟨p0, p1, p2', q0, q1, q2, r0, r1, f0, f1⟩ := HA7.out.cells
            clear hgw7 hb7 hwl hi0 hh0 hm
            go_wp2_with fail
            clear p0 p1 p2' q0 q1 q2 r0 r1 f0 f1 z0 z1
            have HSK := HKP.out W7.drew (Below.refl _ _).drew
            have b1 : Below W7.heap.size W7 (W7.alloc (.cells (madeCells #[.int .i64 0] m) 3)) := (Below.refl _ _).alloc (Nat.le_refl _) _
            have b2 : Below W7.heap.size W7 (W7.alloc (.cells #[.int .i64 0, .slice none 0 0] 38)) := (Below.refl _ _).alloc (Nat.le_refl _) _
            have b3 : ∀ o, Below W7.heap.size W7 ((W7.alloc (.cells (madeCells #[.int .i64 0] m) 3)).alloc o) := fun o => b1.alloc b1.size o
            have b4 : ∀ o, Below W7.heap.size W7 ((W7.alloc o).alloc (.cells (madeCells #[.int .i64 0] m) 3)) := fun o => ((Below.refl _ _).alloc (Nat.le_refl _) o).alloc (((Below.refl _ _).alloc (Nat.le_refl _) o).size) _
            have HSK1 := HKP.out _ b1.drew
            have HSK2 := HKP.out _ b2.drew
            have HSK3 := fun o => HKP.out _ (b3 o).drew
            have HSK4 := fun o => HKP.out _ (b4 o).drew
            apply region_oneZ (fun v c W => Hid (∃ gv, v = .slice (some ⟨gv, 0, none⟩) m m ∧ JnW w W g gv c m p k n k2 n2 h0 (.slice aw a cw) (wts p xs 0) (fun _ => 0)))
            case hr =>
              refine wp_region_noPanic ?_
              go_region_held3 (fun W' => W'.cell? ⟨bl, ol, none⟩ = some (.int .i64 h0) ∧ W'.cell? ⟨bl, ol + 1, none⟩ = some (.slice a0 m c0')) (first | go_keep | exact HSK | exact HSK1 | exact HSK2 | exact HSK3 _ | exact HSK4 _)
                (first | (fail "NOARM"))
              all_goals
                refine NoPanic.normal ?_
                first
                  | (have h3 := (jnW_rs (h := h0) (m := m) (p := p) (k := k) (n := n) (k2 := k2) (n2 := n2) HA7.out HGW.out 38).below (Below.refl _ _).drew
                     generalize (((W7.alloc (.cells (madeCells #[.int .i64 0] m) 3)).alloc (.cells #[.int .i64 h0, .slice (some ⟨W7.heap.size, 0, none⟩) m m] 38))).drew = WZ at h3 ⊢
                     obtain ⟨vs, hvs⟩ : ∃ v, Value.slice (some ⟨W7.heap.size, 0, none⟩) m m = v := ⟨_, rfl⟩
                     obtain ⟨c, hc⟩ : ∃ c, W7.heap.size + 1 = c := ⟨_, rfl⟩
                     rw [hvs, hc]
                     exact ⟨rfl, vs, c, rfl, W7.heap.size, hvs.symm, by rw [← hc]; exact h3⟩)
                  | (have h3 := (jnW_sr (h := h0) (m := m) (p := p) (k := k) (n := n) (k2 := k2) (n2 := n2) HA7.out HGW.out 38).below (Below.refl _ _).drew
                     generalize (((W7.alloc (.cells #[.int .i64 h0, .slice (some ⟨W7.heap.size + 1, 0, none⟩) m m] 38)).alloc (.cells (madeCells #[.int .i64 0] m) 3))).drew = WZ at h3 ⊢
                     obtain ⟨vs, hvs⟩ : ∃ v, Value.slice (some ⟨W7.heap.size + 1, 0, none⟩) m m = v := ⟨_, rfl⟩
                     obtain ⟨c, hc⟩ : ∃ c, W7.heap.size = c := ⟨_, rfl⟩
                     rw [hvs, hc]
                     exact ⟨rfl, vs, c, rfl, W7.heap.size + 1, hvs.symm, by rw [← hc]; exact h3⟩)
            clear HSK HSK1 HSK2 HSK3 HSK4 b1 b2 b3 b4 hmk
            intro v c W8 HJ
            obtain ⟨gv, hv, hj⟩ := HJ.out
            subst hv
            have HJ0 : Hid (JnW w W8 g gv c m p k n k2 n2 h0 (.slice aw a cw) (wts p xs 0) (mF p xs L 0 0)) := hj.congr fun j _ => by unfold mF; rw [if_neg (by omega), sF_zero]
            clear HJ hj HGW
            obtain ⟨bw, ow, hwe, _⟩ := (HJ0.out.wt.reads (by rw [HWL.out]; have := HNL.out; omega)).pos (k := 0) HA1'.out
            subst hwe
            have HSL : Hid (∀ W F, JnW w W g gv c m p k n k2 n2 h0 (.slice (some ⟨bw, ow, none⟩) a cw) (wts p xs 0) F → Shares W (.slice (some ⟨bl, ol, none⟩) a cl) L) := fun W F x => HSH.out W x.jw
            have HSZ : Hid (∀ i, i < a → (L.getD i (0, [])).2.length = m ∧ Els p (L.getD i (0, [])).2) := fun i hi => by
              have h1 := HK.out i hi
              refine ⟨h1.2.2.trans HH0.out.2, ?_⟩
              have h2 := h1.1
              unfold stB at h2
              simp only [Bool.and_eq_true] at h2
              exact els_of_elB h2.2
            have HP1 : Hid (1 ≤ p) := by have := HPQ.out.1.1; show _ ≤ _; omega
            clear HKP HWT HSH HIF HA7 HA2
            go_wp2_with fail
            go_loopw [19, 20, 21, 22, 123] (fun _ _ _ _ i wr => ∃ t : Nat, t ≤ a ∧ i = .int .i64 t ∧ Hid (JnW w wr g gv c m p k n k2 n2 h0 (.slice (some ⟨bw, ow, none⟩) a cw) (wts p xs 0) (mF p xs L t 0))) (fun _ _ _ _ i _ => a - (intOf i).toNat)
            case atStart => exact ⟨0, Nat.zero_le _, rfl, HJ0⟩
            case round =>
              obtain ⟨t, ht, rfl, HJ⟩ := hrel
              clear HJ0
              by_cases hlt : t < a
              · have hltI : (t : Int) < (a : Int) := by omega
                obtain ⟨bl', ol', vs, hale, c0w, c1w, hiw⟩ := HSW.out.at hlt
                simp only [Option.some.injEq, Addr.mk.injEq, and_true] at hale
                obtain ⟨rfl, rfl⟩ := hale
                have hbw : Below w.heap.size w wr := by rw [hgw]; exact HJ.out.jw.pl.be
                have c0 := below_cell hbw c0w
                have c1 := below_cell hbw c1w
                have hi := hiw.below (Nat.le_refl _) hbw
                have hiW : ∀ W, JoW w W g p k n p k2 n2 → Ints W vs (L.getD t (0, [])).2 := fun W q => hiw.below (Nat.le_of_eq hgw) q.pl.be
                clear c0w c1w hiw hbw
                obtain ⟨as', cs, hvs⟩ := hi.shape
                rw [(HSZ.out t hlt).1] at hvs
                subst hvs
                obtain ⟨hh, hhh⟩ : ∃ y, (L.getD t (0, [])).1 = y := ⟨_, rfl⟩
                rw [hhh] at c0
                obtain ⟨l, hl⟩ : ∃ y, (L.getD t (0, [])).2 = y := ⟨_, rfl⟩
                rw [hl] at hi hiW
                have HIW := Lib.hid hiW
                have HLL : Hid (l.length = m ∧ Els p l) := by have := HSZ.out t hlt; rwa [hl] at this
                have HLT := Lib.hid hl
                obtain ⟨gs, hgs⟩ : ∃ gs, wr.heap.size = gs := ⟨_, rfl⟩
                have hal : Below wr.heap.size wr (wr.alloc (.cells #[.int .i64 hh, .slice as' m cs] 38)) := (Below.refl _ _).alloc (Nat.le_refl _) _
                have HJ5 := Lib.hid (HJ.out.below hal)
                have HI5 := Lib.hid (hi.below (Nat.le_refl _) hal)
                have hsa := shAt_new wr hh (.slice as' m cs) 38
                have hjc := HJ.out.lt
                have hjr := HJ.out.row.lt
                rw [hgs] at hsa
                go_upto_region 28 with fail
                generalize wr.alloc (.cells #[.int .i64 hh, .slice as' m cs] 38) = W9 at *
                have s0 := hsa.c0
                have s1 := hsa.c1
                clear hal hi hiW hhh hl hsa c0 c1 hjc hjr HJ
                go_wp2_with fail
                clear s0 s1
                go_loopw [21, 22, 131] (fun _ _ i wq => ∃ j : Nat, j ≤ m ∧ i = .int .i64 j ∧ Hid (JnW w wq g gv c m p k n k2 n2 h0 (.slice (some ⟨bw, ow, none⟩) a cw) (wts p xs 0) (mF p xs L t j))) (fun _ _ i _ => m - (intOf i).toNat)
                case atStart => exact ⟨0, Nat.zero_le _, rfl, HJ5⟩
                case round =>
                  obtain ⟨j, hj, rfl, HJ6⟩ := hrel
                  clear HJ5
                  by_cases hlj : j < m
                  · have hljI : (j : Int) < (m : Int) := by omega
                    obtain ⟨by', oy, hye, y0⟩ := (HIW.out wr HJ6.out.jw).pos (k := j) hlj
                    subst hye
                    obtain ⟨bw', ow', hwe, w0⟩ := (HJ6.out.wt.reads (by rw [HWL.out]; have := HNL.out; omega)).pos (k := t) hlt
                    simp only [Option.some.injEq, Addr.mk.injEq, and_true] at hwe
                    obtain ⟨rfl, rfl⟩ := hwe
                    rw [wts_getD (by rw [HNN.out]; exact hlt)] at w0
                    have v0 := HJ6.out.row.cell hlj
                    have vf := HJ6.out.row.frozen j
                    have hmf : mF p xs L t j j = sF p xs L t j := by unfold mF; rw [if_neg (by omega)]
                    rw [hmf] at v0
                    have k1 := HJ6.out.out.c1
                    have p0 := HJ6.out.jw.pl.a.c0
                    have hey : El p (l.getD j 0) := els_getD (by have := HP1.out; omega) HLL.out.2 j
                    have hew := wt_el HP1.out xs 0 t
                    have hex := sF_el HP1.out xs L t j
                    have hstep := sF_step p xs L t j
                    rw [HLT.out] at hstep
                    obtain ⟨y, hy⟩ : ∃ y, l.getD j 0 = y := ⟨_, rfl⟩
                    obtain ⟨ww, hww⟩ : ∃ y, wt p xs 0 t = y := ⟨_, rfl⟩
                    obtain ⟨X, hX⟩ : ∃ y, sF p xs L t j = y := ⟨_, rfl⟩
                    obtain ⟨Y, hY⟩ : ∃ y, sF p xs L (t + 1) j = y := ⟨_, rfl⟩
                    have heY : El p Y := by rw [← hY]; exact sF_el HP1.out xs L (t + 1) j
                    rw [hy] at y0 hey hstep
                    rw [hww] at w0 hew hstep
                    rw [hX] at v0 hex hstep
                    rw [hY] at hstep
                    obtain ⟨m1, m2⟩ := mul_bound HPQ.out.2.1 hew.1 hew.2 hey.1 hey.2
                    have hp30 := HPQ.out.2.1
                    have u1 : IntKind.i64.wrap (ww * y) = ww * y := IntWalk.i64_in _ (by omega)
                    have u2 : IntKind.i64.wrap (X + ww * y) = X + ww * y := IntWalk.i64_in _ (by have := hex.1; have := hex.2; omega)
                    have u3 : (X + ww * y).tmod p = Y := by rw [Int.tmod_eq_emod_of_nonneg (by have := hex.1; omega)]; exact hstep
                    have u4 : IntKind.i64.wrap Y = Y := IntWalk.i64_in _ (by have := heY.1; have := heY.2; omega)
                    have u5 : (p == 0) = false := by have := HP1.out; simp; omega
                    have u6 : ¬ p = 0 := by have := HP1.out; omega
                    have HJN : Hid (JnW w (wr.drew.setCell ⟨gv, j, none⟩ (.int .i64 Y)) g gv c m p k n k2 n2 h0 (.slice (some ⟨bw, ow, none⟩) a cw) (wts p xs 0) (mF p xs L t (j + 1))) := ((HJ6.out.below (Below.refl _ _).drew).set j Y).congr fun i _ => by
                      unfold mF
                      by_cases e : i = j
                      · subst e; rw [if_pos rfl, if_pos (by omega), hY]
                      · rw [if_neg e]
                        by_cases e2 : i < j
                        · rw [if_pos e2, if_pos (by omega)]
                        · rw [if_neg e2, if_neg (by omega)]
                    have HSK : wr.drew.cell? ⟨g, 0, none⟩ = some (.int .i64 p) ∧ wr.drew.cell? ⟨c, 1, none⟩ = some (.slice (some ⟨gv, 0, none⟩) m m) ∧ wr.drew.cell? ⟨gv, j, none⟩ = some (.int .i64 X) ∧ wr.drew.cell? ⟨bw, ow + t, none⟩ = some (.int .i64 ww) := ⟨p0, k1, v0, w0⟩
                    have vf2 : wr.drew.frozen? ⟨gv, j, none⟩ = false := vf
                    clear hey hew hex hstep hy hww hX hY heY m1 m2 hp30 hmf
                    go_wp2_with fail
                    have hbig : ∀ j : Nat, 20 ≤ j → (fun j : Nat => !(decide (19 ≤ j) && decide (j ≤ 19))) j = true := fun j hj => by
                      have : ¬ j ≤ 19 := by omega
                      simp [this]
                    clear p0 k1 v0 w0 y0 vf
                    refine region_G (fun W' => W'.cell? ⟨g, 0, none⟩ = some (.int .i64 p) ∧ W'.cell? ⟨c, 1, none⟩ = some (.slice (some ⟨gv, 0, none⟩) m m) ∧ W'.cell? ⟨gv, j, none⟩ = some (.int .i64 X) ∧ W'.cell? ⟨bw, ow + t, none⟩ = some (.int .i64 ww)) (fun j => !(decide (19 ≤ j) && decide (j ≤ 19))) rfl ?_
                    refine anyG_read (i := 0) (v := ?_) rfl (by kernel_rfl) (by kernel_rfl) (by kernel_rfl) (by kernel_rfl) (by kernel_rfl) hbig (fun _ _ _ h => h) (Or.inl ⟨by rfl, ?_⟩) HSK ?_
                    rotate_left
                    · (intro w hSw; (try dsimp only at hSw); go_simp; (try with_reducible rfl))
                    try simp only [Act.put, List.setIfInBounds_toArray, List.set_cons_zero, List.set_cons_succ]
                    refine anyG_read (i := 1) (v := ?_) rfl (by kernel_rfl) (by kernel_rfl) (by kernel_rfl) (by kernel_rfl) (by kernel_rfl) hbig (fun _ _ _ h => h) (Or.inl ⟨by rfl, ?_⟩) HSK ?_
                    rotate_left
                    · (intro w hSw; (try dsimp only at hSw); go_simp; (try with_reducible rfl))
                    try simp only [Act.put, List.setIfInBounds_toArray, List.set_cons_zero, List.set_cons_succ]
                    refine anyG_read (i := 2) (v := ?_) rfl (by kernel_rfl) (by kernel_rfl) (by kernel_rfl) (by kernel_rfl) (by kernel_rfl) hbig (fun _ _ _ h => h) (Or.inl ⟨by rfl, ?_⟩) HSK ?_
                    rotate_left
                    · (intro w hSw; (try dsimp only at hSw); go_simp; (try with_reducible rfl))
                    try simp only [Act.put, List.setIfInBounds_toArray, List.set_cons_zero, List.set_cons_succ]
                    refine anyG_read (i := 3) (v := ?_) rfl (by kernel_rfl) (by kernel_rfl) (by kernel_rfl) (by kernel_rfl) (by kernel_rfl) hbig (fun _ _ _ h => h) (Or.inl ⟨by rfl, ?_⟩) HSK ?_
                    rotate_left
                    · (intro w hSw; (try dsimp only at hSw); go_simp; (try with_reducible rfl))
                    try simp only [Act.put, List.setIfInBounds_toArray, List.set_cons_zero, List.set_cons_succ]
                    refine anyG_read (i := 4) (v := ?_) rfl (by kernel_rfl) (by kernel_rfl) (by kernel_rfl) (by kernel_rfl) (by kernel_rfl) hbig (fun _ _ _ h => h) (Or.inl ⟨by rfl, ?_⟩) HSK ?_
                    rotate_left
                    · (intro w hSw; (try dsimp only at hSw); go_simp; (try with_reducible rfl))
                    try simp only [Act.put, List.setIfInBounds_toArray, List.set_cons_zero, List.set_cons_succ]
                    refine anyG_read (i := 5) (v := ?_) rfl (by kernel_rfl) (by kernel_rfl) (by kernel_rfl) (by kernel_rfl) (by kernel_rfl) hbig (fun _ _ _ h => h) (Or.inl ⟨by rfl, ?_⟩) HSK ?_
                    rotate_left
                    · (intro w hSw; (try dsimp only at hSw); go_simp; (try with_reducible rfl))
                    try simp only [Act.put, List.setIfInBounds_toArray, List.set_cons_zero, List.set_cons_succ]
                    refine anyG_read (i := 6) (v := ?_) rfl (by kernel_rfl) (by kernel_rfl) (by kernel_rfl) (by kernel_rfl) (by kernel_rfl) hbig (fun _ _ _ h => h) (Or.inl ⟨by rfl, ?_⟩) HSK ?_
                    rotate_left
                    · (intro w hSw; (try dsimp only at hSw); go_simp; (try with_reducible rfl))
                    try simp only [Act.put, List.setIfInBounds_toArray, List.set_cons_zero, List.set_cons_succ]
                    refine anyG_read (i := 7) (v := ?_) rfl (by kernel_rfl) (by kernel_rfl) (by kernel_rfl) (by kernel_rfl) (by kernel_rfl) hbig (fun _ _ _ h => h) (Or.inl ⟨by rfl, ?_⟩) HSK ?_
                    rotate_left
                    · (intro w hSw; (try dsimp only at hSw); go_simp; (try with_reducible rfl))
                    try simp only [Act.put, List.setIfInBounds_toArray, List.set_cons_zero, List.set_cons_succ]
                    refine anyG_read (i := 8) (v := ?_) rfl (by kernel_rfl) (by kernel_rfl) (by kernel_rfl) (by kernel_rfl) (by kernel_rfl) hbig (fun _ _ _ h => h) (Or.inl ⟨by rfl, ?_⟩) HSK ?_
                    rotate_left
                    · (intro w hSw; (try dsimp only at hSw); go_simp; (try with_reducible rfl))
                    try simp only [Act.put, List.setIfInBounds_toArray, List.set_cons_zero, List.set_cons_succ]
                    refine anyG_read (i := 9) (v := ?_) rfl (by kernel_rfl) (by kernel_rfl) (by kernel_rfl) (by kernel_rfl) (by kernel_rfl) hbig (fun _ _ _ h => h) (Or.inl ⟨by rfl, ?_⟩) HSK ?_
                    rotate_left
                    · (intro w hSw; (try dsimp only at hSw); go_simp; (try with_reducible rfl))
                    try simp only [Act.put, List.setIfInBounds_toArray, List.set_cons_zero, List.set_cons_succ]
                    refine anyG_read (i := 10) (v := ?_) rfl (by kernel_rfl) (by kernel_rfl) (by kernel_rfl) (by kernel_rfl) (by kernel_rfl) hbig (fun _ _ _ h => h) (Or.inl ⟨by rfl, ?_⟩) HSK ?_
                    rotate_left
                    · (intro w hSw; (try dsimp only at hSw); go_simp; (try with_reducible rfl))
                    try simp only [Act.put, List.setIfInBounds_toArray, List.set_cons_zero, List.set_cons_succ]
                    refine anyG_read (i := 11) (v := ?_) rfl (by kernel_rfl) (by kernel_rfl) (by kernel_rfl) (by kernel_rfl) (by kernel_rfl) hbig (fun _ _ _ h => h) (Or.inl ⟨by rfl, ?_⟩) HSK ?_
                    rotate_left
                    · (intro w hSw; (try dsimp only at hSw); go_simp; (try with_reducible rfl))
                    try simp only [Act.put, List.setIfInBounds_toArray, List.set_cons_zero, List.set_cons_succ]
                    refine anyG_read (i := 12) (v := ?_) rfl (by kernel_rfl) (by kernel_rfl) (by kernel_rfl) (by kernel_rfl) (by kernel_rfl) hbig (fun _ _ _ h => h) (Or.inl ⟨by rfl, ?_⟩) HSK ?_
                    rotate_left
                    · (intro w hSw; (try dsimp only at hSw); go_simp; (try with_reducible rfl))
                    try simp only [Act.put, List.setIfInBounds_toArray, List.set_cons_zero, List.set_cons_succ]
                    refine anyG_read (i := 13) (v := ?_) rfl (by kernel_rfl) (by kernel_rfl) (by kernel_rfl) (by kernel_rfl) (by kernel_rfl) hbig (fun _ _ _ h => h) (Or.inl ⟨by rfl, ?_⟩) HSK ?_
                    rotate_left
                    · (intro w hSw; (try dsimp only at hSw); go_simp; (try with_reducible rfl))
                    try simp only [Act.put, List.setIfInBounds_toArray, List.set_cons_zero, List.set_cons_succ]
                    refine anyG_read (i := 14) (v := ?_) rfl (by kernel_rfl) (by kernel_rfl) (by kernel_rfl) (by kernel_rfl) (by kernel_rfl) hbig (fun _ _ _ h => h) (Or.inl ⟨by rfl, ?_⟩) HSK ?_
                    rotate_left
                    · (intro w hSw; (try dsimp only at hSw); go_simp; (try with_reducible rfl))
                    try simp only [Act.put, List.setIfInBounds_toArray, List.set_cons_zero, List.set_cons_succ]
                    refine anyG_read (i := 15) (v := ?_) rfl (by kernel_rfl) (by kernel_rfl) (by kernel_rfl) (by kernel_rfl) (by kernel_rfl) hbig (fun _ _ _ h => h) (Or.inl ⟨by rfl, ?_⟩) HSK ?_
                    rotate_left
                    · (intro w hSw; (try dsimp only at hSw); go_simp; (try with_reducible rfl))
                    try simp only [Act.put, List.setIfInBounds_toArray, List.set_cons_zero, List.set_cons_succ]
                    refine anyG_read (i := 16) (v := ?_) rfl (by kernel_rfl) (by kernel_rfl) (by kernel_rfl) (by kernel_rfl) (by kernel_rfl) hbig (fun _ _ _ h => h) (Or.inl ⟨by rfl, ?_⟩) HSK ?_
                    rotate_left
                    · (intro w hSw; (try dsimp only at hSw); go_simp; (try with_reducible rfl))
                    try simp only [Act.put, List.setIfInBounds_toArray, List.set_cons_zero, List.set_cons_succ]
                    refine anyG_read (i := 17) (v := ?_) rfl (by kernel_rfl) (by kernel_rfl) (by kernel_rfl) (by kernel_rfl) (by kernel_rfl) hbig (fun _ _ _ h => h) (Or.inl ⟨by rfl, ?_⟩) HSK ?_
                    rotate_left
                    · (intro w hSw; (try dsimp only at hSw); go_simp; (try with_reducible rfl))
                    try simp only [Act.put, List.setIfInBounds_toArray, List.set_cons_zero, List.set_cons_succ]
                    refine anyG_read (i := 18) (v := ?_) rfl (by kernel_rfl) (by kernel_rfl) (by kernel_rfl) (by kernel_rfl) (by kernel_rfl) hbig (fun _ _ _ h => h) (Or.inl ⟨by rfl, ?_⟩) HSK ?_
                    rotate_left
                    · (intro w hSw; (try dsimp only at hSw); go_simp; (try with_reducible rfl))
                    try simp only [Act.put, List.setIfInBounds_toArray, List.set_cons_zero, List.set_cons_succ]
                    have q8 := HSK.2.2.1
                    refine anyG_one (i := 19) (by kernel_rfl) rfl (by rfl) (fun K' hK => ?_)
                    go_simp
                    refine hK _ _ (fun h => absurd h (by decide)) ?_
                    try simp only [Act.put, List.setIfInBounds_toArray, List.set_cons_zero, List.set_cons_succ]
                    refine anyG_done (by kernel_rfl) ?_
                    clear q8 vf2 HSK u1 u2 u3 u4 u5 u6 hljI
                    have HJN2 : Hid (JnW w (wr.setCell ⟨gv, j, none⟩ (.int .i64 Y)).drew g gv c m p k n k2 n2 h0 (.slice (some ⟨bw, ow, none⟩) a cw) (wts p xs 0) (mF p xs L t (j + 1))) := HJN
                    clear HJN
                    have hmb := HMB.out
                    go_wp2_with fail
                    go_roundw
                    case rel => exact ⟨j + 1, by omega, by go_num, HJN2⟩
                    case measure => simp [intOf]; omega
                  · have hjm : m = j := by omega
                    subst hjm
                    have HJN : Hid (JnW w wr g gv c m p k n k2 n2 h0 (.slice (some ⟨bw, ow, none⟩) a cw) (wts p xs 0) (mF p xs L (t + 1) 0)) := HJ6.out.congr fun i hi => by
                      unfold mF
                      rw [if_pos hi, if_neg (by omega)]
                    clear HJ6
                    have hnl := HNL.out
                    go_wp2_with fail
                    go_roundw
                    case rel => exact ⟨t + 1, by omega, by go_num, HJN⟩
                    case measure => simp [intOf]; omega
              · have hta : a = t := by omega
                subst hta
                have hjl : (joinL p xs L a).length = m := joinL_len _ _ HH0.out.2 (fun i => by
                  by_cases hi : i < a
                  · rw [(HSZ.out i hi).1]; exact Nat.le_refl _
                  · rw [show L.getD i (0, []) = (0, []) by simp [List.getD, show L.length ≤ i by rw [HMM.out]; omega]]; exact Nat.zero_le _) HA1'.out
                have hjv : ∀ i, i < m → mF p xs L a 0 i = (joinL p xs L a).getD i 0 := fun i hi => by
                  unfold mF
                  rw [if_neg (by omega), joinL_at xs L HH0.out.2 (fun i => by
                    by_cases hi : i < a
                    · rw [(HSZ.out i hi).1]; exact Nat.le_refl _
                    · rw [show L.getD i (0, []) = (0, []) by simp [List.getD, show L.length ≤ i by rw [HMM.out]; omega]]; exact Nat.zero_le _) hi a]
                  rfl
                have HJF := Lib.hid (HJ.out.congr hjv)
                have HJL := Lib.hid hjl
                obtain ⟨p0, p1, p2', q0, q1, q2, r0, r1, f0, f1⟩ := HJ.out.jw.cells
                have k0 := HJ.out.out.c0
                have k1 := HJ.out.out.c1
                have hlt3 := HJ.out.lt
                clear hjl hjv
                go_wp2_with fail
                have HF : Hid (Below g w ((wr.setCell ⟨g + 1 + 1, 0, none⟩ (.int .i64 h0)).setCell ⟨g + 1 + 1, 1, none⟩ (.slice (some ⟨gv, 0, none⟩) m m))) := HJ.out.jw.pl.be.trans ((set1_below _ 0 _ (by omega)).trans (set1_below _ 1 _ (by omega)))
                have hr := (HJ.out.jw.rs.set0 h0).set (.slice (some ⟨gv, 0, none⟩) m m)
                have hw := (HJF.out.row.setOther (a := ⟨g + 1 + 1, 0, none⟩) (by show gv ≠ g + 1 + 1; omega) (.int .i64 h0)).setOther (a := ⟨g + 1 + 1, 1, none⟩) (by show gv ≠ g + 1 + 1; omega) (.slice (some ⟨gv, 0, none⟩) m m)
                clear r0 r1 f0 f1 k0 k1
                generalize (wr.setCell ⟨g + 1 + 1, 0, none⟩ (.int .i64 h0)).setCell ⟨g + 1 + 1, 1, none⟩ (.slice (some ⟨gv, 0, none⟩) m m) = W9 at *
                have r0 := hr.c0
                have r1 := hr.c1
                have hg := row_gath (base := g) (f := fun j => (joinL p xs L a).getD j 0) hw (by omega) (by have := HMB.out; unfold maxLen; omega)
                have hlist : (List.range m).map (fun j => (joinL p xs L a).getD j 0) = joinL p xs L a := List.ext_getElem (by simp [HJL.out]) fun j h1 h2 => by
                  rw [List.getElem_map, List.getElem_range, getD_at h2]
                rw [hlist] at hg
                refine bodyPost_ret (v := .tuple #[.agg #[.int .i64 h0, .slice (some ⟨gv, 0, none⟩) m m], .int .i64 0]) (by simp [results, Tryd.results24, go_sem, r0, r1]) rfl ?_
                obtain ⟨e1, e2⟩ := HE12.out
                exact ⟨.slice (some ⟨gv, 0, none⟩) m m, by rw [e1, e2, HH0.out.1], by rw [e2]; exact hg, HF.out⟩
end Go.Proofs.YtomnncainedjdaaDoor
