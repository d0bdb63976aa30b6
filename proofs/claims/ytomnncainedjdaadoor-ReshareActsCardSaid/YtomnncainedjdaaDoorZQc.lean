
/- The document's answer for layer 9: Join, for any arguments. -/
import Derived.Test.YtomnncainedjdaaDoorZQb
namespace Go.Proofs.YtomnncainedjdaaDoor
open Go.RowKit Go.Sort
open Num
set_option linter.unusedVariables false
set_option linter.unusedSimpArgs false

set_option maxRecDepth 100000 in
set_option maxHeartbeats 16000000 in
theorem ref9_join (p k n p2 k2 n2 : Int) (vf vl : Value) (xs : List Int) (L : List Shr) (w : World) (hw : Wheel w) (hp : (Lit.int .i64 p).wf = true) (hp2 : (Lit.int .i64 p2).wf = true) (hf : Slc w vf xs) (hs : Shares w vl L) (hL : ∀ x ∈ L, x.2.length ≤ 1000000) :
    Calls Tryd.prog 24 #[planV p k n, planV p2 k2 n2, vf, vl] w fun e w' => ∃ v', e = .returned (.tuple #[shareV (joinR p k n p2 k2 n2 xs L).1 v', .int .i64 (joinE p k n p2 k2 n2 xs L)]) ∧ Gath w' w.heap.size v' (joinR p k n p2 k2 n2 xs L).2 ∧ Below w.heap.size w w' := by
  by_cases hok : relB p k n p2 k2 n2 = true ∧ L.length = xs.length
  · obtain ⟨hrel, hML⟩ := hok
    obtain rfl := (relB_parts hrel).1
    exact ref9_join_go p k n k2 n2 vf vl xs L w hw hp hf hs hL hrel hML
  obtain ⟨e1, e2⟩ := joinE_no (p := p) (k := k) (n := n) (p2 := p2) (k2 := k2) (n2 := n2) (xs := xs) (L := L) fun c => hok ⟨c.1, c.2.2.1⟩
  rw [e1, e2]
  clear e1 e2 hL
  unfold planV shareV
  obtain ⟨af, cf, rfl, hfc, hfb, hI⟩ := id hf
  obtain ⟨al, cl, rfl, hL1, hcl1, hcl2, _⟩ := id hs
  obtain ⟨N, hN⟩ : ∃ N, xs.length = N := ⟨_, rfl⟩
  obtain ⟨M, hM⟩ : ∃ M, L.length = M := ⟨_, rfl⟩
  obtain ⟨g, hgw⟩ : ∃ g, w.heap.size = g := ⟨_, rfl⟩
  obtain ⟨w1, hw1⟩ : ∃ w1, ((w.alloc (Obj.cells #[Value.int IntKind.i64 p, Value.int IntKind.i64 k, Value.int IntKind.i64 n] 30)).alloc (Obj.cells #[Value.int IntKind.i64 p2, Value.int IntKind.i64 k2, Value.int IntKind.i64 n2] 30)).alloc (Obj.cells #[Value.int IntKind.i64 0, .slice none 0 0] 38) = w1 := ⟨_, rfl⟩
  have HA0 : Hid (JoW w w1 g p k n p2 k2 n2) := by rw [← hw1, ← hgw]; exact joW_new w hw _ _ _ _ _ _ _ _ _
  have HPL := Lib.hid (fun W (q : JoW w W g p k n p2 k2 n2) => ref9_plans p k n p2 k2 n2 W q.pl.wh hp hp2)
  unfold planV at HPL
  obtain ⟨br, hbr⟩ : ∃ b, relB p k n p2 k2 n2 = b := ⟨_, rfl⟩
  rw [hbr] at HPL hok
  rw [hM, hN] at hok
  rw [hN] at hfc ⊢
  rw [hM] at hL1 hcl1 ⊢
  rw [hgw]
  clear hw hp hp2 hf hs hI hN hM hbr
  obtain ⟨p0, p1, p2', q0, q1, q2, r0, r1, f0, f1⟩ := HA0.out.cells
  obtain ⟨bn, hbn⟩ : ∃ b, ((N : Int) != (M : Int)) = b := ⟨_, rfl⟩
  have hor : br = false ∨ bn = true := by
    cases br with
    | false => exact .inl rfl
    | true => exact .inr (by rw [← hbn]; simpa using fun e : (N : Int) = (M : Int) => hok ⟨rfl, by omega⟩)
  have HOR := Lib.hid hor
  clear hok hor
  go_enter Tryd.func24, Tryd.ntmps24
  go_wp2_with fail
  refine (HPL.out w1 HA0.out).mono ?_
  rintro e W1 ⟨rfl, hb⟩
  have HA1 := Lib.hid (HA0.out.below hb)
  clear hb p0 p1 p2' q0 q1 q2 r0 r1 f0 f1
  obtain ⟨p0, p1, p2', q0, q1, q2, r0, r1, f0, f1⟩ := HA1.out.cells
  have HF : Hid (Below g w ((W1.setCell ⟨g + 1 + 1, 0, none⟩ (.int .i64 0)).setCell ⟨g + 1 + 1, 1, none⟩ (.slice none 0 0))) := HA1.out.pl.be.trans ((set1_below _ 0 _ (by omega)).trans (set1_below _ 1 _ (by omega)))
  have HR := Lib.hid ((HA1.out.rs.set0 0).set (.slice none 0 0))
  cases br with
  | false =>
    go_wp2_with fail
    clear r0 r1 f0 f1
    generalize (W1.setCell ⟨g + 1 + 1, 0, none⟩ (.int .i64 0)).setCell ⟨g + 1 + 1, 1, none⟩ (.slice none 0 0) = W9 at *
    have r0 := HR.out.c0
    have r1 := HR.out.c1
    refine bodyPost_ret (v := .tuple #[.agg #[.int .i64 0, .slice none 0 0], .int .i64 1]) (by simp [results, Tryd.results24, go_sem, r0, r1]) rfl ?_
    exact ⟨_, rfl, gath_nil _ _, HF.out⟩
  | true =>
    have hbt : bn = true := by rcases HOR.out with h | h; cases h; exact h
    subst hbt
    go_wp2_with fail
    clear r0 r1 f0 f1
    generalize (W1.setCell ⟨g + 1 + 1, 0, none⟩ (.int .i64 0)).setCell ⟨g + 1 + 1, 1, none⟩ (.slice none 0 0) = W9 at *
    have r0 := HR.out.c0
    have r1 := HR.out.c1
    refine bodyPost_ret (v := .tuple #[.agg #[.int .i64 0, .slice none 0 0], .int .i64 1]) (by simp [results, Tryd.results24, go_sem, r0, r1]) rfl ?_
    exact ⟨_, rfl, gath_nil _ _, HF.out⟩
end Go.Proofs.YtomnncainedjdaaDoor
