
/- The program's package reshare: Join. -/
import Derived.Test.YtgenollnnfljkaaDoorZPr2
import Derived.Deep.RegionLaw
namespace Go.Proofs.YtgenollnnfljkaaDoor
open Go.RowKit Go.Sort
open Num
set_option linter.unusedVariables false

/-- Two plans, and the share to be returned. -/
structure JoW (w0 W : World) (g : Nat) (p k n p2 k2 n2 : Int) : Prop where
  pl : Pl2 w0 W g p k n p2 k2 n2
  rs : ShAt W (g + 1 + 1) 0 (.slice none 0 0)
theorem JoW.below {w0 W W' : World} {g : Nat} {p k n p2 k2 n2 : Int} (h : JoW w0 W g p k n p2 k2 n2) (b : Below W.heap.size W W') : JoW w0 W' g p k n p2 k2 n2 :=
  ⟨h.pl.below b, h.rs.below b h.rs.lt⟩
theorem joW_new (w : World) (hw : Wheel w) (p k n p2 k2 n2 : Int) (t0 t1 t2 : TypeId) : JoW w (((w.alloc (Obj.cells #[Value.int IntKind.i64 p, Value.int IntKind.i64 k, Value.int IntKind.i64 n] t0)).alloc (Obj.cells #[Value.int IntKind.i64 p2, Value.int IntKind.i64 k2, Value.int IntKind.i64 n2] t1)).alloc (Obj.cells #[Value.int IntKind.i64 0, .slice none 0 0] t2)) w.heap.size p k n p2 k2 n2 :=
  ⟨(pl3_new w hw p k n p2 k2 n2 0 (.slice none 0 0) t0 t1 t2).pl, (pl3_new w hw p k n p2 k2 n2 0 (.slice none 0 0) t0 t1 t2).sh⟩
theorem JoW.cells {w0 W : World} {g : Nat} {p k n p2 k2 n2 : Int} (h : JoW w0 W g p k n p2 k2 n2) : W.cell? ⟨g, 0, none⟩ = some (.int .i64 p) ∧ W.cell? ⟨g, 1, none⟩ = some (.int .i64 k) ∧ W.cell? ⟨g, 2, none⟩ = some (.int .i64 n) ∧ W.cell? ⟨g + 1, 0, none⟩ = some (.int .i64 p2) ∧ W.cell? ⟨g + 1, 1, none⟩ = some (.int .i64 k2) ∧ W.cell? ⟨g + 1, 2, none⟩ = some (.int .i64 n2) ∧ W.cell? ⟨g + 1 + 1, 0, none⟩ = some (.int .i64 0) ∧ W.cell? ⟨g + 1 + 1, 1, none⟩ = some (.slice none 0 0) ∧ W.frozen? ⟨g + 1 + 1, 0, none⟩ = false ∧ W.frozen? ⟨g + 1 + 1, 1, none⟩ = false :=
  ⟨h.pl.a.c0, h.pl.a.c1, h.pl.a.c2, h.pl.b.c0, h.pl.b.c1, h.pl.b.c2, h.rs.c0, h.rs.c1, h.rs.fr 0, h.rs.fr 1⟩
set_option maxRecDepth 100000 in
set_option maxHeartbeats 16000000 in
theorem reshare_join_err (p k n p2 k2 n2 : Int) (vf vl : Value) (xs : List Int) (L : List Shr) (w : World) (hw : Wheel w) (hp : (Lit.int .i64 p).wf = true) (hp2 : (Lit.int .i64 p2).wf = true) (hf : Ints w vf xs) (hs : Shares w vl L) (hL : ∀ x ∈ L, x.2.length ≤ 1000000) (hE : joinE p k n p2 k2 n2 xs L ≠ 0) :
    Calls Tryd.prog 23 #[planV p k n, planV p2 k2 n2, vf, vl] w fun e w' => ∃ v', e = .returned (.tuple #[shareV (joinR p k n p2 k2 n2 xs L).1 v', .int .i64 (joinE p k n p2 k2 n2 xs L)]) ∧ Gath w' w.heap.size v' (joinR p k n p2 k2 n2 xs L).2 ∧ Below w.heap.size w w' := by
  unfold planV shareV
  obtain ⟨af, cf, rfl⟩ := hf.shape
  obtain ⟨al, cl, rfl, hL1, _⟩ := id hs
  obtain ⟨N, hN⟩ : ∃ N, xs.length = N := ⟨_, rfl⟩
  obtain ⟨M, hM⟩ : ∃ M, L.length = M := ⟨_, rfl⟩
  obtain ⟨g, hgw⟩ : ∃ g, w.heap.size = g := ⟨_, rfl⟩
  obtain ⟨w1, hw1⟩ : ∃ w1, ((w.alloc (Obj.cells #[Value.int IntKind.i64 p, Value.int IntKind.i64 k, Value.int IntKind.i64 n] 30)).alloc (Obj.cells #[Value.int IntKind.i64 p2, Value.int IntKind.i64 k2, Value.int IntKind.i64 n2] 30)).alloc (Obj.cells #[Value.int IntKind.i64 0, .slice none 0 0] 38) = w1 := ⟨_, rfl⟩
  have HA0 : Hid (JoW w w1 g p k n p2 k2 n2) := by rw [← hw1, ← hgw]; exact joW_new w hw _ _ _ _ _ _ _ _ _
  have HREL := Lib.hid (fun W (q : JoW w W g p k n p2 k2 n2) => reshare_related p k n p2 k2 n2 W q.pl.wh hp hp2)
  have HDIF := Lib.hid (fun W (q : JoW w W g p k n p2 k2 n2) (h16 : n ≤ 16) => reshare_different p k n (.slice af xs.length cf) xs W h16 (hf.below (Nat.le_of_eq hgw) q.pl.be))
  have HALK := Lib.hid (fun W (q : JoW w W g p k n p2 k2 n2) (hpb : planB p2 k2 n2 = true) => reshare_alike p2 k2 n2 (.slice al L.length cl) L W q.pl.wh hp2 hpb (hs.below (Nat.le_of_eq hgw) q.pl.be) hL)
  unfold planV at HREL HDIF HALK
  have HNO : Hid (¬ (relB p k n p2 k2 n2 = true ∧ diffB n xs = true ∧ L.length = xs.length ∧ alikeB p2 n2 L = true) → joinE p k n p2 k2 n2 xs L = 1 ∧ joinR p k n p2 k2 n2 xs L = (0, [])) := fun h => joinE_no h
  have HFEW : Hid (relB p k n p2 k2 n2 = true ∧ diffB n xs = true ∧ L.length = xs.length ∧ alikeB p2 n2 L = true → (xs.length : Int) < k → joinE p k n p2 k2 n2 xs L = 5 ∧ joinR p k n p2 k2 n2 xs L = (0, [])) := fun h h2 => joinE_few h h2
  have HOK : Hid (relB p k n p2 k2 n2 = true ∧ diffB n xs = true ∧ L.length = xs.length ∧ alikeB p2 n2 L = true → k ≤ (xs.length : Int) → joinE p k n p2 k2 n2 xs L = 0 ∧ joinR p k n p2 k2 n2 xs L = ((L.getD 0 (0, [])).1, joinL p xs L xs.length)) := fun h h2 => joinE_ok h h2
  have HPB : Hid (relB p k n p2 k2 n2 = true → n ≤ 16 ∧ planB p2 k2 n2 = true) := fun h => ⟨(planB_parts (relB_parts h).2.1).2.2.2.2.1, (relB_parts h).2.2⟩
  obtain ⟨br, hbr⟩ : ∃ b, relB p k n p2 k2 n2 = b := ⟨_, rfl⟩
  obtain ⟨bd, hbd⟩ : ∃ b, diffB n xs = b := ⟨_, rfl⟩
  obtain ⟨ba, hba⟩ : ∃ b, alikeB p2 n2 L = b := ⟨_, rfl⟩
  rw [hbr] at HREL HNO HOK HFEW HPB 
  rw [hbd] at HDIF HNO HOK HFEW
  rw [hba] at HALK HNO HOK HFEW
  have hNb : N ≤ 140737488355328 := by rw [← hN]; obtain ⟨_, _, _, h, _⟩ := id hf; exact h
  rw [hN] at HDIF HNO HOK HFEW ⊢
  rw [hM] at HALK HNO HOK HFEW hL1 ⊢
  rw [hgw]
  clear hw hp hp2 hf hs hL hbr hbd hba
  have HNN := Lib.hid hN
  have HEE := Lib.hid hE
  clear hN hM hE
  obtain ⟨p0, p1, p2', q0, q1, q2, r0, r1, f0, f1⟩ := HA0.out.cells
  cases br with
  | false =>
    obtain ⟨e1, e2⟩ := HNO.out (by simp)
    rw [e1, e2]
    clear e1 e2 HEE
    go_enter Tryd.func23, Tryd.ntmps23
    go_wp2_with fail
    refine (HREL.out w1 HA0.out).mono ?_
    rintro e W1 ⟨rfl, hb⟩
    have HA1 := Lib.hid (HA0.out.below hb)
    clear hb p0 p1 p2' q0 q1 q2 r0 r1 f0 f1
    obtain ⟨p0, p1, p2', q0, q1, q2, r0, r1, f0, f1⟩ := HA1.out.cells
    go_wp2_with fail
    have HF : Hid (Below g w ((W1.setCell ⟨g + 1 + 1, 0, none⟩ (.int .i64 0)).setCell ⟨g + 1 + 1, 1, none⟩ (.slice none 0 0))) := HA1.out.pl.be.trans ((set1_below _ 0 _ (by omega)).trans (set1_below _ 1 _ (by omega)))
    have hr := (HA1.out.rs.set0 0).set (.slice none 0 0)
    clear r0 r1 f0 f1
    generalize (W1.setCell ⟨g + 1 + 1, 0, none⟩ (.int .i64 0)).setCell ⟨g + 1 + 1, 1, none⟩ (.slice none 0 0) = W9 at *
    have r0 := hr.c0
    have r1 := hr.c1
    refine bodyPost_ret (v := .tuple #[.agg #[.int .i64 0, .slice none 0 0], .int .i64 1]) (by simp [results, Tryd.results23, go_sem, r0, r1]) rfl ?_
    exact ⟨_, rfl, gath_nil _ _, HF.out⟩
  | true =>
    have hpt := HPB.out rfl
    have HPT := Lib.hid hpt
    clear HPB hpt
    cases bd with
    | false =>
      obtain ⟨e1, e2⟩ := HNO.out (by simp)
      rw [e1, e2]
      clear e1 e2 HEE
      go_enter Tryd.func23, Tryd.ntmps23
      go_wp2_with fail
      refine (HREL.out w1 HA0.out).mono ?_
      rintro e W1 ⟨rfl, hb⟩
      have HA1 := Lib.hid (HA0.out.below hb)
      clear hb p0 p1 p2' q0 q1 q2 r0 r1 f0 f1
      obtain ⟨p0, p1, p2', q0, q1, q2, r0, r1, f0, f1⟩ := HA1.out.cells
      go_wp2_with fail
      refine (HDIF.out W1 HA1.out HPT.out.1).mono ?_
      rintro e W2 ⟨rfl, hb⟩
      have HA2 := Lib.hid (HA1.out.below hb)
      clear hb p0 p1 p2' q0 q1 q2 r0 r1 f0 f1
      obtain ⟨p0, p1, p2', q0, q1, q2, r0, r1, f0, f1⟩ := HA2.out.cells
      go_wp2_with fail
      have HF : Hid (Below g w ((W2.setCell ⟨g + 1 + 1, 0, none⟩ (.int .i64 0)).setCell ⟨g + 1 + 1, 1, none⟩ (.slice none 0 0))) := HA2.out.pl.be.trans ((set1_below _ 0 _ (by omega)).trans (set1_below _ 1 _ (by omega)))
      have hr := (HA2.out.rs.set0 0).set (.slice none 0 0)
      clear r0 r1 f0 f1
      generalize (W2.setCell ⟨g + 1 + 1, 0, none⟩ (.int .i64 0)).setCell ⟨g + 1 + 1, 1, none⟩ (.slice none 0 0) = W9 at *
      have r0 := hr.c0
      have r1 := hr.c1
      refine bodyPost_ret (v := .tuple #[.agg #[.int .i64 0, .slice none 0 0], .int .i64 1]) (by simp [results, Tryd.results23, go_sem, r0, r1]) rfl ?_
      exact ⟨_, rfl, gath_nil _ _, HF.out⟩
    | true =>
      by_cases hMN : M = N
      · subst hMN
        have n1 : ((M : Int) != (M : Int)) = false := by simp
        cases ba with
        | false =>
          obtain ⟨e1, e2⟩ := HNO.out (by simp)
          rw [e1, e2]
          clear e1 e2 HEE
          go_enter Tryd.func23, Tryd.ntmps23
          go_wp2_with fail
          refine (HREL.out w1 HA0.out).mono ?_
          rintro e W1 ⟨rfl, hb⟩
          have HA1 := Lib.hid (HA0.out.below hb)
          clear hb p0 p1 p2' q0 q1 q2 r0 r1 f0 f1
          obtain ⟨p0, p1, p2', q0, q1, q2, r0, r1, f0, f1⟩ := HA1.out.cells
          go_wp2_with fail
          refine (HDIF.out W1 HA1.out HPT.out.1).mono ?_
          rintro e W2 ⟨rfl, hb⟩
          have HA2 := Lib.hid (HA1.out.below hb)
          clear hb p0 p1 p2' q0 q1 q2 r0 r1 f0 f1
          obtain ⟨p0, p1, p2', q0, q1, q2, r0, r1, f0, f1⟩ := HA2.out.cells
          go_wp2_with fail
          refine (HALK.out W2 HA2.out HPT.out.2).mono ?_
          rintro e W3 ⟨rfl, hb⟩
          have HA3 := Lib.hid (HA2.out.below hb)
          clear hb p0 p1 p2' q0 q1 q2 r0 r1 f0 f1
          obtain ⟨p0, p1, p2', q0, q1, q2, r0, r1, f0, f1⟩ := HA3.out.cells
          go_wp2_with fail
          have HF : Hid (Below g w ((W3.setCell ⟨g + 1 + 1, 0, none⟩ (.int .i64 0)).setCell ⟨g + 1 + 1, 1, none⟩ (.slice none 0 0))) := HA3.out.pl.be.trans ((set1_below _ 0 _ (by omega)).trans (set1_below _ 1 _ (by omega)))
          have hr := (HA3.out.rs.set0 0).set (.slice none 0 0)
          clear r0 r1 f0 f1
          generalize (W3.setCell ⟨g + 1 + 1, 0, none⟩ (.int .i64 0)).setCell ⟨g + 1 + 1, 1, none⟩ (.slice none 0 0) = W9 at *
          have r0 := hr.c0
          have r1 := hr.c1
          refine bodyPost_ret (v := .tuple #[.agg #[.int .i64 0, .slice none 0 0], .int .i64 1]) (by simp [results, Tryd.results23, go_sem, r0, r1]) rfl ?_
          exact ⟨_, rfl, gath_nil _ _, HF.out⟩
        | true =>
          by_cases hfw : (M : Int) < k
          · obtain ⟨e1, e2⟩ := HFEW.out ⟨rfl, rfl, rfl, rfl⟩ hfw
            rw [e1, e2]
            clear e1 e2 HEE
            go_enter Tryd.func23, Tryd.ntmps23
            go_wp2_with fail
            refine (HREL.out w1 HA0.out).mono ?_
            rintro e W1 ⟨rfl, hb⟩
            have HA1 := Lib.hid (HA0.out.below hb)
            clear hb p0 p1 p2' q0 q1 q2 r0 r1 f0 f1
            obtain ⟨p0, p1, p2', q0, q1, q2, r0, r1, f0, f1⟩ := HA1.out.cells
            go_wp2_with fail
            refine (HDIF.out W1 HA1.out HPT.out.1).mono ?_
            rintro e W2 ⟨rfl, hb⟩
            have HA2 := Lib.hid (HA1.out.below hb)
            clear hb p0 p1 p2' q0 q1 q2 r0 r1 f0 f1
            obtain ⟨p0, p1, p2', q0, q1, q2, r0, r1, f0, f1⟩ := HA2.out.cells
            go_wp2_with fail
            refine (HALK.out W2 HA2.out HPT.out.2).mono ?_
            rintro e W3 ⟨rfl, hb⟩
            have HA3 := Lib.hid (HA2.out.below hb)
            clear hb p0 p1 p2' q0 q1 q2 r0 r1 f0 f1
            obtain ⟨p0, p1, p2', q0, q1, q2, r0, r1, f0, f1⟩ := HA3.out.cells
            go_wp2_with fail
            have HF : Hid (Below g w ((W3.setCell ⟨g + 1 + 1, 0, none⟩ (.int .i64 0)).setCell ⟨g + 1 + 1, 1, none⟩ (.slice none 0 0))) := HA3.out.pl.be.trans ((set1_below _ 0 _ (by omega)).trans (set1_below _ 1 _ (by omega)))
            have hr := (HA3.out.rs.set0 0).set (.slice none 0 0)
            clear r0 r1 f0 f1
            generalize (W3.setCell ⟨g + 1 + 1, 0, none⟩ (.int .i64 0)).setCell ⟨g + 1 + 1, 1, none⟩ (.slice none 0 0) = W9 at *
            have r0 := hr.c0
            have r1 := hr.c1
            refine bodyPost_ret (v := .tuple #[.agg #[.int .i64 0, .slice none 0 0], .int .i64 5]) (by simp [results, Tryd.results23, go_sem, r0, r1]) rfl ?_
            exact ⟨_, rfl, gath_nil _ _, HF.out⟩
          · exact absurd (HOK.out ⟨rfl, rfl, rfl, rfl⟩ (by omega)).1 HEE.out
      · have n1 : ((M : Int) != (N : Int)) = true := by simp only [bne_iff_ne]; omega
        obtain ⟨e1, e2⟩ := HNO.out (fun h => hMN h.2.2.1)
        rw [e1, e2]
        clear e1 e2 HEE
        go_enter Tryd.func23, Tryd.ntmps23
        go_wp2_with fail
        refine (HREL.out w1 HA0.out).mono ?_
        rintro e W1 ⟨rfl, hb⟩
        have HA1 := Lib.hid (HA0.out.below hb)
        clear hb p0 p1 p2' q0 q1 q2 r0 r1 f0 f1
        obtain ⟨p0, p1, p2', q0, q1, q2, r0, r1, f0, f1⟩ := HA1.out.cells
        go_wp2_with fail
        refine (HDIF.out W1 HA1.out HPT.out.1).mono ?_
        rintro e W2 ⟨rfl, hb⟩
        have HA2 := Lib.hid (HA1.out.below hb)
        clear hb p0 p1 p2' q0 q1 q2 r0 r1 f0 f1
        obtain ⟨p0, p1, p2', q0, q1, q2, r0, r1, f0, f1⟩ := HA2.out.cells
        go_wp2_with fail
        have HF : Hid (Below g w ((W2.setCell ⟨g + 1 + 1, 0, none⟩ (.int .i64 0)).setCell ⟨g + 1 + 1, 1, none⟩ (.slice none 0 0))) := HA2.out.pl.be.trans ((set1_below _ 0 _ (by omega)).trans (set1_below _ 1 _ (by omega)))
        have hr := (HA2.out.rs.set0 0).set (.slice none 0 0)
        clear r0 r1 f0 f1
        generalize (W2.setCell ⟨g + 1 + 1, 0, none⟩ (.int .i64 0)).setCell ⟨g + 1 + 1, 1, none⟩ (.slice none 0 0) = W9 at *
        have r0 := hr.c0
        have r1 := hr.c1
        refine bodyPost_ret (v := .tuple #[.agg #[.int .i64 0, .slice none 0 0], .int .i64 1]) (by simp [results, Tryd.results23, go_sem, r0, r1]) rfl ?_
        exact ⟨_, rfl, gath_nil _ _, HF.out⟩
end Go.Proofs.YtgenollnnfljkaaDoor
