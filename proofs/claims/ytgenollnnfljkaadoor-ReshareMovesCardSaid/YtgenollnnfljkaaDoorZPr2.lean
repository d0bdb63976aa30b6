
/- The program's package reshare: Split. -/
import Derived.Test.YtgenollnnfljkaaDoorZPr1
namespace Go.Proofs.YtgenollnnfljkaaDoor
open Go.RowKit Go.Sort
open Num
set_option linter.unusedVariables false

/-- Two plans and a share that lie one behind the other. -/
structure Pl3 (w0 W : World) (g : Nat) (p k n p2 k2 n2 h : Int) (v : Value) : Prop where
  pl : Pl2 w0 W g p k n p2 k2 n2
  sh : ShAt W (g + 1 + 1) h v
theorem Pl3.below {w0 W W' : World} {g : Nat} {p k n p2 k2 n2 h : Int} {v : Value} (q : Pl3 w0 W g p k n p2 k2 n2 h v) (b : Below W.heap.size W W') : Pl3 w0 W' g p k n p2 k2 n2 h v :=
  ⟨q.pl.below b, q.sh.below b q.sh.lt⟩
theorem pl3_new (w : World) (hw : Wheel w) (p k n p2 k2 n2 h : Int) (v : Value) (t0 t1 t2 : TypeId) : Pl3 w (((w.alloc (Obj.cells #[Value.int IntKind.i64 p, Value.int IntKind.i64 k, Value.int IntKind.i64 n] t0)).alloc (Obj.cells #[Value.int IntKind.i64 p2, Value.int IntKind.i64 k2, Value.int IntKind.i64 n2] t1)).alloc (Obj.cells #[Value.int IntKind.i64 h, v] t2)) w.heap.size p k n p2 k2 n2 h v := by
  refine ⟨(pl2_new w hw p k n p2 k2 n2 t0 t1).below ((Below.refl _ _).alloc (Nat.le_refl _) _), ?_⟩
  have := shAt_new ((w.alloc (Obj.cells #[Value.int IntKind.i64 p, Value.int IntKind.i64 k, Value.int IntKind.i64 n] t0)).alloc (Obj.cells #[Value.int IntKind.i64 p2, Value.int IntKind.i64 k2, Value.int IntKind.i64 n2] t1)) h v t2
  rwa [show ((w.alloc (Obj.cells #[Value.int IntKind.i64 p, Value.int IntKind.i64 k, Value.int IntKind.i64 n] t0)).alloc (Obj.cells #[Value.int IntKind.i64 p2, Value.int IntKind.i64 k2, Value.int IntKind.i64 n2] t1)).heap.size = w.heap.size + 1 + 1 by simp] at this
theorem Pl3.cells {w0 W : World} {g : Nat} {p k n p2 k2 n2 h : Int} {v : Value} (q : Pl3 w0 W g p k n p2 k2 n2 h v) : W.cell? ⟨g, 0, none⟩ = some (.int .i64 p) ∧ W.cell? ⟨g, 1, none⟩ = some (.int .i64 k) ∧ W.cell? ⟨g, 2, none⟩ = some (.int .i64 n) ∧ W.cell? ⟨g + 1, 0, none⟩ = some (.int .i64 p2) ∧ W.cell? ⟨g + 1, 1, none⟩ = some (.int .i64 k2) ∧ W.cell? ⟨g + 1, 2, none⟩ = some (.int .i64 n2) ∧ W.cell? ⟨g + 1 + 1, 0, none⟩ = some (.int .i64 h) ∧ W.cell? ⟨g + 1 + 1, 1, none⟩ = some v :=
  ⟨q.pl.a.c0, q.pl.a.c1, q.pl.a.c2, q.pl.b.c0, q.pl.b.c1, q.pl.b.c2, q.sh.c0, q.sh.c1⟩
theorem shares_lit1 {W : World} {ad : Nat} {h : Int} {v : Value} {l : List Int} (c0 : W.cell? ⟨ad, 0, none⟩ = some (.int .i64 h)) (c1 : W.cell? ⟨ad, 1, none⟩ = some v) (hI : Ints W v l) : Shares W (.slice (some ⟨ad, 0, none⟩) 1 1) [(h, l)] := by
  refine ⟨_, 1, rfl, by simp, by simp, by omega, fun _ => ⟨ad, 0, rfl, fun i hi => ?_⟩⟩
  obtain rfl : i = 0 := by simpa using hi
  exact ⟨v, c0, c1, hI⟩
set_option maxRecDepth 100000 in
set_option maxHeartbeats 8000000 in
theorem reshare_split (p k n p2 k2 n2 h : Int) (v vr : Value) (l r : List Int) (w : World) (hw : Wheel w) (hp : (Lit.int .i64 p).wf = true) (hp2 : (Lit.int .i64 p2).wf = true) (hv : Ints w v l) (hr : Slc w vr r) (hl : l.length ≤ 2048) (hrb : r.length ≤ 1000000) :
    Calls Tryd.prog 19 #[planV p k n, planV p2 k2 n2, shareV h v, vr] w fun e w' => ∃ v', e = .returned (.tuple #[v', .int .i64 (splitE p k n p2 k2 n2 (h, l) r)]) ∧ SharesN w' w.heap.size v' (splitR p k n p2 k2 n2 (h, l) r) ∧ Below w.heap.size w w' := by
  unfold planV shareV
  obtain ⟨av, cv, rfl⟩ := hv.shape
  obtain ⟨ar, cr, rfl, _, _, _⟩ := id hr
  obtain ⟨nv, hnv⟩ : ∃ nv, l.length = nv := ⟨_, rfl⟩
  obtain ⟨nr, hnr⟩ : ∃ nr, r.length = nr := ⟨_, rfl⟩
  obtain ⟨g, hgw⟩ : ∃ g, w.heap.size = g := ⟨_, rfl⟩
  obtain ⟨w1, hw1⟩ : ∃ w1, ((w.alloc (Obj.cells #[Value.int IntKind.i64 p, Value.int IntKind.i64 k, Value.int IntKind.i64 n] 30)).alloc (Obj.cells #[Value.int IntKind.i64 p2, Value.int IntKind.i64 k2, Value.int IntKind.i64 n2] 30)).alloc (Obj.cells #[Value.int IntKind.i64 h, .slice av l.length cv] 38) = w1 := ⟨_, rfl⟩
  have HA0 : Hid (Pl3 w w1 g p k n p2 k2 n2 h (.slice av l.length cv)) := by rw [← hw1, ← hgw]; exact pl3_new w hw _ _ _ _ _ _ _ _ _ _ _
  have HREL := Lib.hid (fun W (q : Pl3 w W g p k n p2 k2 n2 h (.slice av l.length cv)) => reshare_related p k n p2 k2 n2 W q.pl.wh hp hp2)
  have HALK := Lib.hid (fun W (q : Pl3 w W g p k n p2 k2 n2 h (.slice av l.length cv)) (hpb : planB p k n = true) => reshare_alike p k n (.slice (some ⟨W.heap.size, 0, none⟩) 1 1) [(h, l)] (W.alloc (.cells #[.int .i64 h, .slice av l.length cv] 38)) ((q.below ((Below.refl _ _).alloc (Nat.le_refl _) _)).pl.wh) hp hpb
    (shares_lit1 (shAt_new _ _ _ _).c0 (shAt_new _ _ _ _).c1 (hv.below (Nat.le_of_eq hgw) (q.below ((Below.refl _ _).alloc (Nat.le_refl _) _)).pl.be)) (fun x hx => by rw [List.mem_singleton.1 hx]; show l.length ≤ _; omega))
  have HDEAL := Lib.hid (fun W (q : Pl3 w W g p k n p2 k2 n2 h (.slice av l.length cv)) => share_deal_i p2 k2 n2 (.slice av l.length cv) (.slice ar r.length cr) l r W q.pl.wh hp2 (hv.below (Nat.le_of_eq hgw) q.pl.be) (hr.below (Nat.le_of_eq hgw) q.pl.be) hl hrb)
  unfold planV at HREL HALK HDEAL
  have HNO : Hid (¬ (relB p k n p2 k2 n2 = true ∧ stB p n (h, l) = true) → splitE p k n p2 k2 n2 (h, l) r = 1 ∧ splitR p k n p2 k2 n2 (h, l) r = []) := fun h => splitE_no h
  have HOK : Hid (relB p k n p2 k2 n2 = true ∧ stB p n (h, l) = true → splitE p k n p2 k2 n2 (h, l) r = dealE p2 k2 n2 l r ∧ splitR p k n p2 k2 n2 (h, l) r = dealR p2 k2 n2 l r) := fun h => splitE_ok h
  have HPB : Hid (relB p k n p2 k2 n2 = true → planB p k n = true) := fun h => (relB_parts h).2.1
  rw [alikeB_one] at HALK
  obtain ⟨br, hbr⟩ : ∃ b, relB p k n p2 k2 n2 = b := ⟨_, rfl⟩
  obtain ⟨bs, hbs⟩ : ∃ b, stB p n (h, l) = b := ⟨_, rfl⟩
  rw [hbr] at HREL HNO HOK HPB
  rw [hbs] at HALK HNO HOK
  rw [hnv] at HA0 HREL HALK HDEAL hw1 ⊢
  rw [hnr] at HDEAL ⊢
  rw [hgw]
  clear hw hp hp2 hv hr hl hrb hnv hnr hbr hbs
  obtain ⟨p0, p1, p2', q0, q1, q2, s0, s1⟩ := HA0.out.cells
  cases br with
  | false =>
    obtain ⟨e1, e2⟩ := HNO.out (by simp)
    rw [e1, e2]
    clear e1 e2
    go_enter Tryd.func19, Tryd.ntmps19
    go_wp2_with fail
    refine (HREL.out w1 HA0.out).mono ?_
    rintro e W1 ⟨rfl, hb⟩
    have HA1 := Lib.hid (HA0.out.below hb)
    clear hb
    go_wp2
    go_ret2
    exact ⟨_, rfl, sharesN_nil _ _, HA1.out.pl.be⟩
  | true =>
    have hpbt := HPB.out rfl
    have HPT := Lib.hid hpbt
    clear HPB hpbt
    cases bs with
    | false =>
      obtain ⟨e1, e2⟩ := HNO.out (by simp)
      rw [e1, e2]
      clear e1 e2
      go_enter Tryd.func19, Tryd.ntmps19
      go_wp2_with fail
      refine (HREL.out w1 HA0.out).mono ?_
      rintro e W1 ⟨rfl, hb⟩
      have HA1 := Lib.hid (HA0.out.below hb)
      clear hb p0 p1 p2' q0 q1 q2 s0 s1
      obtain ⟨p0, p1, p2', q0, q1, q2, s0, s1⟩ := HA1.out.cells
      have HQ := Lib.hid (HALK.out W1 HA1.out HPT.out)
      go_wp2_with fail
      refine HQ.out.mono ?_
      rintro e W2 ⟨rfl, hb⟩
      have HA2 := Lib.hid ((HA1.out.below ((Below.refl _ _).alloc (Nat.le_refl _) (.cells #[.int .i64 h, .slice av nv cv] 38))).below hb)
      clear hb
      go_wp2
      go_ret2
      exact ⟨_, rfl, sharesN_nil _ _, HA2.out.pl.be⟩
    | true =>
      obtain ⟨e1, e2⟩ := HOK.out (by simp)
      rw [e1, e2]
      clear e1 e2
      generalize dealE p2 k2 n2 l r = E at *
      generalize dealR p2 k2 n2 l r = R at *
      go_enter Tryd.func19, Tryd.ntmps19
      go_wp2_with fail
      refine (HREL.out w1 HA0.out).mono ?_
      rintro e W1 ⟨rfl, hb⟩
      have HA1 := Lib.hid (HA0.out.below hb)
      clear hb p0 p1 p2' q0 q1 q2 s0 s1
      obtain ⟨p0, p1, p2', q0, q1, q2, s0, s1⟩ := HA1.out.cells
      have HQ := Lib.hid (HALK.out W1 HA1.out HPT.out)
      go_wp2_with fail
      refine HQ.out.mono ?_
      rintro e W2 ⟨rfl, hb⟩
      have HA2 := Lib.hid ((HA1.out.below ((Below.refl _ _).alloc (Nat.le_refl _) (.cells #[.int .i64 h, .slice av nv cv] 38))).below hb)
      clear hb p0 p1 p2' q0 q1 q2 s0 s1
      obtain ⟨p0, p1, p2', q0, q1, q2, s0, s1⟩ := HA2.out.cells
      have HD := Lib.hid (HDEAL.out W2 HA2.out)
      clear HQ HNO HOK HREL HALK HDEAL
      go_wp2_with fail
      refine HD.out.mono ?_
      rintro e W3 ⟨v', rfl, hs, hb⟩
      have HA3 := Lib.hid (HA2.out.below hb)
      have HS3 := Lib.hid (hs.mono (B' := g) (by have := HA2.out.pl.lt; omega))
      clear hs hb
      go_wp2
      go_ret2
      exact ⟨_, rfl, HS3.out, HA3.out.pl.be⟩
end Go.Proofs.YtgenollnnfljkaaDoor
