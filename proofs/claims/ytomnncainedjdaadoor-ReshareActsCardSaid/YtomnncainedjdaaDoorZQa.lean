
/- The document's answer for layer 9: whether two plans go together, Split. -/
import Derived.Test.YtomnncainedjdaaDoorZPr1
namespace Go.Proofs.YtomnncainedjdaaDoor
open Go.RowKit Go.Sort
open Num
set_option linter.unusedVariables false

set_option maxRecDepth 100000 in
set_option maxHeartbeats 4000000 in
theorem ref9_plans (p k n p2 k2 n2 : Int) (w : World) (hw : Wheel w) (hp : (Lit.int .i64 p).wf = true) (hp2 : (Lit.int .i64 p2).wf = true) :
    Calls Tryd.prog 38 #[planV p k n, planV p2 k2 n2] w fun e w' => e = .returned (.bool (relB p k n p2 k2 n2)) ∧ Below w.heap.size w w' := by
  unfold planV
  obtain ⟨g, hgw⟩ : ∃ g, w.heap.size = g := ⟨_, rfl⟩
  obtain ⟨w1, hw1⟩ : ∃ w1, (w.alloc (Obj.cells #[Value.int IntKind.i64 p, Value.int IntKind.i64 k, Value.int IntKind.i64 n] 30)).alloc (Obj.cells #[Value.int IntKind.i64 p2, Value.int IntKind.i64 k2, Value.int IntKind.i64 n2] 30) = w1 := ⟨_, rfl⟩
  have HA0 : Hid (Pl2 w w1 g p k n p2 k2 n2) := by rw [← hw1, ← hgw]; exact pl2_new w hw _ _ _ _ _ _ _ _
  have HV1 := Lib.hid (fun W (h : Pl2 w W g p k n p2 k2 n2) => ref6_valid p k n W hp)
  have HV2 := Lib.hid (fun W (h : Pl2 w W g p k n p2 k2 n2) => ref6_valid p2 k2 n2 W hp2)
  unfold planV at HV1 HV2
  obtain ⟨b1, hb1⟩ : ∃ b, planB p k n = b := ⟨_, rfl⟩
  obtain ⟨b2, hb2⟩ : ∃ b, planB p2 k2 n2 = b := ⟨_, rfl⟩
  rw [hb1] at HV1
  rw [hb2] at HV2
  have HE : Hid (relB p k n p2 k2 n2 = (decide (p = p2) && b1 && b2)) := by show _ = _; unfold relB; rw [hb1, hb2]
  rw [HE.out, hgw]
  clear hw hp hp2 hb1 hb2 HE
  obtain ⟨p0, p1, p2', q0, q1, q2⟩ := HA0.out.cells
  obtain ⟨be, hbe⟩ : ∃ b, decide (p = p2) = b := ⟨_, rfl⟩
  have e0 : (p == p2) = be := by rw [← hbe]; by_cases h : p = p2 <;> simp [h]
  rw [hbe]
  clear hbe
  cases b1 with
  | false =>
    go_enter Tryd.func38, Tryd.ntmps38
    go_wp2_with fail
    refine (HV1.out w1 HA0.out).mono ?_
    rintro e W1 ⟨rfl, hb⟩
    have HA1 := Lib.hid (HA0.out.below hb)
    clear hb
    go_wp2
    go_ret
    exact ⟨by simp, HA1.out.be⟩
  | true =>
    go_enter Tryd.func38, Tryd.ntmps38
    go_wp2_with fail
    refine (HV1.out w1 HA0.out).mono ?_
    rintro e W1 ⟨rfl, hb⟩
    have HA1 := Lib.hid (HA0.out.below hb)
    clear hb p0 p1 p2' q0 q1 q2
    obtain ⟨p0, p1, p2', q0, q1, q2⟩ := HA1.out.cells
    go_wp2_with fail
    refine (HV2.out W1 HA1.out).mono ?_
    rintro e W2 ⟨rfl, hb⟩
    have HA2 := Lib.hid (HA1.out.below hb)
    clear hb p0 p1 p2' q0 q1 q2
    obtain ⟨p0, p1, p2', q0, q1, q2⟩ := HA2.out.cells
    cases b2 with
    | false =>
      go_wp2
      go_ret
      exact ⟨by simp, HA2.out.be⟩
    | true =>
      go_wp2
      go_ret
      exact ⟨by simp, HA2.out.be⟩
set_option maxRecDepth 100000 in
set_option maxHeartbeats 8000000 in
theorem ref9_split (p k n p2 k2 n2 h : Int) (v vr : Value) (l r : List Int) (w : World) (hw : Wheel w) (hp : (Lit.int .i64 p).wf = true) (hp2 : (Lit.int .i64 p2).wf = true) (hv : Ints w v l) (hr : Slc w vr r) (hl : l.length ≤ 2048) :
    Calls Tryd.prog 20 #[planV p k n, planV p2 k2 n2, shareV h v, vr] w fun e w' => ∃ v', e = .returned (.tuple #[v', .int .i64 (splitE p k n p2 k2 n2 (h, l) r)]) ∧ GathS w' w.heap.size v' (splitR p k n p2 k2 n2 (h, l) r) ∧ Below w.heap.size w w' := by
  unfold planV shareV
  obtain ⟨av, cv, rfl⟩ := hv.shape
  obtain ⟨ar, cr, rfl, _, _, _⟩ := id hr
  obtain ⟨nv, hnv⟩ : ∃ nv, l.length = nv := ⟨_, rfl⟩
  obtain ⟨nr, hnr⟩ : ∃ nr, r.length = nr := ⟨_, rfl⟩
  obtain ⟨g, hgw⟩ : ∃ g, w.heap.size = g := ⟨_, rfl⟩
  obtain ⟨w1, hw1⟩ : ∃ w1, ((w.alloc (Obj.cells #[Value.int IntKind.i64 p, Value.int IntKind.i64 k, Value.int IntKind.i64 n] 30)).alloc (Obj.cells #[Value.int IntKind.i64 p2, Value.int IntKind.i64 k2, Value.int IntKind.i64 n2] 30)).alloc (Obj.cells #[Value.int IntKind.i64 h, .slice av l.length cv] 38) = w1 := ⟨_, rfl⟩
  have HA0 : Hid (Pl3 w w1 g p k n p2 k2 n2 h (.slice av l.length cv)) := by rw [← hw1, ← hgw]; exact pl3_new w hw _ _ _ _ _ _ _ _ _ _ _
  have HREL := Lib.hid (fun W (q : Pl3 w W g p k n p2 k2 n2 h (.slice av l.length cv)) => ref9_plans p k n p2 k2 n2 W q.pl.wh hp hp2)
  have HALK := Lib.hid (fun W (q : Pl3 w W g p k n p2 k2 n2 h (.slice av l.length cv)) => ref6_stands p k n h (.slice av l.length cv) l W hp (hv.below (Nat.le_of_eq hgw) q.pl.be))
  have HDEAL := Lib.hid (fun W (q : Pl3 w W g p k n p2 k2 n2 h (.slice av l.length cv)) => ref6_deal_any p2 k2 n2 av l.length cv l r (.slice ar r.length cr) W hp2 (hv.below (Nat.le_of_eq hgw) q.pl.be) rfl (hr.below (Nat.le_of_eq hgw) q.pl.be) hl)
  unfold planV at HREL HALK HDEAL
  unfold shareV at HALK
  have HNO : Hid (¬ (relB p k n p2 k2 n2 = true ∧ stB p n (h, l) = true) → splitE p k n p2 k2 n2 (h, l) r = 1 ∧ splitR p k n p2 k2 n2 (h, l) r = []) := fun h => splitE_no h
  have HOK : Hid (relB p k n p2 k2 n2 = true ∧ stB p n (h, l) = true → splitE p k n p2 k2 n2 (h, l) r = dealE p2 k2 n2 l r ∧ splitR p k n p2 k2 n2 (h, l) r = dealR p2 k2 n2 l r) := fun h => splitE_ok h
  obtain ⟨br, hbr⟩ : ∃ b, relB p k n p2 k2 n2 = b := ⟨_, rfl⟩
  obtain ⟨bs, hbs⟩ : ∃ b, stB p n (h, l) = b := ⟨_, rfl⟩
  rw [hbr] at HREL HNO HOK
  rw [hbs] at HALK HNO HOK
  rw [hnv] at HA0 HREL HALK HDEAL hw1 ⊢
  rw [hnr] at HDEAL ⊢
  rw [hgw]
  clear hw hp hp2 hv hr hl hnv hnr hbr hbs
  obtain ⟨p0, p1, p2', q0, q1, q2, s0, s1⟩ := HA0.out.cells
  cases br with
  | false =>
    obtain ⟨e1, e2⟩ := HNO.out (by simp)
    rw [e1, e2]
    clear e1 e2
    go_enter Tryd.func20, Tryd.ntmps20
    go_wp2_with fail
    refine (HREL.out w1 HA0.out).mono ?_
    rintro e W1 ⟨rfl, hb⟩
    have HA1 := Lib.hid (HA0.out.below hb)
    clear hb
    go_wp2
    go_ret2
    exact ⟨_, rfl, gathS_nil _ _, HA1.out.pl.be⟩
  | true =>
    cases bs with
    | false =>
      obtain ⟨e1, e2⟩ := HNO.out (by simp)
      rw [e1, e2]
      clear e1 e2
      go_enter Tryd.func20, Tryd.ntmps20
      go_wp2_with fail
      refine (HREL.out w1 HA0.out).mono ?_
      rintro e W1 ⟨rfl, hb⟩
      have HA1 := Lib.hid (HA0.out.below hb)
      clear hb p0 p1 p2' q0 q1 q2 s0 s1
      obtain ⟨p0, p1, p2', q0, q1, q2, s0, s1⟩ := HA1.out.cells
      go_wp2_with fail
      refine (HALK.out W1 HA1.out).mono ?_
      rintro e W2 ⟨rfl, hb⟩
      have HA2 := Lib.hid (HA1.out.below hb)
      clear hb
      go_wp2
      go_ret2
      exact ⟨_, rfl, gathS_nil _ _, HA2.out.pl.be⟩
    | true =>
      obtain ⟨e1, e2⟩ := HOK.out (by simp)
      rw [e1, e2]
      clear e1 e2
      go_enter Tryd.func20, Tryd.ntmps20
      go_wp2_with fail
      refine (HREL.out w1 HA0.out).mono ?_
      rintro e W1 ⟨rfl, hb⟩
      have HA1 := Lib.hid (HA0.out.below hb)
      clear hb p0 p1 p2' q0 q1 q2 s0 s1
      obtain ⟨p0, p1, p2', q0, q1, q2, s0, s1⟩ := HA1.out.cells
      go_wp2_with fail
      refine (HALK.out W1 HA1.out).mono ?_
      rintro e W2 ⟨rfl, hb⟩
      have HA2 := Lib.hid (HA1.out.below hb)
      clear hb p0 p1 p2' q0 q1 q2 s0 s1
      obtain ⟨p0, p1, p2', q0, q1, q2, s0, s1⟩ := HA2.out.cells
      go_wp2_with fail
      refine (HDEAL.out W2 HA2.out).mono ?_
      rintro e W3 ⟨v, rfl, hg, hb⟩
      have HG := Lib.hid (hg.mono (B' := g) (Nat.le_of_lt (Nat.lt_trans (Nat.lt_succ_self g) HA2.out.pl.lt)))
      have HA3 := Lib.hid (HA2.out.below hb)
      obtain ⟨a3, c3, rfl, _⟩ := hg.shape
      clear hg hb
      go_wp2
      go_ret2
      exact ⟨_, rfl, HG.out, HA3.out.pl.be⟩
end Go.Proofs.YtomnncainedjdaaDoor
