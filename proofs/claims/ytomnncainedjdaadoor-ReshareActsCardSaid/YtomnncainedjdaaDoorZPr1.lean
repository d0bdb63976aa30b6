
/- The program's package reshare: related, different, alike. -/
import Derived.Test.YtomnncainedjdaaDoorZMth
import Derived.Deep.RegionHeld3
/-! The program's package reshare: related, different, alike. -/
namespace Go.Proofs.YtomnncainedjdaaDoor
open Go.RowKit Go.Sort
open Num
set_option linter.unusedVariables false

/-- A region whose orders all end alike, but for one value and a place. -/
theorem region_oneZ {P : Program} {id : Nat} {ops : Array Oper} {d : Bool} {Q : Exit → Act → World → Prop} {a : Act} {w : World} (R : Value → Nat → World → Prop) (A : Value → Nat → Act) (hr : (Code.region id ops d).wp P (fun e a' W => e = .normal ∧ ∃ v n, a' = A v n ∧ R v n W) a w)
    (h : ∀ v n W, R v n W → Q .normal (A v n) W) : (Code.region id ops d).wp P Q a w :=
  Code.wp_mono (fun _ _ _ ⟨h1, v, n, h2, h3⟩ => by subst h1; subst h2; exact h v n _ h3) hr
theorem below_cell {w w' : World} {a : Addr} {v : Value} (b : Below w.heap.size w w') (h : w.cell? a = some v) : w'.cell? a = some v := by
  rw [b.cell (cell_lt h)]; exact h
/-- Two plans that lie one behind the other, and the table. -/
structure Pl2 (w0 W : World) (g : Nat) (p k n p2 k2 n2 : Int) : Prop where
  a : PlanAt W g p k n
  b : PlanAt W (g + 1) p2 k2 n2
  be : Below g w0 W
  wh : Wheel W
  ta : 0 < g
theorem Pl2.lt {w0 W : World} {g : Nat} {p k n p2 k2 n2 : Int} (h : Pl2 w0 W g p k n p2 k2 n2) : g + 1 < W.heap.size := h.b.lt
theorem Pl2.below {w0 W W' : World} {g : Nat} {p k n p2 k2 n2 : Int} (h : Pl2 w0 W g p k n p2 k2 n2) (b : Below W.heap.size W W') : Pl2 w0 W' g p k n p2 k2 n2 :=
  ⟨h.a.below h.a.lt b, h.b.below h.b.lt b, h.be.trans (b.mono (by have := h.lt; omega)), h.wh.below (by have := h.lt; have := h.ta; omega) b, h.ta⟩
theorem Pl2.keep {w0 W W' : World} {g B : Nat} {p k n p2 k2 n2 : Int} (h : Pl2 w0 W g p k n p2 k2 n2) (b : Below B W W') (hB : g + 1 < B) : Pl2 w0 W' g p k n p2 k2 n2 :=
  ⟨h.a.below (by omega) b, h.b.below hB b, h.be.trans (b.mono (by omega)), h.wh.below (by have := h.ta; omega) b, h.ta⟩
theorem pl2_new (w : World) (hw : Wheel w) (p k n p2 k2 n2 : Int) (t0 t1 : TypeId) : Pl2 w ((w.alloc (Obj.cells #[Value.int IntKind.i64 p, Value.int IntKind.i64 k, Value.int IntKind.i64 n] t0)).alloc (Obj.cells #[Value.int IntKind.i64 p2, Value.int IntKind.i64 k2, Value.int IntKind.i64 n2] t1)) w.heap.size p k n p2 k2 n2 := by
  have hal : ∀ (W : World) (o : Obj), Below W.heap.size W (W.alloc o) := fun W o => (Below.refl _ _).alloc (Nat.le_refl _) o
  have b1 := hal w (Obj.cells #[Value.int IntKind.i64 p, Value.int IntKind.i64 k, Value.int IntKind.i64 n] t0)
  have b2 := hal (w.alloc (Obj.cells #[Value.int IntKind.i64 p, Value.int IntKind.i64 k, Value.int IntKind.i64 n] t0)) (Obj.cells #[Value.int IntKind.i64 p2, Value.int IntKind.i64 k2, Value.int IntKind.i64 n2] t1)
  have hb := b1.trans (b2.mono (by simp))
  refine ⟨(planAt_new w p k n t0).below (by simp) b2, ?_, hb, hw.below hw.size hb, hw.size⟩
  have := planAt_new (w.alloc (Obj.cells #[Value.int IntKind.i64 p, Value.int IntKind.i64 k, Value.int IntKind.i64 n] t0)) p2 k2 n2 t1
  rwa [show (w.alloc (Obj.cells #[Value.int IntKind.i64 p, Value.int IntKind.i64 k, Value.int IntKind.i64 n] t0)).heap.size = w.heap.size + 1 by simp] at this
theorem Pl2.cells {w0 W : World} {g : Nat} {p k n p2 k2 n2 : Int} (h : Pl2 w0 W g p k n p2 k2 n2) : W.cell? ⟨g, 0, none⟩ = some (.int .i64 p) ∧ W.cell? ⟨g, 1, none⟩ = some (.int .i64 k) ∧ W.cell? ⟨g, 2, none⟩ = some (.int .i64 n) ∧ W.cell? ⟨g + 1, 0, none⟩ = some (.int .i64 p2) ∧ W.cell? ⟨g + 1, 1, none⟩ = some (.int .i64 k2) ∧ W.cell? ⟨g + 1, 2, none⟩ = some (.int .i64 n2) :=
  ⟨h.a.c0, h.a.c1, h.a.c2, h.b.c0, h.b.c1, h.b.c2⟩
set_option maxRecDepth 100000 in
set_option maxHeartbeats 4000000 in
theorem reshare_related (p k n p2 k2 n2 : Int) (w : World) (hw : Wheel w) (hp : (Lit.int .i64 p).wf = true) (hp2 : (Lit.int .i64 p2).wf = true) :
    Calls Tryd.prog 35 #[planV p k n, planV p2 k2 n2] w fun e w' => e = .returned (.bool (relB p k n p2 k2 n2)) ∧ Below w.heap.size w w' := by
  unfold planV
  obtain ⟨g, hgw⟩ : ∃ g, w.heap.size = g := ⟨_, rfl⟩
  obtain ⟨w1, hw1⟩ : ∃ w1, (w.alloc (Obj.cells #[Value.int IntKind.i64 p, Value.int IntKind.i64 k, Value.int IntKind.i64 n] 30)).alloc (Obj.cells #[Value.int IntKind.i64 p2, Value.int IntKind.i64 k2, Value.int IntKind.i64 n2] 30) = w1 := ⟨_, rfl⟩
  have HA0 : Hid (Pl2 w w1 g p k n p2 k2 n2) := by rw [← hw1, ← hgw]; exact pl2_new w hw _ _ _ _ _ _ _ _
  have HV1 := Lib.hid (fun W (h : Pl2 w W g p k n p2 k2 n2) => share_valid p k n W h.wh hp)
  have HV2 := Lib.hid (fun W (h : Pl2 w W g p k n p2 k2 n2) => share_valid p2 k2 n2 W h.wh hp2)
  unfold planV at HV1 HV2
  obtain ⟨b1, hb1⟩ : ∃ b, planB p k n = b := ⟨_, rfl⟩
  obtain ⟨b2, hb2⟩ : ∃ b, planB p2 k2 n2 = b := ⟨_, rfl⟩
  rw [hb1] at HV1
  rw [hb2] at HV2
  have HE : Hid (relB p k n p2 k2 n2 = (decide (p = p2) && b1 && b2)) := by show _ = _; unfold relB; rw [hb1, hb2]
  rw [HE.out, hgw]
  clear hw hp hp2 hb1 hb2 HE
  obtain ⟨p0, p1, p2', q0, q1, q2⟩ := HA0.out.cells
  by_cases hpp : p = p2
  · rw [decide_eq_true hpp]
    have e0 : (p == p2) = true := by simp [hpp]
    clear hpp
    cases b1 with
    | false =>
      go_enter Tryd.func35, Tryd.ntmps35
      go_wp2_with fail
      refine (HV1.out w1 HA0.out).mono ?_
      rintro e W1 ⟨rfl, hb⟩
      have HA1 := Lib.hid (HA0.out.below hb)
      clear hb
      go_wp2
      go_ret
      exact ⟨rfl, HA1.out.be⟩
    | true =>
      go_enter Tryd.func35, Tryd.ntmps35
      go_wp2_with fail
      refine (HV1.out w1 HA0.out).mono ?_
      rintro e W1 ⟨rfl, hb⟩
      have HA1 := Lib.hid (HA0.out.below hb)
      clear hb p0 p1 p2' q0 q1 q2
      obtain ⟨p0, p1, p2', q0, q1, q2⟩ := HA1.out.cells
      go_wp2_with fail
      refine (HV2.out W1 HA1.out).mono ?_
      rintro e W2 ⟨rfl, hb⟩
      have HA2 := Lib.hid (HA1.out.below hb)
      clear hb
      go_wp2
      go_ret
      exact ⟨by simp, HA2.out.be⟩
  · rw [decide_eq_false hpp]
    have e0 : (p == p2) = false := by simp [hpp]
    clear hpp
    go_enter Tryd.func35, Tryd.ntmps35
    go_wp2
    go_ret
    exact ⟨by simp, HA0.out.be⟩

/-- Whether a share cannot be added to the first one of a list. -/
theorem unlike_one (p k n : Int) (al : Option Addr) (m cl : Nat) (L : List Shr) (h : Int) (av : Option Addr) (nv cv : Nat) (l : List Int) (gp gl : Nat) (w : World) (hw : Wheel w) (hp : (Lit.int .i64 p).wf = true) (hs : Shares w (.slice al m cl) L) (hm : L.length = m) (h0 : 0 < m) (hi : Ints w (.slice av nv cv) l) (hl : l.length ≤ 1000000) (hL : ∀ x ∈ L, x.2.length ≤ 1000000)
    (hpl : PlanAt w gp p k n) (hc : w.cell? ⟨gl, 0, none⟩ = some (.slice al m cl)) :
    Calls Tryd.prog 54 #[.agg #[.int .i64 h, .slice av nv cv], .pointer (some ⟨gp, 0, none⟩), .pointer (some ⟨gl, 0, none⟩)] w fun e w' => e = .returned (.bool (addE p k n (L.getD 0 (0, [])) (h, l) != 0)) ∧ Below w.heap.size w w' := by
  obtain ⟨g, hgw⟩ : ∃ g, w.heap.size = g := ⟨_, rfl⟩
  obtain ⟨w1, hw1⟩ : ∃ w1, w.alloc (Obj.cells #[Value.int IntKind.i64 h, .slice av nv cv] 38) = w1 := ⟨_, rfl⟩
  have hb1 : Below g w w1 := by rw [← hw1, ← hgw]; exact (Below.refl _ _).alloc (Nat.le_refl _) _
  have hsz : w1.heap.size = g + 1 := by rw [← hw1, ← hgw]; simp
  have hsh : ShAt w1 g h (.slice av nv cv) := by rw [← hw1, ← hgw]; exact shAt_new _ _ _ _
  have hle : w.heap.size ≤ g := by omega
  obtain ⟨b, o, v, rfl, c0, c1, hi1⟩ := (hs.below hle hb1).at h0
  rw [Nat.zero_mul, Nat.add_zero] at c0 c1
  obtain ⟨a1, d1, rfl⟩ := hi1.shape
  have hin : L.getD 0 (0, []) ∈ L := by rw [getS_at (by omega)]; exact List.getElem_mem _
  have hl1 := hL _ hin
  obtain ⟨z, hz⟩ : ∃ z, L.getD 0 (0, []) = z := ⟨_, rfl⟩
  rw [hz] at c0 c1 hi1 hl1 ⊢
  obtain ⟨hh, ll⟩ := z
  simp only at c0 c1 hi1 hl1
  have hplg := hpl.lt
  have hcg := cell_lt hc
  simp only at hcg
  have hp0 := hpl.below (by omega) hb1
  have hc0 : w1.cell? ⟨gl, 0, none⟩ = some (.slice (some ⟨b, o, none⟩) m cl) := by rw [hb1.cell (p := ⟨gl, 0, none⟩) (by show gl < g; omega)]; exact hc
  have HI1 := Lib.hid hi1
  have HI2 := Lib.hid (hi.below hle hb1)
  obtain ⟨n1, hn1⟩ : ∃ n1, ll.length = n1 := ⟨_, rfl⟩
  have HADD := Lib.hid (fun W (hb : Below w1.heap.size w1 W) => share_add p k n hh h (.slice a1 ll.length d1) (.slice av nv cv) ll l W ((hw.below (by have := hw.size; omega) hb1).below (by have := hw.size; omega) hb) hp (HI1.out.below (Nat.le_refl _) hb) (HI2.out.below (Nat.le_refl _) hb) hl1 hl)
  unfold planV shareV at HADD
  rw [hn1] at HADD c1
  obtain ⟨E, hE⟩ : ∃ E, addE p k n (hh, ll) (h, l) = E := ⟨_, rfl⟩
  rw [hE] at HADD ⊢
  obtain ⟨⟨rh, rl⟩, hR⟩ : ∃ R, addR p k n (hh, ll) (h, l) = R := ⟨_, rfl⟩
  rw [hR] at HADD
  simp only at HADD
  obtain ⟨bo, hbo⟩ : ∃ bo, (E != 0) = bo := ⟨_, rfl⟩
  have HB1 := Lib.hid hb1
  have HSZ := Lib.hid hsz
  have hm0 : (0 : Int) < (m : Int) := by omega
  obtain ⟨p0, p1, p2⟩ : w1.drew.cell? ⟨gp, 0, none⟩ = some (.int .i64 p) ∧ w1.drew.cell? ⟨gp, 1, none⟩ = some (.int .i64 k) ∧ w1.drew.cell? ⟨gp, 2, none⟩ = some (.int .i64 n) := ⟨hp0.c0, hp0.c1, hp0.c2⟩
  have s0 : w1.drew.cell? ⟨g, 0, none⟩ = some (.int .i64 h) := hsh.c0
  have s1 : w1.drew.cell? ⟨g, 1, none⟩ = some (.slice av nv cv) := hsh.c1
  have c0' : w1.drew.cell? ⟨b, o, none⟩ = some (.int .i64 hh) := c0
  have c1' : w1.drew.cell? ⟨b, o + 1, none⟩ = some (.slice a1 n1 d1) := c1
  have hc0' : w1.drew.cell? ⟨gl, 0, none⟩ = some (.slice (some ⟨b, o, none⟩) m cl) := hc0
  rw [hgw]
  clear hw hp hs hm hi hl hL hpl hc hb1 hsz hsh hle hi1 hin hl1 hz hplg hcg hp0 hn1 hE hR c0 c1 hc0
  rw [hbo]
  go_enter Tryd.func54, Tryd.ntmps54
  go_wp2_with fail
  have HBD : Hid (Below w1.heap.size w1 w1.drew) := (Below.refl _ _).drew
  have HBA : Hid (Below w1.heap.size w1 (w1.alloc (.cells #[.int .i64 0, .slice none 0 0] 38)).drew) := ((Below.refl w1.heap.size w1).alloc (Nat.le_refl _) _).drew
  have HNZ := Lib.hid (show ShAt (w1.alloc (.cells #[.int .i64 0, .slice none 0 0] 38)).drew w1.heap.size 0 (.slice none 0 0) from shAt_new w1 0 (.slice none 0 0) 38)
  have HBW : Hid (Below g w w1.drew) := HB1.out.trans (HBD.out.mono (by have := HSZ.out; omega))
  have HBWA : Hid (Below g w (w1.alloc (.cells #[.int .i64 0, .slice none 0 0] 38)).drew) := HB1.out.trans (HBA.out.mono (by have := HSZ.out; omega))
  have HG1 : Hid (g ≤ w1.drew.heap.size) := by show g ≤ w1.heap.size; have := HSZ.out; omega
  have HG2 : Hid (g ≤ (w1.alloc (.cells #[.int .i64 0, .slice none 0 0] 38)).drew.heap.size) := by show g ≤ (w1.alloc _).heap.size; simp; have := HSZ.out; omega
  have HKP : Hid (∀ W, Below w1.heap.size w1 W → W.cell? ⟨gp, 0, none⟩ = some (.int .i64 p) ∧ W.cell? ⟨gp, 1, none⟩ = some (.int .i64 k) ∧ W.cell? ⟨gp, 2, none⟩ = some (.int .i64 n) ∧ W.cell? ⟨g, 0, none⟩ = some (.int .i64 h) ∧ W.cell? ⟨g, 1, none⟩ = some (.slice av nv cv) ∧ W.cell? ⟨b, o, none⟩ = some (.int .i64 hh) ∧ W.cell? ⟨b, o + 1, none⟩ = some (.slice a1 n1 d1) ∧ W.cell? ⟨gl, 0, none⟩ = some (.slice (some ⟨b, o, none⟩) m cl)) :=
    fun W hb => ⟨below_cell hb p0, below_cell hb p1, below_cell hb p2, below_cell hb s0, below_cell hb s1, below_cell hb c0', below_cell hb c1', below_cell hb hc0'⟩
  have HSK1 := HKP.out _ HBA.out
  have HST : Hid (∀ (W : World) (u : Value), Below w1.heap.size w1 W → Below w1.heap.size w1 ((W.setCell ⟨w1.heap.size, 0, none⟩ (.int .i64 rh)).setCell ⟨w1.heap.size, 1, none⟩ u)) := fun W u hb => hb.trans ((set1_below _ 0 _ (Nat.le_refl _)).trans (set1_below _ 1 _ (Nat.le_refl _)))
  have HGW : Hid (∀ W, Below w1.heap.size w1 W → Below g w W) := fun W hb => HB1.out.trans (hb.mono (by have := HSZ.out; omega))
  have HAL : Hid (∀ (W : World) (o : Obj), Below w1.heap.size w1 W → Below w1.heap.size w1 (W.alloc o)) := fun W o hb => hb.alloc hb.size o
  have HSK := And.intro p0 (And.intro p1 (And.intro p2 (And.intro s0 (And.intro s1 (And.intro c0' (And.intro c1' hc0'))))))
  apply region_oneZ (fun v c W => Hid (Below g w W))
  case hr =>
    refine wp_region_noPanic ?_
    go_region_held3 (fun W' => W'.cell? ⟨gp, 0, none⟩ = some (.int .i64 p) ∧ W'.cell? ⟨gp, 1, none⟩ = some (.int .i64 k) ∧ W'.cell? ⟨gp, 2, none⟩ = some (.int .i64 n) ∧ W'.cell? ⟨g, 0, none⟩ = some (.int .i64 h) ∧ W'.cell? ⟨g, 1, none⟩ = some (.slice av nv cv) ∧ W'.cell? ⟨b, o, none⟩ = some (.int .i64 hh) ∧ W'.cell? ⟨b, o + 1, none⟩ = some (.slice a1 n1 d1) ∧ W'.cell? ⟨gl, 0, none⟩ = some (.slice (some ⟨b, o, none⟩) m cl)) (first | go_keep | exact HSK | exact HSK1 | exact HSK2 | exact HSK3)
      (first
        | (go_at_call 43; (with_reducible refine (HADD.out w1.drew HBD.out).mono ?_); rintro e w2 ⟨vs, rfl, hgs, hb⟩; have HB2 := Lib.hid (HBD.out.trans hb); have HSK2 := HKP.out w2 HB2.out; obtain ⟨aw, cw, rfl⟩ := hgs.shape; clear hgs hb)
        | (go_at_call 43; (with_reducible refine (HADD.out _ HBA.out).mono ?_); rintro e w2 ⟨vs, rfl, hgs, hb⟩; have HB2 := Lib.hid (HBA.out.trans (hb.mono (by show w1.heap.size ≤ (w1.alloc _).heap.size; simp))); have HSK2 := HKP.out w2 HB2.out; have HZ2 := Lib.hid (HNZ.out.below hb HNZ.out.lt); have r0 := HZ2.out.c0; have r1 := HZ2.out.c1; have f0 := HZ2.out.fr 0; have f1 := HZ2.out.fr 1; obtain ⟨aw, cw, rfl⟩ := hgs.shape; have HSK3 := HKP.out _ (HST.out w2 (.slice aw rl.length cw) HB2.out); clear hgs hb))
    · refine NoPanic.normal ?_
      have h3 := HGW.out _ (HAL.out _ (.cells #[.int .i64 rh, .slice aw rl.length cw] 38) HB2.out)
      obtain ⟨vs, hvs⟩ : ∃ v, Value.slice aw rl.length cw = v := ⟨_, rfl⟩
      rw [hvs] at h3 ⊢
      generalize w2.alloc (.cells #[.int .i64 rh, vs] 38) = W at *
      obtain ⟨c, hc⟩ : ∃ c, w2.heap.size = c := ⟨_, rfl⟩
      rw [hc]
      exact ⟨rfl, vs, c, rfl, h3⟩
    · refine NoPanic.normal ?_
      have h3 := HGW.out _ (HST.out w2 (.slice aw rl.length cw) HB2.out)
      obtain ⟨vs, hvs⟩ : ∃ v, Value.slice aw rl.length cw = v := ⟨_, rfl⟩
      rw [hvs] at h3 ⊢
      generalize ((w2.setCell ⟨w1.heap.size, 0, none⟩ (.int .i64 rh)).setCell ⟨w1.heap.size, 1, none⟩ vs) = W at *
      obtain ⟨c, hc⟩ : ∃ c, w1.heap.size = c := ⟨_, rfl⟩
      rw [hc]
      exact ⟨rfl, vs, c, rfl, h3⟩
  rintro vs c W HF
  clear HSK HSK1
  go_wp2
  go_ret
  exact ⟨rfl, HF.out⟩
set_option maxRecDepth 100000 in
set_option maxHeartbeats 8000000 in
theorem index_unlike (p k n : Int) (al : Option Addr) (m cl : Nat) (L : List Shr) (gp gl : Nat) (w : World) (hw : Wheel w) (hp : (Lit.int .i64 p).wf = true) (hs : Shares w (.slice al m cl) L) (hm : L.length = m) (hL : ∀ x ∈ L, x.2.length ≤ 1000000)
    (hpl : PlanAt w gp p k n) (hc : w.cell? ⟨gl, 0, none⟩ = some (.slice al m cl)) :
    Calls Tryd.prog 71 #[.slice al m cl, .func (.func 54) #[] #[.pointer (some ⟨gp, 0, none⟩), .pointer (some ⟨gl, 0, none⟩)]] w fun e w' => ∃ r, e = .returned (.int .i64 r) ∧ decide (0 ≤ r) = L.any (fun s => addE p k n (L.getD 0 (0, [])) s != 0) ∧ Below w.heap.size w w' := by
  obtain ⟨g, hg⟩ : ∃ g, w.heap.size = g := ⟨_, rfl⟩
  have HS := Lib.hid hs
  have HM := Lib.hid hm
  have HLL := Lib.hid hL
  have HC := Lib.hid hc
  have HPL := Lib.hid hpl
  have HPP := Lib.hid hp
  have HWH := Lib.hid hw
  have HTA : Hid (0 < g) := by show _ < _; rw [← hg]; exact hw.size
  have HLT := Lib.hid (And.intro hpl.lt (cell_lt hc))
  have HGG := Lib.hid hg
  have HW0 : Hid (Below g w w) := Below.refl _ _
  have hm2 : m ≤ 1000 := by rw [← hm]; obtain ⟨_, _, _, h, _⟩ := id hs; exact h
  rw [hg]
  clear hs hc hg hm hpl hp hw hL
  go_enter Tryd.func71, Tryd.ntmps71
  go_wp2_with fail
  go_loopw [5, 8] (fun _ i wr => ∃ k' : Nat, k' ≤ m ∧ i = .int .i64 k' ∧ Hid (∀ j, j < k' → (addE p k n (L.getD 0 (0, [])) (L.getD j (0, [])) != 0) = false) ∧ Hid (Below g w wr)) (fun _ i _ => m - (intOf i).toNat)
  case atStart => exact ⟨0, Nat.zero_le _, rfl, fun j hj => by omega, HW0⟩
  case round =>
    obtain ⟨kk, hk, rfl, HX0, HW⟩ := hrel
    by_cases hlt : kk < m
    · have hss := HS.out.below (Nat.le_of_eq HGG.out) HW.out
      obtain ⟨b1, o1, v1, rfl, c0, c1, hi1⟩ := hss.at hlt
      obtain ⟨a1, d1, rfl⟩ := hi1.shape
      obtain ⟨hz, hhz⟩ : ∃ hz, (L.getD kk (0, [])).1 = hz := ⟨_, rfl⟩
      obtain ⟨lz, hlz⟩ : ∃ lz, (L.getD kk (0, [])).2 = lz := ⟨_, rfl⟩
      have hzz : L.getD kk (0, []) = (hz, lz) := by rw [← hhz, ← hlz]
      have hin : L.getD kk (0, []) ∈ L := by rw [getS_at (by rw [HM.out]; exact hlt)]; exact List.getElem_mem _
      have hlb := HLL.out _ hin
      rw [hlz] at hi1 c1 hlb
      rw [hhz] at c0
      have hcz : wr.cell? ⟨gl, 0, none⟩ = some (.slice (some ⟨b1, o1, none⟩) m cl) := by rw [HW.out.cell (p := ⟨gl, 0, none⟩) (by have h2 : gl < w.heap.size := HLT.out.2; have h3 := HGG.out; show gl < g; omega)]; exact HC.out
      have hpp := HPL.out.below (by have := HLT.out.1; have := HGG.out; omega) HW.out
      have HQ := Lib.hid (unlike_one p k n (some ⟨b1, o1, none⟩) m cl L hz a1 lz.length d1 lz gp gl wr (HWH.out.below HTA.out HW.out) HPP.out hss HM.out (by omega) hi1 hlb HLL.out hpp hcz)
      have hgw : g ≤ wr.heap.size := by have := HW.out.size; have := HGG.out; omega
      have HGW := Lib.hid hgw
      have HZZ := Lib.hid hzz
      obtain ⟨n1, hn1⟩ : ∃ n1, lz.length = n1 := ⟨_, rfl⟩
      rw [hn1] at HQ c1
      clear hss hcz hpp hi1 hgw hin hlb hhz hlz hzz hn1
      cases hob : (addE p k n (L.getD 0 (0, [])) (hz, lz) != 0) with
      | true =>
        rw [hob] at HQ
        have HX : Hid (L.any (fun s => addE p k n (L.getD 0 (0, [])) s != 0) = true) := List.any_eq_true.2 ⟨L.getD kk (0, []), by rw [getS_at (by rw [HM.out]; exact hlt)]; exact List.getElem_mem _, by rw [HZZ.out]; exact hob⟩
        clear hob
        go_wp2_with (go_at_call 54; refine HQ.out.mono ?_; rintro e w' ⟨rfl, hb⟩)
        have HB := Lib.hid (HW.out.trans (hb.mono HGW.out))
        clear hb
        go_ret
        exact ⟨_, rfl, by rw [HX.out]; simp, HB.out⟩
      | false =>
        rw [hob] at HQ
        have HX : Hid (∀ j, j < kk + 1 → (addE p k n (L.getD 0 (0, [])) (L.getD j (0, [])) != 0) = false) := fun j hj => by
          by_cases e : j = kk
          · subst e; rw [HZZ.out]; exact hob
          · exact HX0.out j (by omega)
        clear hob
        go_wp2_with (go_at_call 54; refine HQ.out.mono ?_; rintro e w' ⟨rfl, hb⟩)
        have HB := Lib.hid (HW.out.trans (hb.mono HGW.out))
        clear hb
        go_roundw
        case rel => exact ⟨kk + 1, by omega, by go_num, HX, HB⟩
        case measure => simp [intOf]; omega
    · obtain rfl : kk = m := by omega
      have HX : Hid (L.any (fun s => addE p k n (L.getD 0 (0, [])) s != 0) = false) := List.any_eq_false.2 fun s hs => by
        obtain ⟨j, hj, rfl⟩ := List.mem_iff_getElem.1 hs
        have := HX0.out j (by rw [← HM.out]; exact hj)
        rw [getS_at hj] at this
        rw [this]; simp
      go_wp2
      go_ret
      exact ⟨_, rfl, by rw [HX.out]; simp, HW.out⟩
theorem contains_unlike (p k n : Int) (al : Option Addr) (m cl : Nat) (L : List Shr) (gp gl : Nat) (w : World) (hw : Wheel w) (hp : (Lit.int .i64 p).wf = true) (hs : Shares w (.slice al m cl) L) (hm : L.length = m) (hL : ∀ x ∈ L, x.2.length ≤ 1000000)
    (hpl : PlanAt w gp p k n) (hc : w.cell? ⟨gl, 0, none⟩ = some (.slice al m cl)) :
    Calls Tryd.prog 53 #[.slice al m cl, .func (.func 54) #[] #[.pointer (some ⟨gp, 0, none⟩), .pointer (some ⟨gl, 0, none⟩)]] w fun e w' => e = .returned (.bool (L.any fun s => addE p k n (L.getD 0 (0, [])) s != 0)) ∧ Below w.heap.size w w' := by
  have HI := Lib.hid (index_unlike p k n al m cl L gp gl w hw hp hs hm hL hpl hc)
  obtain ⟨y, hy⟩ : ∃ y, (L.any fun s => addE p k n (L.getD 0 (0, [])) s != 0) = y := ⟨_, rfl⟩
  rw [hy] at HI ⊢
  clear hw hp hs hm hL hpl hc hy
  go_enter Tryd.func53, Tryd.ntmps53
  go_wp2_with fail
  refine HI.out.mono ?_
  rintro e w' ⟨r, rfl, hr, hb⟩
  have HR := Lib.hid hr
  have HB := Lib.hid hb
  clear hr hb
  go_wp2
  go_ret
  exact ⟨congrArg (fun b => Ending.returned (Value.bool b)) HR.out, HB.out⟩
/-- Whether shares can be added, in a valid plan. -/
theorem reshare_alike (p k n : Int) (v : Value) (L : List Shr) (w : World) (hw : Wheel w) (hp : (Lit.int .i64 p).wf = true) (hpb : planB p k n = true) (hs : Shares w v L) (hL : ∀ x ∈ L, x.2.length ≤ 1000000) :
    Calls Tryd.prog 36 #[planV p k n, v] w fun e w' => e = .returned (.bool (alikeB p n L)) ∧ Below w.heap.size w w' := by
  unfold planV
  obtain ⟨al, cl, rfl, _⟩ := id hs
  obtain ⟨g, hgw⟩ : ∃ g, w.heap.size = g := ⟨_, rfl⟩
  obtain ⟨m, hm⟩ : ∃ m, L.length = m := ⟨_, rfl⟩
  rw [hm] at hs ⊢
  obtain ⟨w1, hw1⟩ : ∃ w1, (w.alloc (.cells #[.int .i64 p, .int .i64 k, .int .i64 n] 30)).alloc (.cells #[.slice al m cl] 23) = w1 := ⟨_, rfl⟩
  have hb0 : Below g w (w.alloc (.cells #[.int .i64 p, .int .i64 k, .int .i64 n] 30)) := by rw [← hgw]; exact (Below.refl _ _).alloc (Nat.le_refl _) _
  have hb1 : Below g w w1 := by rw [← hw1]; exact hb0.alloc (by simp; omega) _
  have hs1 : w1.heap.size = g + 1 + 1 := by rw [← hw1, ← hgw]; simp
  have hpl1 : PlanAt w1 g p k n := by
    have h := planAt_new w p k n 30
    rw [hgw] at h
    rw [← hw1]
    exact h.below (B := (w.alloc (.cells #[.int .i64 p, .int .i64 k, .int .i64 n] 30)).heap.size) (by simp; omega) ((Below.refl _ _).alloc (Nat.le_refl _) _)
  have hc1 : w1.cell? ⟨g + 1, 0, none⟩ = some (.slice al m cl) := by
    rw [← hw1]
    exact cell_alloc_new _ _ _ _ (by simp [hgw])
  have hta : 0 < g := by rw [← hgw]; exact hw.size
  have HQ := Lib.hid (contains_unlike p k n al m cl L g (g + 1) w1 (hw.below hta hb1) hp (hs.below (Nat.le_of_eq hgw) hb1) hm hL hpl1 hc1)
  have HE := Lib.hid (alike_adds hpb L)
  obtain ⟨y, hy⟩ : ∃ y, (L.any fun s => addE p k n (L.getD 0 (0, [])) s != 0) = y := ⟨_, rfl⟩
  rw [hy] at HQ HE
  have HB1 := Lib.hid hb1
  have HSZ := Lib.hid hs1
  rw [hgw]
  clear hw hp hpb hs hL hm hb0 hb1 hs1 hpl1 hta hy
  go_enter Tryd.func36, Tryd.ntmps36
  go_wp2_with fail
  refine HQ.out.mono ?_
  rintro e w2 ⟨rfl, hb⟩
  have HB2 := Lib.hid (HB1.out.trans (hb.mono (by rw [HSZ.out]; omega)))
  clear hb
  go_wp2
  go_ret
  exact ⟨congrArg (fun b => Ending.returned (Value.bool b)) HE.out, HB2.out⟩

/-- Numbers as shares without values. -/
def shrOf (l : List Int) : List Shr := l.map fun x => (x, [])
theorem shrOf_len (l : List Int) : (shrOf l).length = l.length := by simp [shrOf]
theorem shrOf_get {l : List Int} {j : Nat} (hj : j < l.length) : ((shrOf l).getD j (0, [])).1 = l.getD j 0 := by simp [shrOf, List.getD, hj]
/-- One number is a holder, and another one than those before. -/
def DiffAt (n : Int) (l : List Int) (i : Nat) : Prop := 1 ≤ l.getD i 0 ∧ l.getD i 0 ≤ n ∧ ∀ j, j < i → l.getD j 0 ≠ l.getD i 0
theorem diffB_all {n : Int} {l : List Int} (h : ∀ i, i < l.length → DiffAt n l i) : diffB n l = true := by
  refine diffB_true ⟨fun x hx => ?_, ?_⟩
  · obtain ⟨i, hi, rfl⟩ := List.mem_iff_getElem.1 hx
    have := h i hi
    unfold DiffAt at this
    rw [getD_lt hi] at this
    exact ⟨this.1, this.2.1⟩
  · rw [List.nodup_iff_pairwise_ne, List.pairwise_iff_getElem]
    intro i j hi hj hij
    have := (h j hj).2.2 i hij
    rwa [getD_lt hi, getD_lt hj] at this
theorem diffB_not {n : Int} {l : List Int} {i : Nat} (hi : i < l.length) (h : ¬ DiffAt n l i) : diffB n l = false := by
  refine diffB_false fun h2 => h ?_
  have h1 := h2.1 l[i] (List.getElem_mem hi)
  refine ⟨by rw [getD_lt hi]; exact h1.1, by rw [getD_lt hi]; exact h1.2, fun j hj => ?_⟩
  have h3 := h2.2
  rw [List.nodup_iff_pairwise_ne, List.pairwise_iff_getElem] at h3
  rw [getD_lt hi, getD_lt (by omega)]
  exact h3 j i (by omega) hi hj
set_option maxRecDepth 100000 in
set_option maxHeartbeats 8000000 in
theorem reshare_different (p k n : Int) (v : Value) (l : List Int) (w : World) (hn16 : n ≤ 16) (hs : Ints w v l) :
    Calls Tryd.prog 40 #[planV p k n, v] w fun e w' => e = .returned (.bool (diffB n l)) ∧ Below w.heap.size w w' := by
  unfold planV
  obtain ⟨sa, sc, rfl⟩ := hs.shape
  obtain ⟨N, hN⟩ : ∃ N, l.length = N := ⟨_, rfl⟩
  have hNb : N ≤ 140737488355328 := by rw [← hN]; obtain ⟨_, _, _, h, _⟩ := id hs; exact h
  rw [hN] at hs ⊢
  obtain ⟨g, hg⟩ : ∃ g, w.heap.size = g := ⟨_, rfl⟩
  obtain ⟨w1, hw1⟩ : ∃ w1, (w.alloc (Obj.cells #[Value.int IntKind.i64 p, Value.int IntKind.i64 k, Value.int IntKind.i64 n] 30)).alloc (Obj.cells zeros17 86) = w1 := ⟨_, rfl⟩
  have hal : ∀ (W : World) (o : Obj), Below W.heap.size W (W.alloc o) := fun W o => (Below.refl _ _).alloc (Nat.le_refl _) o
  have hb1 : Below g w w1 := by rw [← hw1, ← hg]; exact (hal _ _).trans ((hal _ _).mono (by simp))
  have hp1 : PlanAt w1 g p k n := by rw [← hw1, ← hg]; exact (planAt_new _ _ _ _ _).below (by simp) (hal _ _)
  have hr1 : w1.rowIs (g + 1) 86 17 (seenRow (shrOf l) 0) := by
    have h := rowIs_zeros17 (w.alloc (Obj.cells #[Value.int IntKind.i64 p, Value.int IntKind.i64 k, Value.int IntKind.i64 n] 30)) _ 86 (shrOf l) rfl
    rw [← hw1, ← hg]
    simpa using h
  have HGG := Lib.hid hg
  have HNN := Lib.hid hN
  have HN16 := Lib.hid hn16
  have HSW := Lib.hid hs
  have HP0 := Lib.hid hp1
  have HR1 := Lib.hid hr1
  have HW0 : Hid (Below g w w1) := hb1
  have HA0 : Hid (∀ i, i < 0 → DiffAt n l i) := fun i hi => by omega
  rw [hg]
  clear hs hN hb1 hp1 hn16 hr1 hal
  go_enter Tryd.func40, Tryd.ntmps40
  unfold zeros17 at hw1
  go_wp2_with fail
  clear hw1
  go_loopw [7, 10, 11, 12, 13, 14, 15, 16, 17, 18, 19, 20, 21, 22, 23, 24, 25, 26, 27, 28, 29] (fun _ i _ _ _ _ _ _ _ _ _ _ _ _ _ _ _ _ _ _ _ wr => ∃ j : Nat, j ≤ N ∧ i = .int .i64 j ∧ Hid (∀ i, i < j → DiffAt n l i) ∧ Hid (wr.rowIs (g + 1) 86 17 (seenRow (shrOf l) j)) ∧ Hid (PlanAt wr g p k n) ∧ Hid (Below g w wr)) (fun _ i _ _ _ _ _ _ _ _ _ _ _ _ _ _ _ _ _ _ _ _ => N - (intOf i).toNat)
  case atStart => exact ⟨0, Nat.zero_le _, rfl, HA0, HR1, HP0, HW0⟩
  case round =>
    obtain ⟨j, hj, rfl, HA, HR, HPP, HW⟩ := hrel
    by_cases hlt : j < N
    · obtain ⟨b, off, rfl, c0⟩ := (HSW.out.below (Nat.le_of_eq HGG.out) HW.out).pos hlt
      obtain ⟨h, hh⟩ : ∃ h, l.getD j 0 = h := ⟨_, rfl⟩
      rw [hh] at c0
      have HH := Lib.hid hh
      have p2 := HPP.out.c2
      clear hh
      by_cases h1 : h < 1
      · have HNG : Hid (¬ DiffAt n l j) := fun e => by have := e.1; rw [HH.out] at this; omega
        go_wp2
        go_ret
        exact ⟨by rw [diffB_not (by rw [HNN.out]; exact hlt) HNG.out]; rfl, HW.out⟩
      · by_cases h2 : n < h
        · have HNG : Hid (¬ DiffAt n l j) := fun e => by have := e.2.1; rw [HH.out] at this; omega
          go_wp2
          go_ret
          exact ⟨by rw [diffB_not (by rw [HNN.out]; exact hlt) HNG.out]; rfl, HW.out⟩
        · obtain ⟨H, rfl⟩ := Int.eq_ofNat_of_zero_le (show 0 ≤ h by omega)
          have hH17 : H < 17 := by have := HN16.out; omega
          have hH17' : (H : Int) < 17 := by omega
          obtain ⟨bs, hbs⟩ : ∃ b, seenB (shrOf l) j H = b := ⟨_, rfl⟩
          have hce := HR.out.cell hH17
          unfold seenRow at hce
          rw [hbs] at hce
          have HBS := Lib.hid hbs
          have HLS : Hid (j ≤ (shrOf l).length) := by show _ ≤ _; rw [shrOf_len, HNN.out]; exact hj
          clear hbs
          cases bs with
          | true =>
            have HNG : Hid (¬ DiffAt n l j) := fun e => by
              obtain ⟨m, hm, em⟩ := seenB_true HLS.out HBS.out
              rw [shrOf_get (by rw [HNN.out]; omega)] at em
              have h := e.2.2 m hm
              rw [HH.out] at h
              exact h em
            go_wp2
            go_ret
            exact ⟨by rw [diffB_not (by rw [HNN.out]; exact hlt) HNG.out]; rfl, HW.out⟩
          | false =>
            have hfr := HR.out.frozen H
            have HRS : Hid ((wr.setCell ⟨g + 1, H, none⟩ (.bool true)).rowIs (g + 1) 86 17 (seenRow (shrOf l) (j + 1))) := (HR.out.set H _).congr fun i hi => by
              unfold seenRow
              rw [seenB_succ (h := (H : Int)) (by rw [shrOf_len, HNN.out]; exact hlt) (by rw [shrOf_get (by rw [HNN.out]; exact hlt), HH.out])]
              by_cases e : i = H
              · subst e; simp
              · rw [if_neg e]
                have : (((H : Nat) : Int) == (i : Int)) = false := by simp only [beq_eq_false_iff_ne]; omega
                rw [this, Bool.or_false]
            have HPW : Hid (PlanAt (wr.setCell ⟨g + 1, H, none⟩ (.bool true)) g p k n) := HPP.out.below (Nat.lt_succ_self g) (set1_below _ _ _ (Nat.le_refl _))
            have HBW : Hid (Below g w (wr.setCell ⟨g + 1, H, none⟩ (.bool true))) := HW.out.trans (set1_below _ _ _ (by omega))
            have HAN : Hid (∀ i, i < j + 1 → DiffAt n l i) := fun i hi => by
              by_cases e : i = j
              · subst e
                unfold DiffAt
                rw [HH.out]
                refine ⟨by omega, by omega, fun m hm em => ?_⟩
                have := seenB_false HLS.out HBS.out m hm
                rw [shrOf_get (by rw [HNN.out]; omega)] at this
                exact this em
              · exact HA.out i (by omega)
            go_wp2
            go_roundw
            case rel => exact ⟨j + 1, by omega, by go_num, HAN, HRS, HPW, HBW⟩
            case measure => simp [intOf]; omega
    · obtain rfl : j = N := by omega
      have HX : Hid (diffB n l = true) := diffB_all fun i hi => HA.out i (by rw [← HNN.out]; exact hi)
      go_wp2
      go_ret
      exact ⟨by rw [HX.out]; rfl, HW.out⟩
end Go.Proofs.YtomnncainedjdaaDoor
/-! The program's package reshare: Split. -/
namespace Go.Proofs.YtomnncainedjdaaDoor
open Go.RowKit Go.Sort
open Num
set_option linter.unusedVariables false

/-- Two plans and a share that lie one behind the other. -/
structure Pl3 (w0 W : World) (g : Nat) (p k n p2 k2 n2 h : Int) (v : Value) : Prop where
  pl : Pl2 w0 W g p k n p2 k2 n2
  sh : ShAt W (g + 1 + 1) h v
theorem Pl3.below {w0 W W' : World} {g : Nat} {p k n p2 k2 n2 h : Int} {v : Value} (q : Pl3 w0 W g p k n p2 k2 n2 h v) (b : Below W.heap.size W W') : Pl3 w0 W' g p k n p2 k2 n2 h v :=
  ⟨q.pl.below b, q.sh.below b q.sh.lt⟩
theorem pl3_new (w : World) (hw : Wheel w) (p k n p2 k2 n2 h : Int) (v : Value) (t0 t1 t2 : TypeId) : Pl3 w (((w.alloc (Obj.cells #[Value.int IntKind.i64 p, Value.int IntKind.i64 k, Value.int IntKind.i64 n] t0)).alloc (Obj.cells #[Value.int IntKind.i64 p2, Value.int IntKind.i64 k2, Value.int IntKind.i64 n2] t1)).alloc (Obj.cells #[Value.int IntKind.i64 h, v] t2)) w.heap.size p k n p2 k2 n2 h v := by
  refine ⟨(pl2_new w hw p k n p2 k2 n2 t0 t1).below ((Below.refl _ _).alloc (Nat.le_refl _) _), ?_⟩
  have := shAt_new ((w.alloc (Obj.cells #[Value.int IntKind.i64 p, Value.int IntKind.i64 k, Value.int IntKind.i64 n] t0)).alloc (Obj.cells #[Value.int IntKind.i64 p2, Value.int IntKind.i64 k2, Value.int IntKind.i64 n2] t1)) h v t2
  rwa [show ((w.alloc (Obj.cells #[Value.int IntKind.i64 p, Value.int IntKind.i64 k, Value.int IntKind.i64 n] t0)).alloc (Obj.cells #[Value.int IntKind.i64 p2, Value.int IntKind.i64 k2, Value.int IntKind.i64 n2] t1)).heap.size = w.heap.size + 1 + 1 by simp] at this
theorem Pl3.cells {w0 W : World} {g : Nat} {p k n p2 k2 n2 h : Int} {v : Value} (q : Pl3 w0 W g p k n p2 k2 n2 h v) : W.cell? ⟨g, 0, none⟩ = some (.int .i64 p) ∧ W.cell? ⟨g, 1, none⟩ = some (.int .i64 k) ∧ W.cell? ⟨g, 2, none⟩ = some (.int .i64 n) ∧ W.cell? ⟨g + 1, 0, none⟩ = some (.int .i64 p2) ∧ W.cell? ⟨g + 1, 1, none⟩ = some (.int .i64 k2) ∧ W.cell? ⟨g + 1, 2, none⟩ = some (.int .i64 n2) ∧ W.cell? ⟨g + 1 + 1, 0, none⟩ = some (.int .i64 h) ∧ W.cell? ⟨g + 1 + 1, 1, none⟩ = some v :=
  ⟨q.pl.a.c0, q.pl.a.c1, q.pl.a.c2, q.pl.b.c0, q.pl.b.c1, q.pl.b.c2, q.sh.c0, q.sh.c1⟩
theorem shares_lit1 {W : World} {ad : Nat} {h : Int} {v : Value} {l : List Int} (c0 : W.cell? ⟨ad, 0, none⟩ = some (.int .i64 h)) (c1 : W.cell? ⟨ad, 1, none⟩ = some v) (hI : Ints W v l) : Shares W (.slice (some ⟨ad, 0, none⟩) 1 1) [(h, l)] := by
  refine ⟨_, 1, rfl, by simp, by simp, by omega, fun _ => ⟨ad, 0, rfl, fun i hi => ?_⟩⟩
  obtain rfl : i = 0 := by simpa using hi
  exact ⟨v, c0, c1, hI⟩
set_option maxRecDepth 100000 in
set_option maxHeartbeats 8000000 in
theorem reshare_split (p k n p2 k2 n2 h : Int) (v vr : Value) (l r : List Int) (w : World) (hw : Wheel w) (hp : (Lit.int .i64 p).wf = true) (hp2 : (Lit.int .i64 p2).wf = true) (hv : Ints w v l) (hr : Slc w vr r) (hl : l.length ≤ 2048) (hrb : r.length ≤ 1000000) :
    Calls Tryd.prog 19 #[planV p k n, planV p2 k2 n2, shareV h v, vr] w fun e w' => ∃ v', e = .returned (.tuple #[v', .int .i64 (splitE p k n p2 k2 n2 (h, l) r)]) ∧ SharesN w' w.heap.size v' (splitR p k n p2 k2 n2 (h, l) r) ∧ Below w.heap.size w w' := by
  unfold planV shareV
  obtain ⟨av, cv, rfl⟩ := hv.shape
  obtain ⟨ar, cr, rfl, _, _, _⟩ := id hr
  obtain ⟨nv, hnv⟩ : ∃ nv, l.length = nv := ⟨_, rfl⟩
  obtain ⟨nr, hnr⟩ : ∃ nr, r.length = nr := ⟨_, rfl⟩
  obtain ⟨g, hgw⟩ : ∃ g, w.heap.size = g := ⟨_, rfl⟩
  obtain ⟨w1, hw1⟩ : ∃ w1, ((w.alloc (Obj.cells #[Value.int IntKind.i64 p, Value.int IntKind.i64 k, Value.int IntKind.i64 n] 30)).alloc (Obj.cells #[Value.int IntKind.i64 p2, Value.int IntKind.i64 k2, Value.int IntKind.i64 n2] 30)).alloc (Obj.cells #[Value.int IntKind.i64 h, .slice av l.length cv] 38) = w1 := ⟨_, rfl⟩
  have HA0 : Hid (Pl3 w w1 g p k n p2 k2 n2 h (.slice av l.length cv)) := by rw [← hw1, ← hgw]; exact pl3_new w hw _ _ _ _ _ _ _ _ _ _ _
  have HREL := Lib.hid (fun W (q : Pl3 w W g p k n p2 k2 n2 h (.slice av l.length cv)) => reshare_related p k n p2 k2 n2 W q.pl.wh hp hp2)
  have HALK := Lib.hid (fun W (q : Pl3 w W g p k n p2 k2 n2 h (.slice av l.length cv)) (hpb : planB p k n = true) => reshare_alike p k n (.slice (some ⟨W.heap.size, 0, none⟩) 1 1) [(h, l)] (W.alloc (.cells #[.int .i64 h, .slice av l.length cv] 38)) ((q.below ((Below.refl _ _).alloc (Nat.le_refl _) _)).pl.wh) hp hpb
    (shares_lit1 (shAt_new _ _ _ _).c0 (shAt_new _ _ _ _).c1 (hv.below (Nat.le_of_eq hgw) (q.below ((Below.refl _ _).alloc (Nat.le_refl _) _)).pl.be)) (fun x hx => by rw [List.mem_singleton.1 hx]; show l.length ≤ _; omega))
  have HDEAL := Lib.hid (fun W (q : Pl3 w W g p k n p2 k2 n2 h (.slice av l.length cv)) => share_deal_i p2 k2 n2 (.slice av l.length cv) (.slice ar r.length cr) l r W q.pl.wh hp2 (hv.below (Nat.le_of_eq hgw) q.pl.be) (hr.below (Nat.le_of_eq hgw) q.pl.be) hl hrb)
  unfold planV at HREL HALK HDEAL
  have HNO : Hid (¬ (relB p k n p2 k2 n2 = true ∧ stB p n (h, l) = true) → splitE p k n p2 k2 n2 (h, l) r = 1 ∧ splitR p k n p2 k2 n2 (h, l) r = []) := fun h => splitE_no h
  have HOK : Hid (relB p k n p2 k2 n2 = true ∧ stB p n (h, l) = true → splitE p k n p2 k2 n2 (h, l) r = dealE p2 k2 n2 l r ∧ splitR p k n p2 k2 n2 (h, l) r = dealR p2 k2 n2 l r) := fun h => splitE_ok h
  have HPB : Hid (relB p k n p2 k2 n2 = true → planB p k n = true) := fun h => (relB_parts h).2.1
  rw [alikeB_one] at HALK
  obtain ⟨br, hbr⟩ : ∃ b, relB p k n p2 k2 n2 = b := ⟨_, rfl⟩
  obtain ⟨bs, hbs⟩ : ∃ b, stB p n (h, l) = b := ⟨_, rfl⟩
  rw [hbr] at HREL HNO HOK HPB
  rw [hbs] at HALK HNO HOK
  rw [hnv] at HA0 HREL HALK HDEAL hw1 ⊢
  rw [hnr] at HDEAL ⊢
  rw [hgw]
  clear hw hp hp2 hv hr hl hrb hnv hnr hbr hbs
  obtain ⟨p0, p1, p2', q0, q1, q2, s0, s1⟩ := HA0.out.cells
  cases br with
  | false =>
    obtain ⟨e1, e2⟩ := HNO.out (by simp)
    rw [e1, e2]
    clear e1 e2
    go_enter Tryd.func19, Tryd.ntmps19
    go_wp2_with fail
    refine (HREL.out w1 HA0.out).mono ?_
    rintro e W1 ⟨rfl, hb⟩
    have HA1 := Lib.hid (HA0.out.below hb)
    clear hb
    go_wp2
    go_ret2
    exact ⟨_, rfl, sharesN_nil _ _, HA1.out.pl.be⟩
  | true =>
    have hpbt := HPB.out rfl
    have HPT := Lib.hid hpbt
    clear HPB hpbt
    cases bs with
    | false =>
      obtain ⟨e1, e2⟩ := HNO.out (by simp)
      rw [e1, e2]
      clear e1 e2
      go_enter Tryd.func19, Tryd.ntmps19
      go_wp2_with fail
      refine (HREL.out w1 HA0.out).mono ?_
      rintro e W1 ⟨rfl, hb⟩
      have HA1 := Lib.hid (HA0.out.below hb)
      clear hb p0 p1 p2' q0 q1 q2 s0 s1
      obtain ⟨p0, p1, p2', q0, q1, q2, s0, s1⟩ := HA1.out.cells
      have HQ := Lib.hid (HALK.out W1 HA1.out HPT.out)
      go_wp2_with fail
      refine HQ.out.mono ?_
      rintro e W2 ⟨rfl, hb⟩
      have HA2 := Lib.hid ((HA1.out.below ((Below.refl _ _).alloc (Nat.le_refl _) (.cells #[.int .i64 h, .slice av nv cv] 38))).below hb)
      clear hb
      go_wp2
      go_ret2
      exact ⟨_, rfl, sharesN_nil _ _, HA2.out.pl.be⟩
    | true =>
      obtain ⟨e1, e2⟩ := HOK.out (by simp)
      rw [e1, e2]
      clear e1 e2
      generalize dealE p2 k2 n2 l r = E at *
      generalize dealR p2 k2 n2 l r = R at *
      go_enter Tryd.func19, Tryd.ntmps19
      go_wp2_with fail
      refine (HREL.out w1 HA0.out).mono ?_
      rintro e W1 ⟨rfl, hb⟩
      have HA1 := Lib.hid (HA0.out.below hb)
      clear hb p0 p1 p2' q0 q1 q2 s0 s1
      obtain ⟨p0, p1, p2', q0, q1, q2, s0, s1⟩ := HA1.out.cells
      have HQ := Lib.hid (HALK.out W1 HA1.out HPT.out)
      go_wp2_with fail
      refine HQ.out.mono ?_
      rintro e W2 ⟨rfl, hb⟩
      have HA2 := Lib.hid ((HA1.out.below ((Below.refl _ _).alloc (Nat.le_refl _) (.cells #[.int .i64 h, .slice av nv cv] 38))).below hb)
      clear hb p0 p1 p2' q0 q1 q2 s0 s1
      obtain ⟨p0, p1, p2', q0, q1, q2, s0, s1⟩ := HA2.out.cells
      have HD := Lib.hid (HDEAL.out W2 HA2.out)
      clear HQ HNO HOK HREL HALK HDEAL
      go_wp2_with fail
      refine HD.out.mono ?_
      rintro e W3 ⟨v', rfl, hs, hb⟩
      have HA3 := Lib.hid (HA2.out.below hb)
      have HS3 := Lib.hid (hs.mono (B' := g) (by have := HA2.out.pl.lt; omega))
      clear hs hb
      go_wp2
      go_ret2
      exact ⟨_, rfl, HS3.out, HA3.out.pl.be⟩
end Go.Proofs.YtomnncainedjdaaDoor
