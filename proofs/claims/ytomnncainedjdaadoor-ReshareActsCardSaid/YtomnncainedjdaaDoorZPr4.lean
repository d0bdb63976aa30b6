
/- A region that draws its order, in which the last operations write what the first ones read: the reads may be taken first all the same, since those operations wait for them. No program. -/
import Derived.Deep.RegionHeld3
import Derived.Test.YtomnncainedjdaaDoorZPr1
import Derived.Deep.RegionLaw
/-! A region that draws its order, in which the last operations write what the first ones read: the reads may be taken first all the same, since those operations wait for them. No program. -/
namespace Go.Proofs.YtomnncainedjdaaDoor
section
variable {P : Program} {ops : Array Oper} {Q : Exit → Act → World → Prop} {md : Region.Mode} {S : World → Prop} {g : Nat → Bool}

/-- In whatever order; S is shown behind each operation of which g speaks. -/
def AnyG (P : Program) (md : Region.Mode) (ops : Array Oper) (Q : Exit → Act → World → Prop) (S : World → Prop) (g : Nat → Bool) : Nat → Array Bool → Act → World → Prop
  | 0, listed, a, w => Region.ready md ops listed = [] ∧ Q .normal a w
  | n + 1, listed, a, w => (Region.ready md ops listed = [] → Q .normal a w) ∧
    ∀ i ∈ Region.ready md ops listed, wpOp P ops Q i (fun a' w' => (g i = true → S w') ∧ AnyG P md ops Q S g n (listed.setIfInBounds i true) a' w') a w
theorem any_of_G : ∀ (n : Nat) (listed : Array Bool) (a : Act) (w : World), AnyG P md ops Q S g n listed a w → wpAny P md ops Q n listed a w
  | 0, _, _, _, h => h
  | n + 1, _, _, _, h => ⟨h.1, fun i hi => wpOp_mono (fun a' w' h' => any_of_G n _ a' w' h'.2) (h.2 i hi)⟩
/-- Whether operation j waits for operation i. -/
def waitB (md : Region.Mode) (ops : Array Oper) (j i : Nat) : Bool :=
  match ops[j]? with
  | some oj => oj.after.any fun e => Region.binds md e && e.on == i
  | none => false
theorem waitB_spec {j i : Nat} {oj : Oper} (ho : ops[j]? = some oj) (h : waitB md ops j i = true) : ∃ e ∈ oj.after, Region.binds md e = true ∧ e.on = i := by
  unfold waitB at h
  rw [ho] at h
  obtain ⟨e, he, hb⟩ := Array.any_eq_true'.1 h
  rw [Bool.and_eq_true, beq_iff_eq] at hb
  exact ⟨e, he, hb⟩
/-- Whether operation j waits for operation i, over at most n steps. -/
def waitN (md : Region.Mode) (ops : Array Oper) (i : Nat) : Nat → Nat → Bool
  | 0, j => waitB md ops j i
  | n + 1, j => waitB md ops j i || (match ops[j]? with
    | some oj => oj.after.any fun e => Region.binds md e && waitN md ops i n e.on
    | none => false)
/-- What has come up waited for nothing that has not. -/
def Shut (md : Region.Mode) (ops : Array Oper) (listed : Array Bool) : Prop := ∀ j oj, ops[j]? = some oj → listed.getD j false = true → ∀ e ∈ oj.after, Region.binds md e = true → listed.getD e.on false = true
theorem shut_wait {listed : Array Bool} (hs : Shut md ops listed) (i : Nat) : ∀ (n j : Nat), (∀ oj, ops[j]? = some oj → ∀ e ∈ oj.after, Region.binds md e = true → listed.getD e.on false = true) → waitN md ops i n j = true → listed.getD i false = true := by
  intro n
  induction n with
  | zero =>
    intro j hp h
    cases ho : ops[j]? with
    | none => simp [waitN, waitB, ho] at h
    | some oj =>
      obtain ⟨e, he, hb, hon⟩ := waitB_spec ho h
      rw [← hon]
      exact hp oj ho e he hb
  | succ n ih =>
    intro j hp h
    unfold waitN at h
    cases ho : ops[j]? with
    | none => simp [waitB, ho] at h
    | some oj =>
      rw [ho, Bool.or_eq_true] at h
      rcases h with h | h
      · obtain ⟨e, he, hb, hon⟩ := waitB_spec ho h
        rw [← hon]
        exact hp oj ho e he hb
      · obtain ⟨e, he, hb⟩ := Array.any_eq_true'.1 h
        rw [Bool.and_eq_true] at hb
        exact ih e.on (fun oe hoe => hs e.on oe hoe (hp oj ho e he hb.1)) hb.2
theorem shut_set {listed : Array Bool} {i : Nat} (hs : Shut md ops listed) (hr : i ∈ Region.ready md ops listed) : Shut md ops (listed.setIfInBounds i true) := by
  intro j oj ho hl e he hb
  refine getD_set_true ?_
  by_cases hij : i = j
  · subst hij
    obtain ⟨_, oi, hoi, hall⟩ := mem_ready.1 hr
    have : oi = oj := Option.some.inj (hoi.symm.trans ho)
    subst this
    exact hall e he hb
  · rw [getD_set_ne false hij] at hl
    exact hs j oj ho hl e he hb
/-- What comes up now, and yields its value in every world that meets T, may be taken first: T is kept by whatever does not wait for it. -/
theorem anyG_first {T : World → Prop} {i m : Nat} {oi : Oper} {v : Value} (hi : ops[i]? = some oi) (hsel : ∀ (j : Nat) (o : Oper) cs b, ops[j]? = some o → o.op ≠ .select cs b)
    (hQ : ∀ c a w, Q (.panic c) (a.put oi.dst v) w → Q (.panic c) a w) (hT : ∀ j, waitN md ops i m j = true ∨ ∀ w', (g j = true → S w') → T w') (hTS : ∀ w', T w' → g i = true → S w') :
    ∀ (n : Nat) (listed : Array Bool) (a : Act) (w : World), Shut md ops listed →
      (∀ j oj, ops[j]? = some oj → j ≠ i → listed.getD j true = false → (∀ e ∈ oj.after, Region.binds md e = true → e.on ≠ i) → oi.apart ops oj = true) →
      i ∈ Region.ready md ops listed → YieldsIf P ops T oi v a → T w →
      AnyG P md ops Q S g n (listed.setIfInBounds i true) (a.put oi.dst v) w → AnyG P md ops Q S g (n + 1) listed a w := by
  intro n
  induction n with
  | zero =>
    intro listed a w _ _ hr hy hw H
    refine ⟨fun h0 => absurd hr (by rw [h0]; simp), fun j hj => ?_⟩
    rcases Nat.decEq j i with hne | he
    · exact absurd (ready_mono hj hne) (by rw [H.1]; simp)
    · subst he
      exact hy.wpOp hi hw ⟨hTS w hw, H⟩
  | succ n ih =>
    intro listed a w hsh hfr hr hy hw H
    refine ⟨fun h0 => absurd hr (by rw [h0]; simp), fun j hj => ?_⟩
    rcases Nat.decEq j i with hne | he
    · obtain ⟨hun, oj, hoj, hall⟩ := mem_ready.1 hj
      have hun2 := (mem_ready.1 hr).1
      have hno : ¬ listed.getD i false = true := fun h1 => by
        by_cases hlt : i < listed.size
        · simp [hlt] at h1 hun2
          rw [h1] at hun2; cases hun2
        · simp [show listed.size ≤ i by omega] at h1
      have hTj : ∀ w', (g j = true → S w') → T w' := by
        rcases hT j with h | h
        · refine absurd (shut_wait hsh i m j (fun oj' ho' e he hb => ?_) h) hno
          have : oj = oj' := Option.some.inj (hoj.symm.trans ho')
          subst this
          exact hall e he hb
        · exact h
      have h2 := wpOp_putIf hoj (hfr j oj hoj hne hun fun e he hb hon => hno (by rw [← hon]; exact hall e he hb)) (fun cs b => hsel i oi cs b hi) (fun cs b => hsel j oj cs b hoj) hQ hy (H.2 j (ready_mono hj hne))
      refine wpOp_mono (fun a' w' ⟨k1, k2, k3⟩ => ⟨k2, ih _ a' w' (shut_set hsh hj) (fun x ox hx hxi hxu hxn => hfr x ox hx hxi ?_ hxn) (ready_mono hr (Ne.symm hne)) k1 (hTj w' k2) ?_⟩) h2
      · by_cases e : j = x
        · subst e; exact hun
        · rwa [getD_set_ne true e] at hxu
      · rw [Array.setIfInBounds_comm _ _ hne]
        exact k3
    · subst he
      exact hy.wpOp hi hw ⟨hTS w hw, H⟩
def shutB (md : Region.Mode) (ops : Array Oper) (listed : Array Bool) : Bool := (List.range ops.size).all fun j => !listed.getD j false || (match ops[j]? with
  | some oj => oj.after.all fun e => !Region.binds md e || listed.getD e.on false
  | none => true)
theorem shutB_spec {listed : Array Bool} (h : shutB md ops listed = true) : Shut md ops listed := by
  intro j oj ho hl e he hb
  have h1 := List.all_eq_true.1 h j (List.mem_range.2 (Array.getElem?_eq_some_iff.1 ho).1)
  rw [hl, ho] at h1
  simp only [Bool.not_true, Bool.false_or] at h1
  have h2 := Array.all_eq_true'.1 h1 e he
  rw [hb] at h2
  simpa using h2
/-- A read is taken first: what does not keep S waits for it. -/
theorem anyG_read {i : Nat} {oi : Oper} {v : Value} {n : Nat} {listed : Array Bool} {a : Act} {w : World} (hi : ops[i]? = some oi)
    (hs : Region.noSelect ops = true) (hf : Region.free md ops listed i = true) (hr : (Region.ready md ops listed).contains i = true) (hsh : shutB md ops listed = true)
    (hg : ((List.range ops.size).all fun j => g j || waitN md ops i 9 j) = true) (hbig : ∀ j, ops.size ≤ j → g j = true)
    (hQ : ∀ c a w, Q (.panic c) (a.put oi.dst v) w → Q (.panic c) a w) (hy : YieldsIf P ops S oi v a) (hw : S w)
    (h : AnyG P md ops Q S g n (listed.setIfInBounds i true) (a.put oi.dst v) w) : AnyG P md ops Q S g (n + 1) listed a w :=
  anyG_first hi (Region.noSelect_spec hs) hQ (m := 9) (fun j => by
    by_cases hj : j < ops.size
    · have := List.all_eq_true.1 hg j (List.mem_range.2 hj)
      rw [Bool.or_eq_true] at this
      rcases this with h | h
      · exact .inr fun w' k => k h
      · exact .inl h
    · exact .inr fun w' k => k (hbig j (by omega))) (fun w' k _ => k) n listed a w (shutB_spec hsh) (Region.free_spec hi hf) (by simpa using hr) hy hw h
/-- What looks at no memory is taken first. -/
theorem anyG_pure {i : Nat} {oi : Oper} {v : Value} {n : Nat} {listed : Array Bool} {a : Act} {w : World} (hi : ops[i]? = some oi)
    (hs : Region.noSelect ops = true) (hf : Region.free md ops listed i = true) (hr : (Region.ready md ops listed).contains i = true) (hsh : shutB md ops listed = true) (hgi : g i = false)
    (hQ : ∀ c a w, Q (.panic c) (a.put oi.dst v) w → Q (.panic c) a w) (hy : YieldsIf P ops (fun _ => True) oi v a)
    (h : AnyG P md ops Q S g n (listed.setIfInBounds i true) (a.put oi.dst v) w) : AnyG P md ops Q S g (n + 1) listed a w :=
  anyG_first hi (Region.noSelect_spec hs) hQ (m := 0) (fun j => .inr fun _ _ => trivial) (fun w' _ k => by rw [hgi] at k; cases k) n listed a w (shutB_spec hsh) (Region.free_spec hi hf) (by simpa using hr) hy trivial h
/-- One alone may come up. -/
theorem anyG_one {i : Nat} {o : Oper} {n : Nat} {listed : Array Bool} {a : Act} {w : World} (hr : Region.ready md ops listed = [i]) (ho : ops[i]? = some o) (hw : Region.wanted o (yielded ops a.tmps) = true)
    (h : ∀ K : Act → World → Prop, (∀ a' w', (g i = true → S w') → AnyG P md ops Q S g n (listed.setIfInBounds i true) a' w' → K a' w') → Oper.wp P o a w K Q) : AnyG P md ops Q S g (n + 1) listed a w := by
  refine ⟨(fun h0 => by rw [hr] at h0; cases h0), fun j hj => ?_⟩
  rw [hr, List.mem_singleton] at hj
  subst hj
  unfold wpOp
  rw [ho]
  simp only [hw, if_true]
  exact .inl (h _ fun a' w' k1 k2 => ⟨k1, k2⟩)
theorem anyG_done {n : Nat} {listed : Array Bool} {a : Act} {w : World} (hr : Region.ready md ops listed = []) (h : Q .normal a w) : AnyG P md ops Q S g n listed a w := by
  cases n with
  | zero => exact ⟨hr, h⟩
  | succ n => exact ⟨fun _ => h, (fun i hi => by rw [hr] at hi; cases hi)⟩
/-- The beginning. -/
theorem region_G {id : Nat} {a : Act} {w : World} (S : World → Prop) (g : Nat → Bool) (hm : P.follows .mixedOrders = true)
    (h : AnyG P .any ops Q S g ops.size (Array.replicate ops.size false) a w.drew) : (Code.region id ops true).wp P Q a w :=
  wp_region_any hm (any_of_G _ _ _ _ h)
end
end Go.Proofs.YtomnncainedjdaaDoor
/-! The program's package reshare: Join. -/
namespace Go.Proofs.YtomnncainedjdaaDoor
open Go.RowKit Go.Sort
open Num
set_option linter.unusedVariables false

/-- Two plans, and the share to be returned. -/
structure JoW (w0 W : World) (g : Nat) (p k n p2 k2 n2 : Int) : Prop where
  pl : Pl2 w0 W g p k n p2 k2 n2
  rs : ShAt W (g + 1 + 1) 0 (.slice none 0 0)
theorem JoW.below {w0 W W' : World} {g : Nat} {p k n p2 k2 n2 : Int} (h : JoW w0 W g p k n p2 k2 n2) (b : Below W.heap.size W W') : JoW w0 W' g p k n p2 k2 n2 :=
  ⟨h.pl.below b, h.rs.below b h.rs.lt⟩
theorem joW_new (w : World) (hw : Wheel w) (p k n p2 k2 n2 : Int) (t0 t1 t2 : TypeId) : JoW w (((w.alloc (Obj.cells #[Value.int IntKind.i64 p, Value.int IntKind.i64 k, Value.int IntKind.i64 n] t0)).alloc (Obj.cells #[Value.int IntKind.i64 p2, Value.int IntKind.i64 k2, Value.int IntKind.i64 n2] t1)).alloc (Obj.cells #[Value.int IntKind.i64 0, .slice none 0 0] t2)) w.heap.size p k n p2 k2 n2 :=
  ⟨(pl3_new w hw p k n p2 k2 n2 0 (.slice none 0 0) t0 t1 t2).pl, (pl3_new w hw p k n p2 k2 n2 0 (.slice none 0 0) t0 t1 t2).sh⟩
theorem JoW.cells {w0 W : World} {g : Nat} {p k n p2 k2 n2 : Int} (h : JoW w0 W g p k n p2 k2 n2) : W.cell? ⟨g, 0, none⟩ = some (.int .i64 p) ∧ W.cell? ⟨g, 1, none⟩ = some (.int .i64 k) ∧ W.cell? ⟨g, 2, none⟩ = some (.int .i64 n) ∧ W.cell? ⟨g + 1, 0, none⟩ = some (.int .i64 p2) ∧ W.cell? ⟨g + 1, 1, none⟩ = some (.int .i64 k2) ∧ W.cell? ⟨g + 1, 2, none⟩ = some (.int .i64 n2) ∧ W.cell? ⟨g + 1 + 1, 0, none⟩ = some (.int .i64 0) ∧ W.cell? ⟨g + 1 + 1, 1, none⟩ = some (.slice none 0 0) ∧ W.frozen? ⟨g + 1 + 1, 0, none⟩ = false ∧ W.frozen? ⟨g + 1 + 1, 1, none⟩ = false :=
  ⟨h.pl.a.c0, h.pl.a.c1, h.pl.a.c2, h.pl.b.c0, h.pl.b.c1, h.pl.b.c2, h.rs.c0, h.rs.c1, h.rs.fr 0, h.rs.fr 1⟩
set_option maxRecDepth 100000 in
set_option maxHeartbeats 16000000 in
theorem reshare_join_err (p k n p2 k2 n2 : Int) (vf vl : Value) (xs : List Int) (L : List Shr) (w : World) (hw : Wheel w) (hp : (Lit.int .i64 p).wf = true) (hp2 : (Lit.int .i64 p2).wf = true) (hf : Ints w vf xs) (hs : Shares w vl L) (hL : ∀ x ∈ L, x.2.length ≤ 1000000) (hE : joinE p k n p2 k2 n2 xs L ≠ 0) :
    Calls Tryd.prog 23 #[planV p k n, planV p2 k2 n2, vf, vl] w fun e w' => ∃ v', e = .returned (.tuple #[shareV (joinR p k n p2 k2 n2 xs L).1 v', .int .i64 (joinE p k n p2 k2 n2 xs L)]) ∧ Gath w' w.heap.size v' (joinR p k n p2 k2 n2 xs L).2 ∧ Below w.heap.size w w' := by
  unfold planV shareV
  obtain ⟨af, cf, rfl⟩ := hf.shape
  obtain ⟨al, cl, rfl, hL1, _⟩ := id hs
  obtain ⟨N, hN⟩ : ∃ N, xs.length = N := ⟨_, rfl⟩
  obtain ⟨M, hM⟩ : ∃ M, L.length = M := ⟨_, rfl⟩
  obtain ⟨g, hgw⟩ : ∃ g, w.heap.size = g := ⟨_, rfl⟩
  obtain ⟨w1, hw1⟩ : ∃ w1, ((w.alloc (Obj.cells #[Value.int IntKind.i64 p, Value.int IntKind.i64 k, Value.int IntKind.i64 n] 30)).alloc (Obj.cells #[Value.int IntKind.i64 p2, Value.int IntKind.i64 k2, Value.int IntKind.i64 n2] 30)).alloc (Obj.cells #[Value.int IntKind.i64 0, .slice none 0 0] 38) = w1 := ⟨_, rfl⟩
  have HA0 : Hid (JoW w w1 g p k n p2 k2 n2) := by rw [← hw1, ← hgw]; exact joW_new w hw _ _ _ _ _ _ _ _ _
  have HREL := Lib.hid (fun W (q : JoW w W g p k n p2 k2 n2) => reshare_related p k n p2 k2 n2 W q.pl.wh hp hp2)
  have HDIF := Lib.hid (fun W (q : JoW w W g p k n p2 k2 n2) (h16 : n ≤ 16) => reshare_different p k n (.slice af xs.length cf) xs W h16 (hf.below (Nat.le_of_eq hgw) q.pl.be))
  have HALK := Lib.hid (fun W (q : JoW w W g p k n p2 k2 n2) (hpb : planB p2 k2 n2 = true) => reshare_alike p2 k2 n2 (.slice al L.length cl) L W q.pl.wh hp2 hpb (hs.below (Nat.le_of_eq hgw) q.pl.be) hL)
  unfold planV at HREL HDIF HALK
  have HNO : Hid (¬ (relB p k n p2 k2 n2 = true ∧ diffB n xs = true ∧ L.length = xs.length ∧ alikeB p2 n2 L = true) → joinE p k n p2 k2 n2 xs L = 1 ∧ joinR p k n p2 k2 n2 xs L = (0, [])) := fun h => joinE_no h
  have HFEW : Hid (relB p k n p2 k2 n2 = true ∧ diffB n xs = true ∧ L.length = xs.length ∧ alikeB p2 n2 L = true → (xs.length : Int) < k → joinE p k n p2 k2 n2 xs L = 5 ∧ joinR p k n p2 k2 n2 xs L = (0, [])) := fun h h2 => joinE_few h h2
  have HOK : Hid (relB p k n p2 k2 n2 = true ∧ diffB n xs = true ∧ L.length = xs.length ∧ alikeB p2 n2 L = true → k ≤ (xs.length : Int) → joinE p k n p2 k2 n2 xs L = 0 ∧ joinR p k n p2 k2 n2 xs L = ((L.getD 0 (0, [])).1, joinL p xs L xs.length)) := fun h h2 => joinE_ok h h2
  have HPB : Hid (relB p k n p2 k2 n2 = true → n ≤ 16 ∧ planB p2 k2 n2 = true) := fun h => ⟨(planB_parts (relB_parts h).2.1).2.2.2.2.1, (relB_parts h).2.2⟩
  obtain ⟨br, hbr⟩ : ∃ b, relB p k n p2 k2 n2 = b := ⟨_, rfl⟩
  obtain ⟨bd, hbd⟩ : ∃ b, diffB n xs = b := ⟨_, rfl⟩
  obtain ⟨ba, hba⟩ : ∃ b, alikeB p2 n2 L = b := ⟨_, rfl⟩
  rw [hbr] at HREL HNO HOK HFEW HPB 
  rw [hbd] at HDIF HNO HOK HFEW
  rw [hba] at HALK HNO HOK HFEW
  have hNb : N ≤ 140737488355328 := by rw [← hN]; obtain ⟨_, _, _, h, _⟩ := id hf; exact h
  rw [hN] at HDIF HNO HOK HFEW ⊢
  rw [hM] at HALK HNO HOK HFEW hL1 ⊢
  rw [hgw]
  clear hw hp hp2 hf hs hL hbr hbd hba
  have HNN := Lib.hid hN
  have HEE := Lib.hid hE
  clear hN hM hE
  obtain ⟨p0, p1, p2', q0, q1, q2, r0, r1, f0, f1⟩ := HA0.out.cells
  cases br with
  | false =>
    obtain ⟨e1, e2⟩ := HNO.out (by simp)
    rw [e1, e2]
    clear e1 e2 HEE
    go_enter Tryd.func23, Tryd.ntmps23
    go_wp2_with fail
    refine (HREL.out w1 HA0.out).mono ?_
    rintro e W1 ⟨rfl, hb⟩
    have HA1 := Lib.hid (HA0.out.below hb)
    clear hb p0 p1 p2' q0 q1 q2 r0 r1 f0 f1
    obtain ⟨p0, p1, p2', q0, q1, q2, r0, r1, f0, f1⟩ := HA1.out.cells
    go_wp2_with fail
    have HF : Hid (Below g w ((W1.setCell ⟨g + 1 + 1, 0, none⟩ (.int .i64 0)).setCell ⟨g + 1 + 1, 1, none⟩ (.slice none 0 0))) := HA1.out.pl.be.trans ((set1_below _ 0 _ (by omega)).trans (set1_below _ 1 _ (by omega)))
    have hr := (HA1.out.rs.set0 0).set (.slice none 0 0)
    clear r0 r1 f0 f1
    generalize (W1.setCell ⟨g + 1 + 1, 0, none⟩ (.int .i64 0)).setCell ⟨g + 1 + 1, 1, none⟩ (.slice none 0 0) = W9 at *
    have r0 := hr.c0
    have r1 := hr.c1
    refine bodyPost_ret (v := .tuple #[.agg #[.int .i64 0, .slice none 0 0], .int .i64 1]) (by simp [results, Tryd.results23, go_sem, r0, r1]) rfl ?_
    exact ⟨_, rfl, gath_nil _ _, HF.out⟩
  | true =>
    have hpt := HPB.out rfl
    have HPT := Lib.hid hpt
    clear HPB hpt
    cases bd with
    | false =>
      obtain ⟨e1, e2⟩ := HNO.out (by simp)
      rw [e1, e2]
      clear e1 e2 HEE
      go_enter Tryd.func23, Tryd.ntmps23
      go_wp2_with fail
      refine (HREL.out w1 HA0.out).mono ?_
      rintro e W1 ⟨rfl, hb⟩
      have HA1 := Lib.hid (HA0.out.below hb)
      clear hb p0 p1 p2' q0 q1 q2 r0 r1 f0 f1
      obtain ⟨p0, p1, p2', q0, q1, q2, r0, r1, f0, f1⟩ := HA1.out.cells
      go_wp2_with fail
      refine (HDIF.out W1 HA1.out HPT.out.1).mono ?_
      rintro e W2 ⟨rfl, hb⟩
      have HA2 := Lib.hid (HA1.out.below hb)
      clear hb p0 p1 p2' q0 q1 q2 r0 r1 f0 f1
      obtain ⟨p0, p1, p2', q0, q1, q2, r0, r1, f0, f1⟩ := HA2.out.cells
      go_wp2_with fail
      have HF : Hid (Below g w ((W2.setCell ⟨g + 1 + 1, 0, none⟩ (.int .i64 0)).setCell ⟨g + 1 + 1, 1, none⟩ (.slice none 0 0))) := HA2.out.pl.be.trans ((set1_below _ 0 _ (by omega)).trans (set1_below _ 1 _ (by omega)))
      have hr := (HA2.out.rs.set0 0).set (.slice none 0 0)
      clear r0 r1 f0 f1
      generalize (W2.setCell ⟨g + 1 + 1, 0, none⟩ (.int .i64 0)).setCell ⟨g + 1 + 1, 1, none⟩ (.slice none 0 0) = W9 at *
      have r0 := hr.c0
      have r1 := hr.c1
      refine bodyPost_ret (v := .tuple #[.agg #[.int .i64 0, .slice none 0 0], .int .i64 1]) (by simp [results, Tryd.results23, go_sem, r0, r1]) rfl ?_
      exact ⟨_, rfl, gath_nil _ _, HF.out⟩
    | true =>
      by_cases hMN : M = N
      · subst hMN
        have n1 : ((M : Int) != (M : Int)) = false := by simp
        cases ba with
        | false =>
          obtain ⟨e1, e2⟩ := HNO.out (by simp)
          rw [e1, e2]
          clear e1 e2 HEE
          go_enter Tryd.func23, Tryd.ntmps23
          go_wp2_with fail
          refine (HREL.out w1 HA0.out).mono ?_
          rintro e W1 ⟨rfl, hb⟩
          have HA1 := Lib.hid (HA0.out.below hb)
          clear hb p0 p1 p2' q0 q1 q2 r0 r1 f0 f1
          obtain ⟨p0, p1, p2', q0, q1, q2, r0, r1, f0, f1⟩ := HA1.out.cells
          go_wp2_with fail
          refine (HDIF.out W1 HA1.out HPT.out.1).mono ?_
          rintro e W2 ⟨rfl, hb⟩
          have HA2 := Lib.hid (HA1.out.below hb)
          clear hb p0 p1 p2' q0 q1 q2 r0 r1 f0 f1
          obtain ⟨p0, p1, p2', q0, q1, q2, r0, r1, f0, f1⟩ := HA2.out.cells
          go_wp2_with fail
          refine (HALK.out W2 HA2.out HPT.out.2).mono ?_
          rintro e W3 ⟨rfl, hb⟩
          have HA3 := Lib.hid (HA2.out.below hb)
          clear hb p0 p1 p2' q0 q1 q2 r0 r1 f0 f1
          obtain ⟨p0, p1, p2', q0, q1, q2, r0, r1, f0, f1⟩ := HA3.out.cells
          go_wp2_with fail
          have HF : Hid (Below g w ((W3.setCell ⟨g + 1 + 1, 0, none⟩ (.int .i64 0)).setCell ⟨g + 1 + 1, 1, none⟩ (.slice none 0 0))) := HA3.out.pl.be.trans ((set1_below _ 0 _ (by omega)).trans (set1_below _ 1 _ (by omega)))
          have hr := (HA3.out.rs.set0 0).set (.slice none 0 0)
          clear r0 r1 f0 f1
          generalize (W3.setCell ⟨g + 1 + 1, 0, none⟩ (.int .i64 0)).setCell ⟨g + 1 + 1, 1, none⟩ (.slice none 0 0) = W9 at *
          have r0 := hr.c0
          have r1 := hr.c1
          refine bodyPost_ret (v := .tuple #[.agg #[.int .i64 0, .slice none 0 0], .int .i64 1]) (by simp [results, Tryd.results23, go_sem, r0, r1]) rfl ?_
          exact ⟨_, rfl, gath_nil _ _, HF.out⟩
        | true =>
          by_cases hfw : (M : Int) < k
          · obtain ⟨e1, e2⟩ := HFEW.out ⟨rfl, rfl, rfl, rfl⟩ hfw
            rw [e1, e2]
            clear e1 e2 HEE
            go_enter Tryd.func23, Tryd.ntmps23
            go_wp2_with fail
            refine (HREL.out w1 HA0.out).mono ?_
            rintro e W1 ⟨rfl, hb⟩
            have HA1 := Lib.hid (HA0.out.below hb)
            clear hb p0 p1 p2' q0 q1 q2 r0 r1 f0 f1
            obtain ⟨p0, p1, p2', q0, q1, q2, r0, r1, f0, f1⟩ := HA1.out.cells
            go_wp2_with fail
            refine (HDIF.out W1 HA1.out HPT.out.1).mono ?_
            rintro e W2 ⟨rfl, hb⟩
            have HA2 := Lib.hid (HA1.out.below hb)
            clear hb p0 p1 p2' q0 q1 q2 r0 r1 f0 f1
            obtain ⟨p0, p1, p2', q0, q1, q2, r0, r1, f0, f1⟩ := HA2.out.cells
            go_wp2_with fail
            refine (HALK.out W2 HA2.out HPT.out.2).mono ?_
            rintro e W3 ⟨rfl, hb⟩
            have HA3 := Lib.hid (HA2.out.below hb)
            clear hb p0 p1 p2' q0 q1 q2 r0 r1 f0 f1
            obtain ⟨p0, p1, p2', q0, q1, q2, r0, r1, f0, f1⟩ := HA3.out.cells
            go_wp2_with fail
            have HF : Hid (Below g w ((W3.setCell ⟨g + 1 + 1, 0, none⟩ (.int .i64 0)).setCell ⟨g + 1 + 1, 1, none⟩ (.slice none 0 0))) := HA3.out.pl.be.trans ((set1_below _ 0 _ (by omega)).trans (set1_below _ 1 _ (by omega)))
            have hr := (HA3.out.rs.set0 0).set (.slice none 0 0)
            clear r0 r1 f0 f1
            generalize (W3.setCell ⟨g + 1 + 1, 0, none⟩ (.int .i64 0)).setCell ⟨g + 1 + 1, 1, none⟩ (.slice none 0 0) = W9 at *
            have r0 := hr.c0
            have r1 := hr.c1
            refine bodyPost_ret (v := .tuple #[.agg #[.int .i64 0, .slice none 0 0], .int .i64 5]) (by simp [results, Tryd.results23, go_sem, r0, r1]) rfl ?_
            exact ⟨_, rfl, gath_nil _ _, HF.out⟩
          · exact absurd (HOK.out ⟨rfl, rfl, rfl, rfl⟩ (by omega)).1 HEE.out
      · have n1 : ((M : Int) != (N : Int)) = true := by simp only [bne_iff_ne]; omega
        obtain ⟨e1, e2⟩ := HNO.out (fun h => hMN h.2.2.1)
        rw [e1, e2]
        clear e1 e2 HEE
        go_enter Tryd.func23, Tryd.ntmps23
        go_wp2_with fail
        refine (HREL.out w1 HA0.out).mono ?_
        rintro e W1 ⟨rfl, hb⟩
        have HA1 := Lib.hid (HA0.out.below hb)
        clear hb p0 p1 p2' q0 q1 q2 r0 r1 f0 f1
        obtain ⟨p0, p1, p2', q0, q1, q2, r0, r1, f0, f1⟩ := HA1.out.cells
        go_wp2_with fail
        refine (HDIF.out W1 HA1.out HPT.out.1).mono ?_
        rintro e W2 ⟨rfl, hb⟩
        have HA2 := Lib.hid (HA1.out.below hb)
        clear hb p0 p1 p2' q0 q1 q2 r0 r1 f0 f1
        obtain ⟨p0, p1, p2', q0, q1, q2, r0, r1, f0, f1⟩ := HA2.out.cells
        go_wp2_with fail
        have HF : Hid (Below g w ((W2.setCell ⟨g + 1 + 1, 0, none⟩ (.int .i64 0)).setCell ⟨g + 1 + 1, 1, none⟩ (.slice none 0 0))) := HA2.out.pl.be.trans ((set1_below _ 0 _ (by omega)).trans (set1_below _ 1 _ (by omega)))
        have hr := (HA2.out.rs.set0 0).set (.slice none 0 0)
        clear r0 r1 f0 f1
        generalize (W2.setCell ⟨g + 1 + 1, 0, none⟩ (.int .i64 0)).setCell ⟨g + 1 + 1, 1, none⟩ (.slice none 0 0) = W9 at *
        have r0 := hr.c0
        have r1 := hr.c1
        refine bodyPost_ret (v := .tuple #[.agg #[.int .i64 0, .slice none 0 0], .int .i64 1]) (by simp [results, Tryd.results23, go_sem, r0, r1]) rfl ?_
        exact ⟨_, rfl, gath_nil _ _, HF.out⟩
end Go.Proofs.YtomnncainedjdaaDoor
/-! The program's package reshare: Join, where nothing is wrong. -/
namespace Go.Proofs.YtomnncainedjdaaDoor
open Go.RowKit Go.Sort
open Num
set_option linter.unusedVariables false
set_option linter.unusedSimpArgs false

/-- A region whose orders all end alike, but for two values. -/
theorem region_oneZ2 {P : Program} {id : Nat} {ops : Array Oper} {d : Bool} {Q : Exit → Act → World → Prop} {a : Act} {w : World} (R : Value → World → Prop) (A : Value → Value → Act) (hr : (Code.region id ops d).wp P (fun e a' W => e = .normal ∧ ∃ v x, a' = A v x ∧ R v W) a w)
    (h : ∀ v x W, R v W → Q .normal (A v x) W) : (Code.region id ops d).wp P Q a w :=
  Code.wp_mono (fun _ _ _ ⟨h1, v, x, h2, h3⟩ => by subst h1; subst h2; exact h v x _ h3) hr
/-- What Join keeps: the plans, the share to be returned, the share that grows in block q, and the weights. -/
structure JoL (w0 W : World) (g q : Nat) (p k n k2 n2 h : Int) (vj vw : Value) (J wl : List Int) : Prop where
  jw : JoW w0 W g p k n p k2 n2
  jo : ShAt W q h vj
  gj : Gath W (g + 1 + 1 + 1) vj J
  nj : ∀ b, vj.ownBlock = some b → b ≠ q
  wi : Ints W vw wl
  wn : ∀ b, vw.ownBlock = some b → b ≠ q
  lt : g + 1 + 1 < q
section
variable {w0 W W' : World} {g q : Nat} {p k n k2 n2 h h' : Int} {vj vw vj' : Value} {J wl J' : List Int}
theorem JoL.below (x : JoL w0 W g q p k n k2 n2 h vj vw J wl) (b : Below W.heap.size W W') : JoL w0 W' g q p k n k2 n2 h vj vw J wl :=
  ⟨x.jw.below b, x.jo.below b x.jo.lt, x.gj.kept b (Nat.le_refl _), x.nj, x.wi.below (Nat.le_refl _) b, x.wn, x.lt⟩
theorem gath_lt {w : World} {base : Nat} {v : Value} {zs : List Int} (x : Gath w base v zs) : ∀ b, v.ownBlock = some b → base ≤ b ∧ b < w.heap.size := fun b hb => World.ownsRow.lt x b hb
theorem joL_new (x : JoW w0 W g p k n p k2 n2) (gj : Gath W (g + 1 + 1 + 1) vj J) (wi : Ints W vw wl) (wn : ∀ b, vw.ownBlock = some b → b < W.heap.size) (t : TypeId) : JoL w0 (W.alloc (.cells #[.int .i64 h, vj] t)) g W.heap.size p k n k2 n2 h vj vw J wl := by
  have hal : Below W.heap.size W (W.alloc (.cells #[.int .i64 h, vj] t)) := (Below.refl _ _).alloc (Nat.le_refl _) _
  exact ⟨x.below hal, shAt_new _ _ _ _, gj.kept hal (Nat.le_refl _), fun b hb => by have := (gath_lt gj b hb).2; omega, wi.below (Nat.le_refl _) hal, fun b hb => by have := wn b hb; omega, x.rs.lt⟩
theorem JoL.next (x : JoL w0 W g q p k n k2 n2 h vj vw J wl) (gj : Gath W (g + 1 + 1 + 1) vj' J') (nj : ∀ b, vj'.ownBlock = some b → b ≠ q) : JoL w0 ((W.setCell ⟨q, 0, none⟩ (.int .i64 h')).setCell ⟨q, 1, none⟩ vj') g q p k n k2 n2 h' vj' vw J' wl := by
  have hb : Below q W ((W.setCell ⟨q, 0, none⟩ (.int .i64 h')).setCell ⟨q, 1, none⟩ vj') := (set1_below _ 0 _ (Nat.le_refl _)).trans (set1_below _ 1 _ (Nat.le_refl _))
  have hg : W.grownBy ((W.setCell ⟨q, 0, none⟩ (.int .i64 h')).setCell ⟨q, 1, none⟩ vj') (some q) := ((But.set W ⟨q, 0, none⟩ _).trans (But.set _ ⟨q, 1, none⟩ _)).grown
  refine ⟨⟨x.jw.pl.keep hb (by have := x.lt; omega), x.jw.rs.below hb x.lt⟩, (x.jo.set0 h').set vj', gath_kept_row gj hg fun b hb e => nj b hb (Option.some.inj e).symm, nj, x.wi.grown hg fun b hb e => x.wn b hb (Option.some.inj e).symm, x.wn, x.lt⟩
/-- Some of the cells. -/
theorem JoL.cells (x : JoL w0 W g q p k n k2 n2 h vj vw J wl) : W.cell? ⟨g, 0, none⟩ = some (.int .i64 p) ∧ W.cell? ⟨g, 1, none⟩ = some (.int .i64 k) ∧ W.cell? ⟨g, 2, none⟩ = some (.int .i64 n) ∧ W.cell? ⟨g + 1, 0, none⟩ = some (.int .i64 p) ∧ W.cell? ⟨g + 1, 1, none⟩ = some (.int .i64 k2) ∧ W.cell? ⟨g + 1, 2, none⟩ = some (.int .i64 n2) ∧ W.cell? ⟨q, 0, none⟩ = some (.int .i64 h) ∧ W.cell? ⟨q, 1, none⟩ = some vj ∧ W.frozen? ⟨q, 0, none⟩ = false ∧ W.frozen? ⟨q, 1, none⟩ = false :=
  ⟨x.jw.pl.a.c0, x.jw.pl.a.c1, x.jw.pl.a.c2, x.jw.pl.b.c0, x.jw.pl.b.c1, x.jw.pl.b.c2, x.jo.c0, x.jo.c1, x.jo.fr 0, x.jo.fr 1⟩
end
set_option maxRecDepth 100000 in
set_option maxHeartbeats 16000000 in
theorem reshare_join_ok (p k n k2 n2 : Int) (vf vl : Value) (xs : List Int) (L : List Shr) (w : World) (hw : Wheel w) (hp : (Lit.int .i64 p).wf = true) (hf : Ints w vf xs) (hs : Shares w vl L) (hL : ∀ x ∈ L, x.2.length ≤ 1000000)
    (hrel : relB p k n p k2 n2 = true) (hdf : diffB n xs = true) (hML : L.length = xs.length) (hak : alikeB p n2 L = true) (hkN : k ≤ (xs.length : Int)) :
    Calls Tryd.prog 23 #[planV p k n, planV p k2 n2, vf, vl] w fun e w' => ∃ v', e = .returned (.tuple #[shareV (L.getD 0 (0, [])).1 v', .int .i64 0]) ∧ Gath w' w.heap.size v' (joinL p xs L xs.length) ∧ Below w.heap.size w w' := by
  unfold planV shareV
  obtain ⟨af, cf, rfl⟩ := hf.shape
  obtain ⟨al, cl, rfl, hL1, hcl1, hcl2, _⟩ := id hs
  obtain ⟨N, hN⟩ : ∃ N, xs.length = N := ⟨_, rfl⟩
  have hM : L.length = N := by rw [hML, hN]
  rw [hM] at hL1 hcl1
  obtain ⟨g, hgw⟩ : ∃ g, w.heap.size = g := ⟨_, rfl⟩
  obtain ⟨w1, hw1⟩ : ∃ w1, ((w.alloc (Obj.cells #[Value.int IntKind.i64 p, Value.int IntKind.i64 k, Value.int IntKind.i64 n] 30)).alloc (Obj.cells #[Value.int IntKind.i64 p, Value.int IntKind.i64 k2, Value.int IntKind.i64 n2] 30)).alloc (Obj.cells #[Value.int IntKind.i64 0, .slice none 0 0] 38) = w1 := ⟨_, rfl⟩
  have HA0 : Hid (JoW w w1 g p k n p k2 n2) := by rw [← hw1, ← hgw]; exact joW_new w hw _ _ _ _ _ _ _ _ _
  have hpb1 := (relB_parts hrel).2.1
  have hpb2 := (relB_parts hrel).2.2
  obtain ⟨hprm, hp2, hk1, _, hn16, hnp⟩ := planB_parts hpb1
  have hN1 : 1 ≤ N := by omega
  have HREL := Lib.hid (fun W (q : JoW w W g p k n p k2 n2) => reshare_related p k n p k2 n2 W q.pl.wh hp hp)
  have HDIF := Lib.hid (fun W (q : JoW w W g p k n p k2 n2) => reshare_different p k n (.slice af xs.length cf) xs W hn16 (hf.below (Nat.le_of_eq hgw) q.pl.be))
  have HALK := Lib.hid (fun W (q : JoW w W g p k n p k2 n2) => reshare_alike p k2 n2 (.slice al L.length cl) L W q.pl.wh hp hpb2 (hs.below (Nat.le_of_eq hgw) q.pl.be) hL)
  unfold planV at HREL HDIF HALK
  rw [hrel] at HREL
  rw [hdf] at HDIF
  rw [hak] at HALK
  have hd2 := diffB_parts hdf
  have hxs : Els p xs := fun x hx => by have := hd2.1 x hx; exact ⟨by omega, by omega⟩
  have HWT := Lib.hid (fun W (q : JoW w W g p k n p k2 n2) => weights_ok (x := 0) (s := .slice af xs.length cf) W hprm hp2 ⟨by omega, by omega⟩ hxs (hf.below (Nat.le_of_eq hgw) q.pl.be) (plc_nodup (by omega) hd2.2) (by omega))
  have hAK := alikeB_parts hak
  have HWL : Hid ((wts p xs 0).length = N) := by show _ = _; rw [wts_len, hN]
  have HSH : Hid (∀ W, Below g w W → Shares W (.slice al N cl) L) := fun W b => by have := hs.below (Nat.le_of_eq hgw) b; rwa [hM] at this
  -- each share: its holder, and that its values are elements
  have HEL : Hid (∀ i, i < N → (L.getD i (0, [])).1 = (L.getD 0 (0, [])).1 ∧ Els p (L.getD i (0, [])).2 ∧ (L.getD i (0, [])).2.length ≤ 1000000 ∧ (L.getD i (0, [])).2.length = (L.getD 0 (0, [])).2.length ∧ stB p n2 (L.getD i (0, [])) = true) := fun i hi => by
    have := hAK i (by omega)
    refine ⟨this.2.1, ?_, ?_, this.2.2, this.1⟩
    · have h1 := this.1
      unfold stB at h1
      simp only [Bool.and_eq_true] at h1
      exact els_of_elB h1.2
    · exact hL _ (by rw [getS_at (by omega)]; exact List.getElem_mem _)
  obtain ⟨h0, hh0⟩ : ∃ h0, (L.getD 0 (0, [])).1 = h0 := ⟨_, rfl⟩
  obtain ⟨m, hm⟩ : ∃ m, (L.getD 0 (0, [])).2.length = m := ⟨_, rfl⟩
  rw [hh0, hm] at HEL
  have hp1 : 1 ≤ p := by have := hprm.1; omega
  have HJL : Hid (∀ j, 0 < j → j ≤ N → (joinL p xs L j).length = m) := fun j h1 h2 => joinL_len _ _ hm (fun i => by
    by_cases hi : i < N
    · rw [(HEL.out i hi).2.2.2.1]; exact Nat.le_refl _
    · rw [show L.getD i (0, []) = (0, []) by simp [List.getD, show L.length ≤ i by omega]]; exact Nat.zero_le _) h1
  have HJE := Lib.hid (fun j => joinL_els hp1 xs L j)
  have HJS := Lib.hid (fun j => joinL_succ hp1 xs L j)
  have HJ1 : Hid (linF p [] (L.getD 0 (0, [])).2 (wt p xs 0 0) = joinL p xs L 1) := joinL_one xs L
  have HWE := Lib.hid (fun j => wt_el hp1 xs 0 j)
  have HWG : Hid (∀ j, j < N → (wts p xs 0).getD j 0 = wt p xs 0 j) := fun j hj => wts_getD (by omega)
  have HPQ : Hid (PrmI p ∧ p ≤ 1073741824 ∧ 1 ≤ p ∧ planB p k2 n2 = true) := ⟨hprm, hp2, hp1, hpb2⟩
  have HPP := Lib.hid hp
  have HMB : Hid (m ≤ 1000000) := by have := (HEL.out 0 (by omega)).2.2.1; rwa [hm] at this
  rw [hN] at HDIF HWT ⊢
  rw [hM] at HALK ⊢
  rw [hh0, hgw]
  have hkn : ¬ (N : Int) < k := by omega
  have hkn2 : decide ((N : Int) < k) = false := decide_eq_false hkn
  have n1 : ((N : Int) != (N : Int)) = false := by simp
  clear hw hp hf hs hL hrel hdf hML hak hM hpb1 hpb2 hprm hp2 hd2 hxs hAK hh0 hm hp1 hk1 hn16 hnp
  have HNN := Lib.hid hN
  clear hN hkN
  obtain ⟨wl, hwl⟩ : ∃ wl, wts p xs 0 = wl := ⟨_, rfl⟩
  rw [hwl] at HWT HWL HWG
  clear hwl
  obtain ⟨p0, p1, p2', q0, q1, q2, r0, r1, f0, f1⟩ := HA0.out.cells
  go_enter Tryd.func23, Tryd.ntmps23
  go_wp2_with fail
  refine (HREL.out w1 HA0.out).mono ?_
  rintro e W1 ⟨rfl, hb⟩
  have HA1 := Lib.hid (HA0.out.below hb)
  clear hb p0 p1 p2' q0 q1 q2 r0 r1 f0 f1
  obtain ⟨p0, p1, p2', q0, q1, q2, r0, r1, f0, f1⟩ := HA1.out.cells
  go_wp2_with fail
  refine (HDIF.out W1 HA1.out).mono ?_
  rintro e W2 ⟨rfl, hb⟩
  have HA2 := Lib.hid (HA1.out.below hb)
  clear hb p0 p1 p2' q0 q1 q2 r0 r1 f0 f1
  obtain ⟨p0, p1, p2', q0, q1, q2, r0, r1, f0, f1⟩ := HA2.out.cells
  go_wp2_with fail
  refine (HALK.out W2 HA2.out).mono ?_
  rintro e W3 ⟨rfl, hb⟩
  have HA3 := Lib.hid (HA2.out.below hb)
  clear hb p0 p1 p2' q0 q1 q2 r0 r1 f0 f1
  obtain ⟨p0, p1, p2', q0, q1, q2, r0, r1, f0, f1⟩ := HA3.out.cells
  go_wp2_with fail
  refine (HWT.out W3 HA3.out).mono ?_
  rintro e W4 ⟨vw, rfl, hwi, hwb, hb⟩
  have HA4 := Lib.hid (HA3.out.below hb)
  clear p0 p1 p2' q0 q1 q2 r0 r1 f0 f1
  obtain ⟨aw, cw, rfl⟩ := hwi.shape
  rw [HWL.out] at hwi ⊢
  have HWI := Lib.hid hwi
  have HWB : Hid (∀ b, (Value.slice aw N cw).ownBlock = some b → b < W4.heap.size) := fun b hb => hwi.blk b hb (fun e => by have := HWL.out; rw [e] at this; simp at this; omega)
  obtain ⟨bw, ow, hawe, hw0⟩ := hwi.pos (k := 0) (by omega)
  subst hawe
  rw [HWG.out 0 (by omega), Nat.add_zero] at hw0
  obtain ⟨b, o, v1, hale, c0, c1, hi1⟩ := (HSH.out W4 HA4.out.pl.be).at (i := 0) (by omega)
  subst hale
  obtain ⟨a1, d1, rfl⟩ := hi1.shape
  rw [Nat.zero_mul, Nat.add_zero] at c0 c1
  obtain ⟨e1, e2, e3, e4, e5⟩ := HEL.out 0 (by omega)
  rw [e1] at c0
  rw [e4] at c1
  have HSC := Lib.hid (fun W (hb : Below W4.heap.size W4 W) => share_scale p k2 n2 h0 (wt p xs 0 0) (.slice a1 (L.getD 0 (0, [])).2.length d1) (L.getD 0 (0, [])).2 W HPQ.out.2.2.1 HPQ.out.2.1 (HWE.out 0) e2 (hi1.below (Nat.le_refl _) hb) e3)
  unfold planV shareV at HSC
  rw [e4, HJ1.out] at HSC
  obtain ⟨J1, hJ1⟩ : ∃ J1, joinL p xs L 1 = J1 := ⟨_, rfl⟩
  have HJ1L : Hid (J1.length = m) := by rw [← hJ1]; exact HJL.out 1 (by omega) (by omega)
  rw [hJ1] at HSC
  have HJJ := Lib.hid hJ1
  obtain ⟨w00, hw00⟩ : ∃ x, wt p xs 0 0 = x := ⟨_, rfl⟩
  rw [hw00] at HSC hw0
  obtain ⟨p0, p1, p2', q0, q1, q2, r0, r1, f0, f1⟩ := HA4.out.cells
  have q0' : W4.drew.cell? ⟨g + 1, 0, none⟩ = some (.int .i64 p) := q0
  have q1' : W4.drew.cell? ⟨g + 1, 1, none⟩ = some (.int .i64 k2) := q1
  have q2'' : W4.drew.cell? ⟨g + 1, 2, none⟩ = some (.int .i64 n2) := q2
  have c0' : W4.drew.cell? ⟨b, o, none⟩ = some (.int .i64 h0) := c0
  have c1' : W4.drew.cell? ⟨b, o + 1, none⟩ = some (.slice a1 m d1) := c1
  have w0' : W4.drew.cell? ⟨bw, ow, none⟩ = some (.int .i64 w00) := hw0
  have HKP : Hid (∀ W, Below W4.heap.size W4 W → W.cell? ⟨g + 1, 0, none⟩ = some (.int .i64 p) ∧ W.cell? ⟨g + 1, 1, none⟩ = some (.int .i64 k2) ∧ W.cell? ⟨g + 1, 2, none⟩ = some (.int .i64 n2) ∧ W.cell? ⟨b, o, none⟩ = some (.int .i64 h0) ∧ W.cell? ⟨b, o + 1, none⟩ = some (.slice a1 m d1) ∧ W.cell? ⟨bw, ow, none⟩ = some (.int .i64 w00)) :=
    fun W hb => ⟨below_cell hb q0, below_cell hb q1, below_cell hb q2, below_cell hb c0, below_cell hb c1, below_cell hb hw0⟩
  have HBD : Hid (Below W4.heap.size W4 W4.drew) := (Below.refl _ _).drew
  have HBA : Hid (Below W4.heap.size W4 (W4.alloc (.cells #[.int .i64 0, .slice none 0 0] 38)).drew) := ((Below.refl W4.heap.size W4).alloc (Nat.le_refl _) _).drew
  have HSK := HKP.out _ HBD.out
  have HSK1 := HKP.out _ HBA.out
  have HG3 : Hid (g + 1 + 1 + 1 ≤ W4.heap.size) := HA4.out.rs.lt
  have HNZ : Hid (JoL w (W4.alloc (.cells #[.int .i64 0, .slice none 0 0] 38)).drew g W4.heap.size p k n k2 n2 0 (.slice none 0 0) (.slice (some ⟨bw, ow, none⟩) N cw) [] wl) :=
    (joL_new (h := 0) (vj := .slice none 0 0) HA4.out (gath_nil _ _) HWI.out HWB.out 38).below ((Below.refl _ _).drew)
  have HSZA : Hid (W4.heap.size ≤ (W4.alloc (.cells #[.int .i64 0, .slice none 0 0] 38)).drew.heap.size) := HBA.out.size
  have HST : Hid (∀ (W : World) (u : Value), Below W4.heap.size W4 W → Below W4.heap.size W4 ((W.setCell ⟨W4.heap.size, 0, none⟩ (.int .i64 h0)).setCell ⟨W4.heap.size, 1, none⟩ u)) := fun W u hb => hb.trans ((set1_below _ 0 _ (Nat.le_refl _)).trans (set1_below _ 1 _ (Nat.le_refl _)))
  have HJA : Hid (∀ (W : World) (u : Value), Below W4.heap.size W4 W → Gath W W4.heap.size u J1 → JoL w (W.alloc (.cells #[.int .i64 h0, u] 38)) g W.heap.size p k n k2 n2 h0 u (.slice (some ⟨bw, ow, none⟩) N cw) J1 wl) := fun W u hb hg =>
    joL_new (HA4.out.below hb) (hg.mono HG3.out) (HWI.out.below (Nat.le_refl _) hb) (fun b h => Nat.lt_of_lt_of_le (HWB.out b h) hb.size) _
  have i0 : (0 : Int) < (N : Int) := by omega
  have i1 : 0 < N := by omega
  clear hwi hwb hb hi1 e1 e2 e3 e4 e5 hJ1 hw00 q0 q1 q2 c0 c1 hw0 p0 p1 p2' r0 r1 f0 f1
  go_wp2_with fail
  apply region_oneZ (fun v c W => Hid (JoL w W g c p k n k2 n2 h0 v (.slice (some ⟨bw, ow, none⟩) N cw) J1 wl))
  case hr =>
    refine wp_region_noPanic ?_
    go_region_held3 (fun W' => W'.cell? ⟨g + 1, 0, none⟩ = some (.int .i64 p) ∧ W'.cell? ⟨g + 1, 1, none⟩ = some (.int .i64 k2) ∧ W'.cell? ⟨g + 1, 2, none⟩ = some (.int .i64 n2) ∧ W'.cell? ⟨b, o, none⟩ = some (.int .i64 h0) ∧ W'.cell? ⟨b, o + 1, none⟩ = some (.slice a1 m d1) ∧ W'.cell? ⟨bw, ow, none⟩ = some (.int .i64 w00)) (first | go_keep | exact HSK | exact HSK1 | exact HSK2 | exact HSK3)
      (first
        | (go_at_call 42; (with_reducible refine (HSC.out W4.drew HBD.out).mono ?_); rintro e w5 ⟨vs, rfl, hgs, hb⟩; have HB5 := Lib.hid (HBD.out.trans hb); have HSK2 := HKP.out w5 HB5.out; have HG5 := Lib.hid (hgs.mono (B' := W4.heap.size) (Nat.le_refl W4.heap.size)); obtain ⟨ax, cx, rfl⟩ := hgs.shape; clear hgs hb)
        | (go_at_call 42; (with_reducible refine (HSC.out _ HBA.out).mono ?_); rintro e w5 ⟨vs, rfl, hgs, hb⟩; have HB5 := Lib.hid (HBA.out.trans (hb.mono HSZA.out)); have HSK2 := HKP.out w5 HB5.out; have HZ5 := Lib.hid (HNZ.out.below hb); have HG5 := Lib.hid hgs; have r0 := HZ5.out.jo.c0; have r1 := HZ5.out.jo.c1; have f0 := HZ5.out.jo.fr 0; have f1 := HZ5.out.jo.fr 1; obtain ⟨ax, cx, rfl⟩ := hgs.shape; have HSK3 := HKP.out _ (HST.out w5 (.slice ax J1.length cx) HB5.out); clear hgs hb))
    · refine NoPanic.normal ?_
      have h3 := HJA.out w5 (.slice ax J1.length cx) HB5.out HG5.out
      obtain ⟨vs, hvs⟩ : ∃ v, Value.slice ax J1.length cx = v := ⟨_, rfl⟩
      rw [hvs] at h3 ⊢
      generalize w5.alloc (.cells #[.int .i64 h0, vs] 38) = W at *
      obtain ⟨c, hc⟩ : ∃ c, w5.heap.size = c := ⟨_, rfl⟩
      rw [hc] at h3 ⊢
      exact ⟨rfl, vs, c, rfl, h3⟩
    · refine NoPanic.normal ?_
      have h3 := HZ5.out.next (h' := h0) (vj' := .slice ax J1.length cx) (J' := J1) (HG5.out.mono (by have := HG3.out; have := HSZA.out; omega)) (fun b hb e => by have := (gath_lt HG5.out b hb).1; have h9 : W4.heap.size < (W4.alloc (.cells #[.int .i64 0, .slice none 0 0] 38)).drew.heap.size := (by show W4.heap.size < (W4.alloc _).heap.size; simp); omega)
      obtain ⟨vs, hvs⟩ : ∃ v, Value.slice ax J1.length cx = v := ⟨_, rfl⟩
      rw [hvs] at h3 ⊢
      generalize ((w5.setCell ⟨W4.heap.size, 0, none⟩ (.int .i64 h0)).setCell ⟨W4.heap.size, 1, none⟩ vs) = W at *
      obtain ⟨c, hc⟩ : ∃ c, W4.heap.size = c := ⟨_, rfl⟩
      rw [hc] at h3 ⊢
      exact ⟨rfl, vs, c, rfl, h3⟩
  rintro vj q W5 HF
  clear HSK HSK1 q0' q1' q2'' c0' c1' w0' HKP HST HJA HNZ HBA HBD HSC HSZA
  obtain ⟨R, hR⟩ : ∃ R, N - 1 = R := ⟨_, rfl⟩
  have hnk : N - 1 ≤ N := Nat.sub_le _ _
  have h1N : 1 ≤ N := by omega
  have h1c : 1 ≤ cl := by omega
  have HI0 : Hid (∃ vj, JoL w W5 g q p k n k2 n2 h0 vj (.slice (some ⟨bw, ow, none⟩) N cw) (joinL p xs L 1) wl) := ⟨vj, by rw [HJJ.out]; exact HF.out⟩
  clear HF HJ1L HJJ HJ1 HG3 HWB HWI
  by_cases hcl : 1 < cl
  case neg =>
    obtain rfl : cl = 1 := by omega
    obtain rfl : N = 1 := by omega
    obtain rfl : R = 0 := by omega
    go_wp2_with fail
    go_loopw [63] (fun i wr => i = .int .i64 (0 : Int) ∧ Hid (∃ vj, JoL w wr g q p k n k2 n2 h0 vj (.slice (some ⟨bw, ow, none⟩) 1 cw) (joinL p xs L 1) wl)) (fun i _ => 0)
    case atStart => exact ⟨rfl, HI0⟩
    case round =>
      obtain ⟨rfl, HF⟩ := hrel
      clear HI0
      obtain ⟨vj, hJ⟩ := HF.out
      clear HF
      obtain ⟨Jl, hJl⟩ : ∃ Jl, joinL p xs L 1 = Jl := ⟨_, rfl⟩
      rw [hJl] at hJ
      have hJm : Jl.length = m := by rw [← hJl]; exact HJL.out _ (by omega) (by omega)
      obtain ⟨aj, cj, rfl⟩ := hJ.gj.shape
      rw [hJm] at hJ
      obtain ⟨_, _, _, _, _, _, r0, r1, _, _⟩ := hJ.cells
      have t0 := hJ.jw.rs.c0
      have t1 := hJ.jw.rs.c1
      have f0 := hJ.jw.rs.fr 0
      have f1 := hJ.jw.rs.fr 1
      have hr := (hJ.jw.rs.set0 h0).set (.slice aj m cj)
      have hbf : Below g w ((wr.setCell ⟨g + 1 + 1, 0, none⟩ (.int .i64 h0)).setCell ⟨g + 1 + 1, 1, none⟩ (.slice aj m cj)) := hJ.jw.pl.be.trans ((set1_below _ 0 _ (by omega)).trans (set1_below _ 1 _ (by omega)))
      have hgf : Gath ((wr.setCell ⟨g + 1 + 1, 0, none⟩ (.int .i64 h0)).setCell ⟨g + 1 + 1, 1, none⟩ (.slice aj m cj)) g (.slice aj m cj) (joinL p xs L 1) := by
        rw [hJl]
        exact (gath_set_other (gath_set_other hJ.gj (Nat.lt_succ_self _) 0 _) (Nat.lt_succ_self _) 1 _).mono (by omega)
      have HR9 := Lib.hid hr
      have HBF := Lib.hid hbf
      have HGF := Lib.hid hgf
      clear hr hbf hgf hJ hJl hJm
      go_wp2_with fail
      clear r0 r1 t0 t1 f0 f1
      generalize (wr.setCell ⟨g + 1 + 1, 0, none⟩ (.int .i64 h0)).setCell ⟨g + 1 + 1, 1, none⟩ (.slice aj m cj) = W9 at *
      have r0 := HR9.out.c0
      have r1 := HR9.out.c1
      refine bodyPost_ret (v := .tuple #[.agg #[.int .i64 h0, .slice aj m cj], .int .i64 0]) (by simp [results, Tryd.results23, go_sem, r0, r1]) rfl ?_
      exact ⟨_, rfl, HGF.out, HBF.out⟩
  go_wp2_with fail
  go_loopw [63] (fun i wr => ∃ j : Nat, j ≤ R ∧ i = .int .i64 j ∧ Hid (∃ vj, JoL w wr g q p k n k2 n2 h0 vj (.slice (some ⟨bw, ow, none⟩) N cw) (joinL p xs L (j + 1)) wl)) (fun i _ => R - (intOf i).toNat)
  case atStart => exact ⟨0, Nat.zero_le _, rfl, HI0⟩
  case round =>
    obtain ⟨j, hj, rfl, HF⟩ := hrel
    clear HI0
    obtain ⟨vj, hJ⟩ := HF.out
    clear HF
    obtain ⟨Jl, hJl⟩ : ∃ Jl, joinL p xs L (j + 1) = Jl := ⟨_, rfl⟩
    rw [hJl] at hJ
    have hJm : Jl.length = m := by rw [← hJl]; exact HJL.out _ (by omega) (by omega)
    have hJe : Els p Jl := by rw [← hJl]; exact HJE.out _
    obtain ⟨aj, cj, rfl⟩ := hJ.gj.shape
    rw [hJm] at hJ
    have HJ := Lib.hid hJ
    have HGQ : Hid (g + 1 + 1 < q) := hJ.lt
    by_cases hlt : j < R
    · obtain ⟨J, hJJ⟩ : ∃ J, j + 1 = J := ⟨_, rfl⟩
      have hw1 : IntKind.i64.wrap ((j : Int) + 1) = (J : Int) := by rw [IntKind.wrap_i64]; omega
      have hJN : J < N := by omega
      have hJN' : (J : Int) < (N : Int) := by omega
      have hJ0 : (0 : Int) ≤ (J : Int) := by omega
      obtain ⟨b', o', v2, he, c0, c1, hi2⟩ := (HSH.out wr hJ.jw.pl.be).at hJN
      simp only [Option.some.injEq, Addr.mk.injEq, and_true] at he
      obtain ⟨rfl, rfl⟩ := he
      rw [show o + J * 2 = o + 2 + j * 2 by omega] at c0 c1
      obtain ⟨a2, d2, rfl⟩ := hi2.shape
      obtain ⟨e1, e2, e3, e4, e5⟩ := HEL.out J hJN
      rw [e1] at c0
      rw [e4] at c1
      obtain ⟨bw', ow', hawe, hw0⟩ := hJ.wi.pos (k := J) hJN
      simp only [Option.some.injEq, Addr.mk.injEq, and_true] at hawe
      obtain ⟨rfl, rfl⟩ := hawe
      rw [HWG.out J hJN] at hw0
      obtain ⟨w00, hw00⟩ : ∃ x, wt p xs 0 J = x := ⟨_, rfl⟩
      rw [hw00] at hw0
      -- the two contracts
      have hT : (linF p [] (L.getD J (0, [])).2 w00).length = m := by rw [linF_len', List.length_nil, Nat.zero_max, e4]
      have hTe : Els p (linF p [] (L.getD J (0, [])).2 w00) := linF_els' HPQ.out.2.2.1 _ _ _
      have hN2 : linF p Jl (linF p [] (L.getD J (0, [])).2 w00) 1 = joinL p xs L (J + 1) := by rw [← hJl, ← hw00, ← hJJ]; exact HJS.out (j + 1)
      obtain ⟨T, hTT⟩ : ∃ T, linF p [] (L.getD J (0, [])).2 w00 = T := ⟨_, rfl⟩
      obtain ⟨gs, hgs⟩ : ∃ gs, wr.heap.size = gs := ⟨_, rfl⟩
      obtain ⟨W6, hW6⟩ : ∃ W6, wr.alloc (.cells #[.int .i64 h0, .slice a2 m d2] 38) = W6 := ⟨_, rfl⟩
      have hal : Below gs wr W6 := by rw [← hW6, ← hgs]; exact (Below.refl _ _).alloc (Nat.le_refl _) _
      have hsa : ShAt W6 gs h0 (.slice a2 m d2) := by rw [← hW6, ← hgs]; exact shAt_new _ _ _ _
      have hJ6 := hJ.below (W' := W6) (by rw [hgs]; exact hal)
      have hi6 := hi2.below (Nat.le_of_eq hgs) hal
      have HSC := Lib.hid (fun W (hb : Below W6.heap.size W6 W) => share_scale p k2 n2 h0 w00 (.slice a2 (L.getD J (0, [])).2.length d2) (L.getD J (0, [])).2 W HPQ.out.2.2.1 HPQ.out.2.1 (by rw [← hw00]; exact HWE.out J) e2 (hi6.below (Nat.le_refl _) hb) e3)
      unfold planV shareV at HSC
      rw [e4, hTT] at HSC
      have hstJ : stB p n2 (h0, Jl) = true := by
        have h := e5
        unfold stB at h ⊢
        simp only [Bool.and_eq_true, decide_eq_true_eq] at h ⊢
        rw [e1] at h
        exact ⟨h.1, elB_of HPQ.out.1 HPQ.out.2.1 hJe⟩
      rw [hTT] at hT hTe hN2
      have hstT : stB p n2 (h0, T) = true := by
        have h := e5
        unfold stB at h ⊢
        simp only [Bool.and_eq_true, decide_eq_true_eq] at h ⊢
        rw [e1] at h
        exact ⟨h.1, elB_of HPQ.out.1 HPQ.out.2.1 hTe⟩
      have hok := addE_ok (p := p) (k := k2) (n := n2) (a := (h0, Jl)) (b := (h0, T)) ⟨HPQ.out.2.2.2, hstJ, hstT, rfl, by show Jl.length = T.length; omega⟩
      have HAD := Lib.hid (fun W v' (hb : Below W6.heap.size W6 W) (hi : Ints W v' T) => share_add p k2 n2 h0 h0 (.slice aj m cj) v' Jl T W ((hJ6.jw.below hb).pl.wh) HPP.out ((hJ6.below hb).gj.reads (by have := HMB.out; omega)) hi (by have := HMB.out; omega) (by have := HMB.out; omega))
      unfold planV shareV at HAD
      rw [hok.1, hok.2] at HAD
      simp only at HAD
      rw [hN2] at HAD
      have HTM : Hid (T.length = m) := hT
      have hJn : (joinL p xs L (J + 1)).length = m := HJL.out _ (by omega) (by omega)
      obtain ⟨Jn, hJn2⟩ : ∃ Jn, joinL p xs L (J + 1) = Jn := ⟨_, rfl⟩
      rw [hJn2] at HAD hJn
      have HJN := Lib.hid hJn
      have HJN2 := Lib.hid hJn2
      have HJ6 := Lib.hid hJ6
      have HJR := Lib.hid (And.intro hJJ (show j < R from hlt))
      have HGS : Hid (q < gs) := by rw [← hgs]; exact hJ.jo.lt
      have HZ6 : Hid (W6.heap.size = gs + 1) := by show _ = _; rw [← hW6, ← hgs]; simp
      have HN1 := Lib.hid hR
      obtain ⟨_, _, _, p0, p1, p2, r0, r1, f0, f1⟩ := hJ6.cells
      have s0 := hsa.c0
      have s1 := hsa.c1
      have w0' : W6.cell? ⟨bw, ow + J, none⟩ = some (.int .i64 w00) := by rw [hal.cell (p := ⟨bw, ow + J, none⟩) (by have := cell_lt hw0; rwa [hgs] at this)]; exact hw0
      have HKP : Hid (∀ W, Below W6.heap.size W6 W → W.cell? ⟨g + 1, 0, none⟩ = some (.int .i64 p) ∧ W.cell? ⟨g + 1, 1, none⟩ = some (.int .i64 k2) ∧ W.cell? ⟨g + 1, 2, none⟩ = some (.int .i64 n2) ∧ W.cell? ⟨q, 0, none⟩ = some (.int .i64 h0) ∧ W.cell? ⟨q, 1, none⟩ = some (.slice aj m cj) ∧ W.cell? ⟨gs, 0, none⟩ = some (.int .i64 h0) ∧ W.cell? ⟨gs, 1, none⟩ = some (.slice a2 m d2) ∧ W.cell? ⟨bw, ow + J, none⟩ = some (.int .i64 w00)) :=
        fun W hb => ⟨below_cell hb p0, below_cell hb p1, below_cell hb p2, below_cell hb r0, below_cell hb r1, below_cell hb s0, below_cell hb s1, below_cell hb w0'⟩
      have HBD : Hid (Below W6.heap.size W6 W6.drew) := (Below.refl _ _).drew
      clear hJ hJ6 hJl hJm hJe hJJ hi2 e1 e2 e3 e4 e5 hw00 hT hTe hN2 hTT hal hsa hi6 hstJ hstT hok hJn hJn2 p0 p1 p2 r0 r1 f0 f1 s0 s1 w0' hw0
      go_wp2_with fail
      clear c0 c1
      apply region_oneZ2 (fun v W => Hid (JoL w W g q p k n k2 n2 h0 v (.slice (some ⟨bw, ow, none⟩) N cw) Jn wl))
      case hr =>
        refine wp_region_noPanic ?_
        have hbig : ∀ j : Nat, 15 ≤ j → (fun j : Nat => !(decide (11 ≤ j) && decide (j ≤ 14))) j = true := fun j hj => by
          have : ¬ j ≤ 14 := by omega
          simp [this]
        have HSK := HKP.out _ HBD.out
        refine region_G (fun W' => W'.cell? ⟨g + 1, 0, none⟩ = some (.int .i64 p) ∧ W'.cell? ⟨g + 1, 1, none⟩ = some (.int .i64 k2) ∧ W'.cell? ⟨g + 1, 2, none⟩ = some (.int .i64 n2) ∧ W'.cell? ⟨q, 0, none⟩ = some (.int .i64 h0) ∧ W'.cell? ⟨q, 1, none⟩ = some (.slice aj m cj) ∧ W'.cell? ⟨gs, 0, none⟩ = some (.int .i64 h0) ∧ W'.cell? ⟨gs, 1, none⟩ = some (.slice a2 m d2) ∧ W'.cell? ⟨bw, ow + J, none⟩ = some (.int .i64 w00)) (fun j => !(decide (11 ≤ j) && decide (j ≤ 14))) rfl ?_
        refine anyG_read (i := 0) (v := ?_) rfl (by kernel_rfl) (by kernel_rfl) (by kernel_rfl) (by kernel_rfl) (by kernel_rfl) hbig (fun _ _ _ h => h) (Or.inl ⟨by rfl, ?_⟩) HSK ?_
        rotate_left
        · (intro w hSw; (try dsimp only at hSw); go_simp; (try with_reducible rfl))
        try simp only [Act.put, List.setIfInBounds_toArray, List.set_cons_zero, List.set_cons_succ]
        refine anyG_read (i := 1) (v := ?_) rfl (by kernel_rfl) (by kernel_rfl) (by kernel_rfl) (by kernel_rfl) (by kernel_rfl) hbig (fun _ _ _ h => h) (Or.inl ⟨by rfl, ?_⟩) HSK ?_
        rotate_left
        · (intro w hSw; (try dsimp only at hSw); go_simp; (try with_reducible rfl))
        try simp only [Act.put, List.setIfInBounds_toArray, List.set_cons_zero, List.set_cons_succ]
        refine anyG_read (i := 2) (v := ?_) rfl (by kernel_rfl) (by kernel_rfl) (by kernel_rfl) (by kernel_rfl) (by kernel_rfl) hbig (fun _ _ _ h => h) (Or.inl ⟨by rfl, ?_⟩) HSK ?_
        rotate_left
        · (intro w hSw; (try dsimp only at hSw); go_simp; (try with_reducible rfl))
        try simp only [Act.put, List.setIfInBounds_toArray, List.set_cons_zero, List.set_cons_succ]
        refine anyG_read (i := 3) (v := ?_) rfl (by kernel_rfl) (by kernel_rfl) (by kernel_rfl) (by kernel_rfl) (by kernel_rfl) hbig (fun _ _ _ h => h) (Or.inl ⟨by rfl, ?_⟩) HSK ?_
        rotate_left
        · (intro w hSw; (try dsimp only at hSw); go_simp; (try with_reducible rfl))
        try simp only [Act.put, List.setIfInBounds_toArray, List.set_cons_zero, List.set_cons_succ]
        refine anyG_read (i := 4) (v := ?_) rfl (by kernel_rfl) (by kernel_rfl) (by kernel_rfl) (by kernel_rfl) (by kernel_rfl) hbig (fun _ _ _ h => h) (Or.inl ⟨by rfl, ?_⟩) HSK ?_
        rotate_left
        · (intro w hSw; (try dsimp only at hSw); go_simp; (try with_reducible rfl))
        try simp only [Act.put, List.setIfInBounds_toArray, List.set_cons_zero, List.set_cons_succ]
        refine anyG_read (i := 5) (v := ?_) rfl (by kernel_rfl) (by kernel_rfl) (by kernel_rfl) (by kernel_rfl) (by kernel_rfl) hbig (fun _ _ _ h => h) (Or.inl ⟨by rfl, ?_⟩) HSK ?_
        rotate_left
        · (intro w hSw; (try dsimp only at hSw); go_simp; (try with_reducible rfl))
        try simp only [Act.put, List.setIfInBounds_toArray, List.set_cons_zero, List.set_cons_succ]
        refine anyG_read (i := 6) (v := ?_) rfl (by kernel_rfl) (by kernel_rfl) (by kernel_rfl) (by kernel_rfl) (by kernel_rfl) hbig (fun _ _ _ h => h) (Or.inl ⟨by rfl, ?_⟩) HSK ?_
        rotate_left
        · (intro w hSw; (try dsimp only at hSw); go_simp; (try with_reducible rfl))
        try simp only [Act.put, List.setIfInBounds_toArray, List.set_cons_zero, List.set_cons_succ]
        refine anyG_read (i := 7) (v := ?_) rfl (by kernel_rfl) (by kernel_rfl) (by kernel_rfl) (by kernel_rfl) (by kernel_rfl) hbig (fun _ _ _ h => h) (Or.inl ⟨by rfl, ?_⟩) HSK ?_
        rotate_left
        · (intro w hSw; (try dsimp only at hSw); go_simp; (try with_reducible rfl))
        try simp only [Act.put, List.setIfInBounds_toArray, List.set_cons_zero, List.set_cons_succ]
        refine anyG_read (i := 8) (v := ?_) rfl (by kernel_rfl) (by kernel_rfl) (by kernel_rfl) (by kernel_rfl) (by kernel_rfl) hbig (fun _ _ _ h => h) (Or.inl ⟨by rfl, ?_⟩) HSK ?_
        rotate_left
        · (intro w hSw; (try dsimp only at hSw); go_simp; (try with_reducible rfl))
        try simp only [Act.put, List.setIfInBounds_toArray, List.set_cons_zero, List.set_cons_succ]
        refine anyG_one (i := 9) (by kernel_rfl) rfl (by rfl) (fun K hK => ?_)
        go_simp
        go_at_call 42
        refine (HSC.out W6.drew HBD.out).mono ?_
        rintro e w7 ⟨vs, rfl, hgs, hb⟩
        have HB7 := Lib.hid (HBD.out.trans hb)
        have HSK7 := HKP.out w7 HB7.out
        have HI7 := Lib.hid (hgs.reads (by have := HTM.out; have := HMB.out; omega))
        obtain ⟨ax, cx, rfl⟩ := hgs.shape
        clear hgs hb HSK
        refine hK _ _ (fun _ => HSK7) ?_
        try simp only [Act.put, List.setIfInBounds_toArray, List.set_cons_zero, List.set_cons_succ]
        refine anyG_one (i := 10) (by kernel_rfl) rfl (by rfl) (fun K hK => ?_)
        go_simp
        go_at_call 43
        refine (HAD.out w7 _ HB7.out HI7.out).mono ?_
        rintro e w8 ⟨vn, rfl, hgn, hb⟩
        have HB8 := Lib.hid (HB7.out.trans (hb.mono HB7.out.size))
        have HSK8 := HKP.out w8 HB8.out
        have HG8 := Lib.hid (hgn.mono (B' := W6.heap.size) HB7.out.size)
        obtain ⟨an, cn, rfl⟩ := hgn.shape
        clear hgn hb HSK7
        refine hK _ _ (fun _ => HSK8) ?_
        try simp only [Act.put, List.setIfInBounds_toArray, List.set_cons_zero, List.set_cons_succ]
        refine anyG_pure (i := 11) (v := ?_) rfl (by kernel_rfl) (by kernel_rfl) (by kernel_rfl) (by kernel_rfl) (by rfl) (fun _ _ _ h => h) (Or.inl ⟨by rfl, ?_⟩) ?_
        rotate_left
        · (intro w hSw; go_simp; (try with_reducible rfl))
        try simp only [Act.put, List.setIfInBounds_toArray, List.set_cons_zero, List.set_cons_succ]
        refine anyG_pure (i := 12) (v := ?_) rfl (by kernel_rfl) (by kernel_rfl) (by kernel_rfl) (by kernel_rfl) (by rfl) (fun _ _ _ h => h) (Or.inl ⟨by rfl, ?_⟩) ?_
        rotate_left
        · (intro w hSw; go_simp; (try with_reducible rfl))
        try simp only [Act.put, List.setIfInBounds_toArray, List.set_cons_zero, List.set_cons_succ]
        refine anyG_pure (i := 13) (v := ?_) rfl (by kernel_rfl) (by kernel_rfl) (by kernel_rfl) (by kernel_rfl) (by rfl) (fun _ _ _ h => h) (Or.inl ⟨by rfl, ?_⟩) ?_
        rotate_left
        · (intro w hSw; go_simp; (try with_reducible rfl))
        try simp only [Act.put, List.setIfInBounds_toArray, List.set_cons_zero, List.set_cons_succ]
        have HJ8 := Lib.hid (HJ6.out.below HB8.out)
        have HJ9 := Lib.hid (HJ8.out.next (h' := h0) (vj' := .slice an Jn.length cn) (J' := Jn) (HG8.out.mono (by have := HZ6.out; have := HGS.out; have := HGQ.out; omega)) (fun b hb e => by have := (gath_lt HG8.out b hb).1; have := HZ6.out; have := HGS.out; omega))
        obtain ⟨r0, r1⟩ := And.intro HJ8.out.jo.c0 HJ8.out.jo.c1
        obtain ⟨f0, f1⟩ := And.intro (HJ8.out.jo.fr 0) (HJ8.out.jo.fr 1)
        refine anyG_one (i := 14) (by kernel_rfl) rfl (by rfl) (fun K hK => ?_)
        go_simp
        refine hK _ _ (fun h => absurd h (by decide)) ?_
        try simp only [Act.put, List.setIfInBounds_toArray, List.set_cons_zero, List.set_cons_succ]
        refine anyG_done (by kernel_rfl) ?_
        refine NoPanic.normal ?_
        obtain ⟨vs, hvs⟩ : ∃ v, Value.slice an Jn.length cn = v := ⟨_, rfl⟩
        have h9 := HJ9.out
        rw [hvs] at h9 ⊢
        generalize ((w8.setCell ⟨q, 0, none⟩ (.int .i64 h0)).setCell ⟨q, 1, none⟩ vs) = W at *
        obtain ⟨vx, hvx⟩ : ∃ v, Value.slice ax T.length cx = v := ⟨_, rfl⟩
        rw [hvx]
        exact ⟨rfl, vs, vx, rfl, h9⟩
      rintro vn vx W7 HF
      have HFN : Hid (∃ vj, JoL w W7 g q p k n k2 n2 h0 vj (.slice (some ⟨bw, ow, none⟩) N cw) (joinL p xs L (J + 1)) wl) := ⟨vn, by rw [HJN2.out]; exact HF.out⟩
      clear HF HKP HBD HSC HAD HJ6
      go_wp2_with fail
      go_roundw
      case rel => exact ⟨J, by have := HJR.out; omega, by go_num, HFN⟩
      case measure => simp [intOf]; have := HJR.out; omega
    · obtain rfl : j = R := by omega
      have hRN : j + 1 = N := by omega
      rw [hRN] at hJl
      obtain ⟨_, _, _, _, _, _, r0, r1, _, _⟩ := hJ.cells
      have t0 := hJ.jw.rs.c0
      have t1 := hJ.jw.rs.c1
      have f0 := hJ.jw.rs.fr 0
      have f1 := hJ.jw.rs.fr 1
      have hr := (hJ.jw.rs.set0 h0).set (.slice aj m cj)
      have hbf : Below g w ((wr.setCell ⟨g + 1 + 1, 0, none⟩ (.int .i64 h0)).setCell ⟨g + 1 + 1, 1, none⟩ (.slice aj m cj)) := hJ.jw.pl.be.trans ((set1_below _ 0 _ (by omega)).trans (set1_below _ 1 _ (by omega)))
      have hgf : Gath ((wr.setCell ⟨g + 1 + 1, 0, none⟩ (.int .i64 h0)).setCell ⟨g + 1 + 1, 1, none⟩ (.slice aj m cj)) g (.slice aj m cj) (joinL p xs L N) := by
        rw [hJl]
        exact (gath_set_other (gath_set_other hJ.gj (Nat.lt_succ_self _) 0 _) (Nat.lt_succ_self _) 1 _).mono (by omega)
      have HR9 := Lib.hid hr
      have HBF := Lib.hid hbf
      have HGF := Lib.hid hgf
      clear hr hbf hgf hJ HJ hJl hJm hJe
      go_wp2_with fail
      clear r0 r1 t0 t1 f0 f1
      generalize (wr.setCell ⟨g + 1 + 1, 0, none⟩ (.int .i64 h0)).setCell ⟨g + 1 + 1, 1, none⟩ (.slice aj m cj) = W9 at *
      have r0 := HR9.out.c0
      have r1 := HR9.out.c1
      refine bodyPost_ret (v := .tuple #[.agg #[.int .i64 h0, .slice aj m cj], .int .i64 0]) (by simp [results, Tryd.results23, go_sem, r0, r1]) rfl ?_
      exact ⟨_, rfl, HGF.out, HBF.out⟩
theorem reshare_join (p k n p2 k2 n2 : Int) (vf vl : Value) (xs : List Int) (L : List Shr) (w : World) (hw : Wheel w) (hp : (Lit.int .i64 p).wf = true) (hp2 : (Lit.int .i64 p2).wf = true) (hf : Ints w vf xs) (hs : Shares w vl L) (hL : ∀ x ∈ L, x.2.length ≤ 1000000) :
    Calls Tryd.prog 23 #[planV p k n, planV p2 k2 n2, vf, vl] w fun e w' => ∃ v', e = .returned (.tuple #[shareV (joinR p k n p2 k2 n2 xs L).1 v', .int .i64 (joinE p k n p2 k2 n2 xs L)]) ∧ Gath w' w.heap.size v' (joinR p k n p2 k2 n2 xs L).2 ∧ Below w.heap.size w w' := by
  by_cases hE : joinE p k n p2 k2 n2 xs L = 0
  · have h0 := hE
    unfold joinE at h0
    by_cases hc : relB p k n p2 k2 n2 = true ∧ diffB n xs = true ∧ L.length = xs.length ∧ alikeB p2 n2 L = true
    · rw [if_pos hc] at h0
      by_cases hk : (xs.length : Int) < k
      · rw [if_pos hk] at h0; cases h0
      · have hR := (joinE_ok hc (by omega)).2
        obtain rfl := (relB_parts hc.1).1
        rw [hE, hR]
        exact reshare_join_ok p k n k2 n2 vf vl xs L w hw hp hf hs hL hc.1 hc.2.1 hc.2.2.1 hc.2.2.2 (by omega)
    · rw [if_neg hc] at h0; cases h0
  · exact reshare_join_err p k n p2 k2 n2 vf vl xs L w hw hp hp2 hf hs hL hE
end Go.Proofs.YtomnncainedjdaaDoor
