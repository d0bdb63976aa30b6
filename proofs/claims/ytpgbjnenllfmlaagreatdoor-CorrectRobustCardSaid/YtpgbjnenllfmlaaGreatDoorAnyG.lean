
/- A region that draws its order: operations in whatever order, with S shown behind some of them (as in ZPr4), and two of which either one may come first. No program. -/
import Derived.Test.YtpgbjnenllfmlaaGreatDoorNum
import Derived.Deep.RegionHeld3
import Derived.Deep.RegionLaw
namespace Go.Proofs.YtpgbjnenllfmlaaGreatDoor
section
variable {P : Program} {ops : Array Oper} {Q : Exit → Act → World → Prop} {md : Region.Mode} {S : World → Prop} {g : Nat → Bool}

/-- In whatever order; S is shown behind each operation of which g speaks. -/
def AnyG (P : Program) (md : Region.Mode) (ops : Array Oper) (Q : Exit → Act → World → Prop) (S : World → Prop) (g : Nat → Bool) : Nat → Array Bool → Act → World → Prop
  | 0, listed, a, w => Region.ready md ops listed = [] ∧ Q .normal a w
  | n + 1, listed, a, w => (Region.ready md ops listed = [] → Q .normal a w) ∧
    ∀ i ∈ Region.ready md ops listed, wpOp P ops Q i (fun a' w' => (g i = true → S w') ∧ AnyG P md ops Q S g n (listed.setIfInBounds i true) a' w') a w
theorem any_of_G : ∀ (n : Nat) (listed : Array Bool) (a : Act) (w : World), AnyG P md ops Q S g n listed a w → wpAny P md ops Q n listed a w
  | 0, _, _, _, h => h
  | n + 1, _, _, _, h => ⟨h.1, fun i hi => wpOp_mono (fun a' w' h' => any_of_G n _ a' w' h'.2) (h.2 i hi)⟩
/-- Whether operation j waits for operation i. -/
def waitB (md : Region.Mode) (ops : Array Oper) (j i : Nat) : Bool :=
  match ops[j]? with
  | some oj => oj.after.any fun e => Region.binds md e && e.on == i
  | none => false
theorem waitB_spec {j i : Nat} {oj : Oper} (ho : ops[j]? = some oj) (h : waitB md ops j i = true) : ∃ e ∈ oj.after, Region.binds md e = true ∧ e.on = i := by
  unfold waitB at h
  rw [ho] at h
  obtain ⟨e, he, hb⟩ := Array.any_eq_true'.1 h
  rw [Bool.and_eq_true, beq_iff_eq] at hb
  exact ⟨e, he, hb⟩
/-- Whether operation j waits for operation i, over at most n steps. -/
def waitN (md : Region.Mode) (ops : Array Oper) (i : Nat) : Nat → Nat → Bool
  | 0, j => waitB md ops j i
  | n + 1, j => waitB md ops j i || (match ops[j]? with
    | some oj => oj.after.any fun e => Region.binds md e && waitN md ops i n e.on
    | none => false)
/-- What has come up waited for nothing that has not. -/
def Shut (md : Region.Mode) (ops : Array Oper) (listed : Array Bool) : Prop := ∀ j oj, ops[j]? = some oj → listed.getD j false = true → ∀ e ∈ oj.after, Region.binds md e = true → listed.getD e.on false = true
theorem shut_wait {listed : Array Bool} (hs : Shut md ops listed) (i : Nat) : ∀ (n j : Nat), (∀ oj, ops[j]? = some oj → ∀ e ∈ oj.after, Region.binds md e = true → listed.getD e.on false = true) → waitN md ops i n j = true → listed.getD i false = true := by
  intro n
  induction n with
  | zero =>
    intro j hp h
    cases ho : ops[j]? with
    | none => simp [waitN, waitB, ho] at h
    | some oj =>
      obtain ⟨e, he, hb, hon⟩ := waitB_spec ho h
      rw [← hon]
      exact hp oj ho e he hb
  | succ n ih =>
    intro j hp h
    unfold waitN at h
    cases ho : ops[j]? with
    | none => simp [waitB, ho] at h
    | some oj =>
      rw [ho, Bool.or_eq_true] at h
      rcases h with h | h
      · obtain ⟨e, he, hb, hon⟩ := waitB_spec ho h
        rw [← hon]
        exact hp oj ho e he hb
      · obtain ⟨e, he, hb⟩ := Array.any_eq_true'.1 h
        rw [Bool.and_eq_true] at hb
        exact ih e.on (fun oe hoe => hs e.on oe hoe (hp oj ho e he hb.1)) hb.2
theorem shut_set {listed : Array Bool} {i : Nat} (hs : Shut md ops listed) (hr : i ∈ Region.ready md ops listed) : Shut md ops (listed.setIfInBounds i true) := by
  intro j oj ho hl e he hb
  refine getD_set_true ?_
  by_cases hij : i = j
  · subst hij
    obtain ⟨_, oi, hoi, hall⟩ := mem_ready.1 hr
    have : oi = oj := Option.some.inj (hoi.symm.trans ho)
    subst this
    exact hall e he hb
  · rw [getD_set_ne false hij] at hl
    exact hs j oj ho hl e he hb
/-- What comes up now, and yields its value in every world that meets T, may be taken first: T is kept by whatever does not wait for it. -/
theorem anyG_first {T : World → Prop} {i m : Nat} {oi : Oper} {v : Value} (hi : ops[i]? = some oi) (hsel : ∀ (j : Nat) (o : Oper) cs b, ops[j]? = some o → o.op ≠ .select cs b)
    (hQ : ∀ c a w, Q (.panic c) (a.put oi.dst v) w → Q (.panic c) a w) (hT : ∀ j, waitN md ops i m j = true ∨ ∀ w', (g j = true → S w') → T w') (hTS : ∀ w', T w' → g i = true → S w') :
    ∀ (n : Nat) (listed : Array Bool) (a : Act) (w : World), Shut md ops listed →
      (∀ j oj, ops[j]? = some oj → j ≠ i → listed.getD j true = false → (∀ e ∈ oj.after, Region.binds md e = true → e.on ≠ i) → oi.apart ops oj = true) →
      i ∈ Region.ready md ops listed → YieldsIf P ops T oi v a → T w →
      AnyG P md ops Q S g n (listed.setIfInBounds i true) (a.put oi.dst v) w → AnyG P md ops Q S g (n + 1) listed a w := by
  intro n
  induction n with
  | zero =>
    intro listed a w _ _ hr hy hw H
    refine ⟨fun h0 => absurd hr (by rw [h0]; simp), fun j hj => ?_⟩
    rcases Nat.decEq j i with hne | he
    · exact absurd (ready_mono hj hne) (by rw [H.1]; simp)
    · subst he
      exact hy.wpOp hi hw ⟨hTS w hw, H⟩
  | succ n ih =>
    intro listed a w hsh hfr hr hy hw H
    refine ⟨fun h0 => absurd hr (by rw [h0]; simp), fun j hj => ?_⟩
    rcases Nat.decEq j i with hne | he
    · obtain ⟨hun, oj, hoj, hall⟩ := mem_ready.1 hj
      have hun2 := (mem_ready.1 hr).1
      have hno : ¬ listed.getD i false = true := fun h1 => by
        by_cases hlt : i < listed.size
        · simp [hlt] at h1 hun2
          rw [h1] at hun2; cases hun2
        · simp [show listed.size ≤ i by omega] at h1
      have hTj : ∀ w', (g j = true → S w') → T w' := by
        rcases hT j with h | h
        · refine absurd (shut_wait hsh i m j (fun oj' ho' e he hb => ?_) h) hno
          have : oj = oj' := Option.some.inj (hoj.symm.trans ho')
          subst this
          exact hall e he hb
        · exact h
      have h2 := wpOp_putIf hoj (hfr j oj hoj hne hun fun e he hb hon => hno (by rw [← hon]; exact hall e he hb)) (fun cs b => hsel i oi cs b hi) (fun cs b => hsel j oj cs b hoj) hQ hy (H.2 j (ready_mono hj hne))
      refine wpOp_mono (fun a' w' ⟨k1, k2, k3⟩ => ⟨k2, ih _ a' w' (shut_set hsh hj) (fun x ox hx hxi hxu hxn => hfr x ox hx hxi ?_ hxn) (ready_mono hr (Ne.symm hne)) k1 (hTj w' k2) ?_⟩) h2
      · by_cases e : j = x
        · subst e; exact hun
        · rwa [getD_set_ne true e] at hxu
      · rw [Array.setIfInBounds_comm _ _ hne]
        exact k3
    · subst he
      exact hy.wpOp hi hw ⟨hTS w hw, H⟩
def shutB (md : Region.Mode) (ops : Array Oper) (listed : Array Bool) : Bool := (List.range ops.size).all fun j => !listed.getD j false || (match ops[j]? with
  | some oj => oj.after.all fun e => !Region.binds md e || listed.getD e.on false
  | none => true)
theorem shutB_spec {listed : Array Bool} (h : shutB md ops listed = true) : Shut md ops listed := by
  intro j oj ho hl e he hb
  have h1 := List.all_eq_true.1 h j (List.mem_range.2 (Array.getElem?_eq_some_iff.1 ho).1)
  rw [hl, ho] at h1
  simp only [Bool.not_true, Bool.false_or] at h1
  have h2 := Array.all_eq_true'.1 h1 e he
  rw [hb] at h2
  simpa using h2
/-- A read is taken first: what does not keep S waits for it. -/
theorem anyG_read {i : Nat} {oi : Oper} {v : Value} {n : Nat} {listed : Array Bool} {a : Act} {w : World} (hi : ops[i]? = some oi)
    (hs : Region.noSelect ops = true) (hf : Region.free md ops listed i = true) (hr : (Region.ready md ops listed).contains i = true) (hsh : shutB md ops listed = true)
    (hg : ((List.range ops.size).all fun j => g j || waitN md ops i 9 j) = true) (hbig : ∀ j, ops.size ≤ j → g j = true)
    (hQ : ∀ c a w, Q (.panic c) (a.put oi.dst v) w → Q (.panic c) a w) (hy : YieldsIf P ops S oi v a) (hw : S w)
    (h : AnyG P md ops Q S g n (listed.setIfInBounds i true) (a.put oi.dst v) w) : AnyG P md ops Q S g (n + 1) listed a w :=
  anyG_first hi (Region.noSelect_spec hs) hQ (m := 9) (fun j => by
    by_cases hj : j < ops.size
    · have := List.all_eq_true.1 hg j (List.mem_range.2 hj)
      rw [Bool.or_eq_true] at this
      rcases this with h | h
      · exact .inr fun w' k => k h
      · exact .inl h
    · exact .inr fun w' k => k (hbig j (by omega))) (fun w' k _ => k) n listed a w (shutB_spec hsh) (Region.free_spec hi hf) (by simpa using hr) hy hw h
/-- What looks at no memory is taken first. -/
theorem anyG_pure {i : Nat} {oi : Oper} {v : Value} {n : Nat} {listed : Array Bool} {a : Act} {w : World} (hi : ops[i]? = some oi)
    (hs : Region.noSelect ops = true) (hf : Region.free md ops listed i = true) (hr : (Region.ready md ops listed).contains i = true) (hsh : shutB md ops listed = true) (hgi : g i = false)
    (hQ : ∀ c a w, Q (.panic c) (a.put oi.dst v) w → Q (.panic c) a w) (hy : YieldsIf P ops (fun _ => True) oi v a)
    (h : AnyG P md ops Q S g n (listed.setIfInBounds i true) (a.put oi.dst v) w) : AnyG P md ops Q S g (n + 1) listed a w :=
  anyG_first hi (Region.noSelect_spec hs) hQ (m := 0) (fun j => .inr fun _ _ => trivial) (fun w' _ k => by rw [hgi] at k; cases k) n listed a w (shutB_spec hsh) (Region.free_spec hi hf) (by simpa using hr) hy trivial h
/-- One alone may come up. -/
theorem anyG_one {i : Nat} {o : Oper} {n : Nat} {listed : Array Bool} {a : Act} {w : World} (hr : Region.ready md ops listed = [i]) (ho : ops[i]? = some o) (hw : Region.wanted o (yielded ops a.tmps) = true)
    (h : ∀ K : Act → World → Prop, (∀ a' w', (g i = true → S w') → AnyG P md ops Q S g n (listed.setIfInBounds i true) a' w' → K a' w') → Oper.wp P o a w K Q) : AnyG P md ops Q S g (n + 1) listed a w := by
  refine ⟨(fun h0 => by rw [hr] at h0; cases h0), fun j hj => ?_⟩
  rw [hr, List.mem_singleton] at hj
  subst hj
  unfold wpOp
  rw [ho]
  simp only [hw, if_true]
  exact .inl (h _ fun a' w' k1 k2 => ⟨k1, k2⟩)
theorem anyG_done {n : Nat} {listed : Array Bool} {a : Act} {w : World} (hr : Region.ready md ops listed = []) (h : Q .normal a w) : AnyG P md ops Q S g n listed a w := by
  cases n with
  | zero => exact ⟨hr, h⟩
  | succ n => exact ⟨fun _ => h, (fun i hi => by rw [hr] at hi; cases hi)⟩
/-- The beginning. -/
theorem region_G {id : Nat} {a : Act} {w : World} (S : World → Prop) (g : Nat → Bool) (hm : P.follows .mixedOrders = true)
    (h : AnyG P .any ops Q S g ops.size (Array.replicate ops.size false) a w.drew) : (Code.region id ops true).wp P Q a w :=
  wp_region_any hm (any_of_G _ _ _ _ h)
end
/-- One of two comes up. -/
theorem anyG_two {P : Program} {ops : Array Oper} {Q : Exit → Act → World → Prop} {md : Region.Mode} {S : World → Prop} {g : Nat → Bool} {i k : Nat} {o o' : Oper} {n : Nat} {listed : Array Bool} {a : Act} {w : World} (hr : Region.ready md ops listed = [i, k]) (ho : ops[i]? = some o) (ho' : ops[k]? = some o')
    (hw : Region.wanted o (yielded ops a.tmps) = true) (hw' : Region.wanted o' (yielded ops a.tmps) = true)
    (h : ∀ K : Act → World → Prop, (∀ a' w', (g i = true → S w') → AnyG P md ops Q S g n (listed.setIfInBounds i true) a' w' → K a' w') → Oper.wp P o a w K Q)
    (h' : ∀ K : Act → World → Prop, (∀ a' w', (g k = true → S w') → AnyG P md ops Q S g n (listed.setIfInBounds k true) a' w' → K a' w') → Oper.wp P o' a w K Q) : AnyG P md ops Q S g (n + 1) listed a w := by
  refine ⟨(fun h0 => by rw [hr] at h0; cases h0), fun j hj => ?_⟩
  rw [hr, List.mem_cons, List.mem_singleton] at hj
  rcases hj with rfl | rfl
  · unfold wpOp
    rw [ho]
    simp only [hw, if_true]
    exact .inl (h _ fun a' w' k1 k2 => ⟨k1, k2⟩)
  · unfold wpOp
    rw [ho']
    simp only [hw', if_true]
    exact .inl (h' _ fun a' w' k1 k2 => ⟨k1, k2⟩)
end Go.Proofs.YtpgbjnenllfmlaaGreatDoor
