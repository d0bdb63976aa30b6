
/- The program's package correct: Robust, where there are enough good shares. -/
import Derived.Test.YtkcbbdkijlipfaaDoorQKey
import Derived.Test.YtkcbbdkijlipfaaDoorHPk
import Derived.Deep.DeepCutAuto
namespace Go.Proofs.YtkcbbdkijlipfaaDoor
open Go.RowKit Go.Sort
open Num
set_option linter.unusedVariables false

/-! ### Mathematics -/
theorem range_len : ∀ (N : Nat) (xs : List Int), xs.Nodup → (∀ x ∈ xs, 1 ≤ x ∧ x ≤ N) → xs.length ≤ N
  | 0, xs, _, h => by
    cases xs with
    | nil => exact Nat.le_refl _
    | cons x r => have := h x (by simp); omega
  | N + 1, xs, hn, h => by
    have h1 := range_len N (xs.erase ((N + 1 : Nat) : Int)) (hn.erase _) (fun x hx => by
      have h2 := (hn.mem_erase_iff).1 hx
      have h3 := h x h2.2
      have h4 := h2.1
      omega)
    rw [List.length_erase] at h1
    split at h1 <;> omega
theorem gd_le {p : Int} {N m : Nat} {L : List Shr} (h : Gd p N m L) : L.length ≤ N := by
  have := range_len N (L.map (·.1)) h.one (fun x hx => by
    obtain ⟨s, hs, rfl⟩ := List.mem_map.1 hx
    exact h.hold s hs)
  rwa [List.length_map] at this
/-- The places, and the values at place i. -/
def plX (L : List Shr) : List Int := L.map fun s : Shr => s.1
def plY (L : List Shr) (i : Nat) : List Int := L.map fun s : Shr => s.2.getD i 0
theorem plX_len (L : List Shr) : (plX L).length = L.length := by simp [plX]
theorem plY_len (L : List Shr) (i : Nat) : (plY L i).length = L.length := by simp [plY]
theorem plX_at {L : List Shr} {j : Nat} (hj : j < L.length) : (plX L).getD j 0 = (L.getD j (0, [])).1 := by simp [plX, List.getD, hj]
theorem plY_at {L : List Shr} {i j : Nat} (hj : j < L.length) : (plY L i).getD j 0 = (L.getD j (0, [])).2.getD i 0 := by simp [plY, List.getD, hj]
/-- What Robust gives for the first r places. -/
structure RobI (p : Int) (K t r m : Nat) (L : List Shr) (F : Nat → List Int) (S M : List Int) : Prop where
  one : ∀ i, i < r → OneB p K t (plX L) (plY L i) (F i)
  len : S.length = m
  val : ∀ i, i < r → S.getD i 0 = E (F i) 0 % p
  mem : ∀ h, h ∈ M ↔ ∃ i, i < r ∧ h ∈ mis p (F i) (plX L) (plY L i)
theorem robI_start (p : Int) (K t m : Nat) (L : List Shr) : RobI p K t 0 m L (fun _ => []) (List.replicate m 0) [] :=
  ⟨fun i hi => by omega, by simp, fun i hi => by omega, fun h => by simp⟩
theorem robI_step {p : Int} {K t r m : Nat} {L : List Shr} {F : Nat → List Int} {S M f : List Int} (h : RobI p K t r m L F S M) (hr : r < m) (hf : OneB p K t (plX L) (plY L r) f) :
    RobI p K t (r + 1) m L (fun i => if i = r then f else F i) (S.set r (E f 0 % p)) (M ++ mis p f (plX L) (plY L r)) := by
  refine ⟨fun i hi => ?_, by rw [List.length_set]; exact h.len, fun i hi => ?_, fun x => ?_⟩
  · by_cases e : i = r
    · subst e; rw [if_pos rfl]; exact hf
    · rw [if_neg e]; exact h.one i (by omega)
  · rw [getD_set S r i _ (by rw [h.len]; exact hr)]
    by_cases e : i = r
    · subst e; rw [if_pos rfl, if_pos rfl]
    · rw [if_neg e, if_neg e]; exact h.val i (by omega)
  · rw [List.mem_append, h.mem x]
    constructor
    · rintro (⟨i, hi, hx⟩ | hx)
      · exact ⟨i, by omega, by rw [if_neg (by omega)]; exact hx⟩
      · exact ⟨r, by omega, by rw [if_pos rfl]; exact hx⟩
    · rintro ⟨i, hi, hx⟩
      by_cases e : i = r
      · subst e; rw [if_pos rfl] at hx; exact .inr hx
      · rw [if_neg e] at hx; exact .inl ⟨i, by omega, hx⟩
/-- What Robust returns for good shares. -/
structure RobR (p : Int) (K m : Nat) (L : List Shr) (S W : List Int) (c : Int) : Prop where
  code : c = 0 ∨ c = 9
  ok : c = 0 → S.length = m ∧ W.Pairwise (· < ·) ∧ W.length ≤ (L.length - K) / 2 ∧ ∃ F : Nat → List Int, (∀ i, i < m → OneB p K ((L.length - K) / 2) (plX L) (plY L i) (F i)) ∧ (∀ i, i < m → S.getD i 0 = E (F i) 0 % p) ∧ ∀ h, h ∈ W ↔ ∃ i, i < m ∧ h ∈ mis p (F i) (plX L) (plY L i)
  no : c ≠ 0 → S = [] ∧ W = [] ∧ ((∃ i, i < m ∧ ∀ f, ¬ OneB p K ((L.length - K) / 2) (plX L) (plY L i) f) ∨ ∃ F : Nat → List Int, (∀ i, i < m → OneB p K ((L.length - K) / 2) (plX L) (plY L i) (F i)) ∧ ∀ V : List Int, V.Nodup → (∀ h, h ∈ V ↔ ∃ i, i < m ∧ h ∈ mis p (F i) (plX L) (plY L i)) → (L.length - K) / 2 < V.length)

/-! ### The keys, sorted -/
def notI : Lit → Bool
  | .int .i64 _ => false
  | _ => true
theorem seen_ints (l : List Int) : ∃ es, (seenOf l : DataW Unit) = .map es ∧ es.Pairwise (fun p q => p.1 ≠ q.1) ∧ es.any (fun p => notI p.1) = false := by
  induction h : l.length generalizing l with
  | zero => obtain rfl := List.length_eq_zero_iff.1 h; exact ⟨[], rfl, List.Pairwise.nil, rfl⟩
  | succ n ih =>
    rcases List.eq_nil_or_concat l with rfl | ⟨l', y, rfl⟩
    · simp at h
    · rw [List.concat_eq_append] at h ⊢
      obtain ⟨es, e1, _, e3⟩ := ih l' (by simpa using h)
      obtain ⟨es', e4, e5⟩ := seen_tidy (l' ++ [y])
      refine ⟨es', e4, e5, ?_⟩
      rw [seenOf_snoc, e1] at e4
      have e6 : es' = DataW.insert (.int .i64 y, .lit (.bool true)) (es.filter fun p => !p.1.sameKey (.int .i64 y)) := by
        have e7 : (DataW.map es : DataW Unit).put (.int .i64 y) (.lit (.bool true)) = .map (DataW.insert (.int .i64 y, .lit (.bool true)) (es.filter fun p => !p.1.sameKey (.int .i64 y))) := rfl
        rw [e7] at e4
        injection e4 with e4
        exact e4.symm
      rw [e6, Go.Maps.any_insert, Bool.or_eq_false_iff]
      refine ⟨rfl, List.any_eq_false.2 fun p hp => ?_⟩
      exact List.any_eq_false.1 e3 p (List.mem_filter.1 hp).1
theorem notI_out {k : Lit} (h : notI k = false) : ∃ x, k = .int .i64 x := by
  unfold notI at h
  split at h
  · exact ⟨_, rfl⟩
  · cases h
theorem seen_keys (l : List Int) : (intKeys (seenOf l : DataW Unit)).Nodup ∧ ∀ x, x ∈ intKeys (seenOf l : DataW Unit) ↔ x ∈ l := by
  obtain ⟨es, e1, e2, e3⟩ := seen_ints l
  have hk : ∀ p ∈ es, ∃ x, p.1 = .int .i64 x := fun p hp => notI_out (by have := List.any_eq_false.1 e3 p hp; simpa using this)
  have hi : intKeys (seenOf l : DataW Unit) = es.map fun p => Go.intOf p.1 := by rw [e1]; rfl
  rw [hi]
  constructor
  · rw [List.nodup_iff_pairwise_ne, List.pairwise_map]
    refine e2.imp_of_mem fun {p q} hp hq hne e => hne ?_
    obtain ⟨a, ha⟩ := hk p hp
    obtain ⟨b, hb⟩ := hk q hq
    rw [ha, hb] at e ⊢
    have : a = b := e
    rw [this]
  · intro x
    have h1 := seen_has l x
    rw [e1, Go.Maps.has_eq] at h1
    have h2 : (x ∈ es.map fun p => Go.intOf p.1) ↔ es.any (fun p => p.1.sameKey (.int .i64 x)) = true := by
      rw [List.mem_map, List.any_eq_true]
      constructor
      · rintro ⟨p, hp, rfl⟩
        obtain ⟨a, ha⟩ := hk p hp
        exact ⟨p, hp, by rw [ha]; simp [Lit.sameKey, Go.intOf]⟩
      · rintro ⟨p, hp, hs⟩
        obtain ⟨a, ha⟩ := hk p hp
        rw [ha] at hs
        exact ⟨p, hp, by rw [ha]; simpa [Lit.sameKey, Go.intOf] using hs⟩
    rw [h2, h1, List.contains_iff_mem]
theorem sorted_asc {l : List Int} (h : l.Nodup) : (l.mergeSort (fun x y => decide (x ≤ y))).Pairwise (· < ·) := by
  have h1 := List.pairwise_mergeSort (le := fun x y : Int => decide (x ≤ y)) (fun a b c => by simp; omega) (fun a b => by simp; omega) l
  have h2 : (l.mergeSort (fun x y => decide (x ≤ y))).Nodup := (List.mergeSort_perm l _).nodup_iff.2 h
  rw [List.nodup_iff_pairwise_ne] at h2
  exact (h1.and h2).imp fun ⟨a, b⟩ => by
    simp at a
    omega

/-! ### Memory -/
theorem Row.same {w w' : World} {g : Nat} {l : List Int} (h : Row w g l) (hb : w'.heap[g]? = w.heap[g]?) : Row w' g l := by
  exact World.rowIs.of_block h hb
structure RobW (w0 W : World) (g qx qy qs qm : Nat) (p k nn : Int) (X Y S M : List Int) : Prop where
  pl : PlanAt W g p k nn
  rx : Row W qx X
  ry : Row W qy Y
  rs : Row W qs S
  mp : W.ownsMap Tryd.prog 3 (plainElem (H := Unit) Tryd.prog 4) qm M.length (seenOf M)
  be : Below g w0 W
  gx : g < qx
  gy : g < qy
  xy : qx ≠ qy
  xs : qx < qs
  ys : qy < qs
  sm : qs < qm
  sz : qm < W.heap.size
theorem RobW.below {w0 W W' : World} {g qx qy qs qm : Nat} {p k nn : Int} {X Y S M : List Int} (h : RobW w0 W g qx qy qs qm p k nn X Y S M) (b : Below W.heap.size W W') : RobW w0 W' g qx qy qs qm p k nn X Y S M := by
  have h1 := h.gx
  have h2 := h.gy
  have h3 := h.xs
  have h4 := h.ys
  have h5 := h.sm
  have h6 := h.sz
  exact ⟨h.pl.below (by omega) b, h.rx.below b (by omega), h.ry.below b (by omega), h.rs.below b (by omega), h.mp.kept (grownBy_of_below b (Nat.le_refl _)) (fun e => by cases e), h.be.trans (b.mono (by omega)), h1, h2, h.xy, h3, h4, h5, Nat.lt_of_lt_of_le h6 b.size⟩
theorem RobW.setY {w0 W : World} {g qx qy qs qm : Nat} {p k nn : Int} {X Y S M : List Int} (h : RobW w0 W g qx qy qs qm p k nn X Y S M) {i : Nat} (hi : i < Y.length) (x : Int) : RobW w0 (W.setCell ⟨qy, i, none⟩ (.int .i64 x)) g qx qy qs qm p k nn X (Y.set i x) S M := by
  have h1 := h.gx
  have h2 := h.gy
  have h3 := h.xs
  have h4 := h.ys
  have h5 := h.sm
  have h6 := h.sz
  have h7 := h.xy
  have hb := But.set W ⟨qy, i, none⟩ (.int .i64 x)
  have hk : ∀ b, b ≠ qy → (W.setCell ⟨qy, i, none⟩ (.int .i64 x)).heap[b]? = W.heap[b]? := fun b hbq => Below.heap_setCell W ⟨qy, i, none⟩ (.int .i64 x) b hbq
  obtain ⟨t, fr, hp⟩ := h.pl
  exact ⟨⟨t, fr, by rw [hk g (by omega)]; exact hp⟩, h.rx.same (hk _ (by omega)), h.ry.set hi x, h.rs.same (hk _ (by omega)), h.mp.kept hb.grown (fun e => by simp at e; omega), h.be.trans (set1_below _ _ _ (by omega)), h1, h2, h7, h3, h4, h5, Nat.lt_of_lt_of_le h6 hb.size⟩
theorem RobW.setS {w0 W : World} {g qx qy qs qm : Nat} {p k nn : Int} {X Y S M : List Int} (h : RobW w0 W g qx qy qs qm p k nn X Y S M) {i : Nat} (hi : i < S.length) (x : Int) : RobW w0 (W.setCell ⟨qs, i, none⟩ (.int .i64 x)) g qx qy qs qm p k nn X Y (S.set i x) M := by
  have h1 := h.gx
  have h2 := h.gy
  have h3 := h.xs
  have h4 := h.ys
  have h5 := h.sm
  have h6 := h.sz
  have hb := But.set W ⟨qs, i, none⟩ (.int .i64 x)
  have hk : ∀ b, b ≠ qs → (W.setCell ⟨qs, i, none⟩ (.int .i64 x)).heap[b]? = W.heap[b]? := fun b hbq => Below.heap_setCell W ⟨qs, i, none⟩ (.int .i64 x) b hbq
  obtain ⟨t, fr, hp⟩ := h.pl
  exact ⟨⟨t, fr, by rw [hk g (by omega)]; exact hp⟩, h.rx.same (hk _ (by omega)), h.ry.same (hk _ (by omega)), h.rs.set hi x, h.mp.kept hb.grown (fun e => by simp at e; omega), h.be.trans (set1_below _ _ _ (by omega)), h1, h2, h.xy, h3, h4, h5, Nat.lt_of_lt_of_le h6 hb.size⟩
theorem RobW.put {w0 W W' : World} {g qx qy qs qm : Nat} {p k nn : Int} {X Y S M : List Int} (h : RobW w0 W g qx qy qs qm p k nn X Y S M) {x : Int} (hm : W'.ownsMap Tryd.prog 3 (plainElem (H := Unit) Tryd.prog 4) qm (M.length + 1) (seenOf (M ++ [x]))) (hg : W.grownBy W' (some qm)) : RobW w0 W' g qx qy qs qm p k nn X Y S (M ++ [x]) := by
  have h1 := h.gx
  have h2 := h.gy
  have h3 := h.xs
  have h4 := h.ys
  have h5 := h.sm
  have h6 := h.sz
  have hk : ∀ b, b < qm → W'.heap[b]? = W.heap[b]? := fun b hb => hg.block b (by omega) (fun e => by simp at e; omega)
  obtain ⟨t, fr, hp⟩ := h.pl
  exact ⟨⟨t, fr, by rw [hk g (by omega)]; exact hp⟩, h.rx.same (hk _ (by omega)), h.ry.same (hk _ (by omega)), h.rs.same (hk _ h5), by rw [List.length_append]; exact hm, h.be.grown hg (by omega) (fun q e => by cases e; omega), h1, h2, h.xy, h3, h4, h5, Nat.lt_of_lt_of_le h6 hg.size⟩
end Go.Proofs.YtkcbbdkijlipfaaDoor
