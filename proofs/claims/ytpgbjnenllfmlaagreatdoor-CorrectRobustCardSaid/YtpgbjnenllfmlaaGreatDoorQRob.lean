
/- The program's package correct: Robust, where there are enough good shares. -/
import Derived.Test.YtpgbjnenllfmlaaGreatDoorQKey
import Derived.Test.YtpgbjnenllfmlaaGreatDoorHPk
import Derived.Deep.DeepCutAuto
/-! The program's package correct: Robust, where there are enough good shares. -/
namespace Go.Proofs.YtpgbjnenllfmlaaGreatDoor
open Go.RowKit Go.Sort
open Num
set_option linter.unusedVariables false

/-! ### Mathematics -/
theorem range_len : ∀ (N : Nat) (xs : List Int), xs.Nodup → (∀ x ∈ xs, 1 ≤ x ∧ x ≤ N) → xs.length ≤ N
  | 0, xs, _, h => by
    cases xs with
    | nil => exact Nat.le_refl _
    | cons x r => have := h x (by simp); omega
  | N + 1, xs, hn, h => by
    have h1 := range_len N (xs.erase ((N + 1 : Nat) : Int)) (hn.erase _) (fun x hx => by
      have h2 := (hn.mem_erase_iff).1 hx
      have h3 := h x h2.2
      have h4 := h2.1
      omega)
    rw [List.length_erase] at h1
    split at h1 <;> omega
theorem gd_le {p : Int} {N m : Nat} {L : List Shr} (h : Gd p N m L) : L.length ≤ N := by
  have := range_len N (L.map (·.1)) h.one (fun x hx => by
    obtain ⟨s, hs, rfl⟩ := List.mem_map.1 hx
    exact h.hold s hs)
  rwa [List.length_map] at this
/-- The places, and the values at place i. -/
def plX (L : List Shr) : List Int := L.map fun s : Shr => s.1
def plY (L : List Shr) (i : Nat) : List Int := L.map fun s : Shr => s.2.getD i 0
theorem plX_len (L : List Shr) : (plX L).length = L.length := by simp [plX]
theorem plY_len (L : List Shr) (i : Nat) : (plY L i).length = L.length := by simp [plY]
theorem plX_at {L : List Shr} {j : Nat} (hj : j < L.length) : (plX L).getD j 0 = (L.getD j (0, [])).1 := by simp [plX, List.getD, hj]
theorem plY_at {L : List Shr} {i j : Nat} (hj : j < L.length) : (plY L i).getD j 0 = (L.getD j (0, [])).2.getD i 0 := by simp [plY, List.getD, hj]
/-- What Robust gives for the first r places. -/
structure RobI (p : Int) (K t r m : Nat) (L : List Shr) (F : Nat → List Int) (S M : List Int) : Prop where
  one : ∀ i, i < r → OneB p K t (plX L) (plY L i) (F i)
  len : S.length = m
  val : ∀ i, i < r → S.getD i 0 = E (F i) 0 % p
  mem : ∀ h, h ∈ M ↔ ∃ i, i < r ∧ h ∈ mis p (F i) (plX L) (plY L i)
theorem robI_start (p : Int) (K t m : Nat) (L : List Shr) : RobI p K t 0 m L (fun _ => []) (List.replicate m 0) [] :=
  ⟨fun i hi => by omega, by simp, fun i hi => by omega, fun h => by simp⟩
theorem robI_step {p : Int} {K t r m : Nat} {L : List Shr} {F : Nat → List Int} {S M f : List Int} (h : RobI p K t r m L F S M) (hr : r < m) (hf : OneB p K t (plX L) (plY L r) f) :
    RobI p K t (r + 1) m L (fun i => if i = r then f else F i) (S.set r (E f 0 % p)) (M ++ mis p f (plX L) (plY L r)) := by
  refine ⟨fun i hi => ?_, by rw [List.length_set]; exact h.len, fun i hi => ?_, fun x => ?_⟩
  · by_cases e : i = r
    · subst e; rw [if_pos rfl]; exact hf
    · rw [if_neg e]; exact h.one i (by omega)
  · rw [getD_set S r i _ (by rw [h.len]; exact hr)]
    by_cases e : i = r
    · subst e; rw [if_pos rfl, if_pos rfl]
    · rw [if_neg e, if_neg e]; exact h.val i (by omega)
  · rw [List.mem_append, h.mem x]
    constructor
    · rintro (⟨i, hi, hx⟩ | hx)
      · exact ⟨i, by omega, by rw [if_neg (by omega)]; exact hx⟩
      · exact ⟨r, by omega, by rw [if_pos rfl]; exact hx⟩
    · rintro ⟨i, hi, hx⟩
      by_cases e : i = r
      · subst e; rw [if_pos rfl] at hx; exact .inr hx
      · rw [if_neg e] at hx; exact .inl ⟨i, by omega, hx⟩
/-- What Robust returns for good shares. -/
structure RobR (p : Int) (K m : Nat) (L : List Shr) (S W : List Int) (c : Int) : Prop where
  code : c = 0 ∨ c = 9
  ok : c = 0 → S.length = m ∧ W.Pairwise (· < ·) ∧ W.length ≤ (L.length - K) / 2 ∧ ∃ F : Nat → List Int, (∀ i, i < m → OneB p K ((L.length - K) / 2) (plX L) (plY L i) (F i)) ∧ (∀ i, i < m → S.getD i 0 = E (F i) 0 % p) ∧ ∀ h, h ∈ W ↔ ∃ i, i < m ∧ h ∈ mis p (F i) (plX L) (plY L i)
  no : c ≠ 0 → S = [] ∧ W = [] ∧ ((∃ i, i < m ∧ ∀ f, ¬ OneB p K ((L.length - K) / 2) (plX L) (plY L i) f) ∨ ∃ F : Nat → List Int, (∀ i, i < m → OneB p K ((L.length - K) / 2) (plX L) (plY L i) (F i)) ∧ ∀ V : List Int, V.Nodup → (∀ h, h ∈ V ↔ ∃ i, i < m ∧ h ∈ mis p (F i) (plX L) (plY L i)) → (L.length - K) / 2 < V.length)

/-! ### The keys, sorted -/
def notI : Lit → Bool
  | .int .i64 _ => false
  | _ => true
theorem seen_ints (l : List Int) : ∃ es, (seenOf l : DataW Unit) = .map es ∧ es.Pairwise (fun p q => p.1 ≠ q.1) ∧ es.any (fun p => notI p.1) = false := by
  induction h : l.length generalizing l with
  | zero => obtain rfl := List.length_eq_zero_iff.1 h; exact ⟨[], rfl, List.Pairwise.nil, rfl⟩
  | succ n ih =>
    rcases List.eq_nil_or_concat l with rfl | ⟨l', y, rfl⟩
    · simp at h
    · rw [List.concat_eq_append] at h ⊢
      obtain ⟨es, e1, _, e3⟩ := ih l' (by simpa using h)
      obtain ⟨es', e4, e5⟩ := seen_tidy (l' ++ [y])
      refine ⟨es', e4, e5, ?_⟩
      rw [seenOf_snoc, e1] at e4
      have e6 : es' = DataW.insert (.int .i64 y, .lit (.bool true)) (es.filter fun p => !p.1.sameKey (.int .i64 y)) := by
        have e7 : (DataW.map es : DataW Unit).put (.int .i64 y) (.lit (.bool true)) = .map (DataW.insert (.int .i64 y, .lit (.bool true)) (es.filter fun p => !p.1.sameKey (.int .i64 y))) := rfl
        rw [e7] at e4
        injection e4 with e4
        exact e4.symm
      rw [e6, Go.Maps.any_insert, Bool.or_eq_false_iff]
      refine ⟨rfl, List.any_eq_false.2 fun p hp => ?_⟩
      exact List.any_eq_false.1 e3 p (List.mem_filter.1 hp).1
theorem notI_out {k : Lit} (h : notI k = false) : ∃ x, k = .int .i64 x := by
  unfold notI at h
  split at h
  · exact ⟨_, rfl⟩
  · cases h
theorem seen_keys (l : List Int) : (intKeys (seenOf l : DataW Unit)).Nodup ∧ ∀ x, x ∈ intKeys (seenOf l : DataW Unit) ↔ x ∈ l := by
  obtain ⟨es, e1, e2, e3⟩ := seen_ints l
  have hk : ∀ p ∈ es, ∃ x, p.1 = .int .i64 x := fun p hp => notI_out (by have := List.any_eq_false.1 e3 p hp; simpa using this)
  have hi : intKeys (seenOf l : DataW Unit) = es.map fun p => Go.intOf p.1 := by rw [e1]; rfl
  rw [hi]
  constructor
  · rw [List.nodup_iff_pairwise_ne, List.pairwise_map]
    refine e2.imp_of_mem fun {p q} hp hq hne e => hne ?_
    obtain ⟨a, ha⟩ := hk p hp
    obtain ⟨b, hb⟩ := hk q hq
    rw [ha, hb] at e ⊢
    have : a = b := e
    rw [this]
  · intro x
    have h1 := seen_has l x
    rw [e1, Go.Maps.has_eq] at h1
    have h2 : (x ∈ es.map fun p => Go.intOf p.1) ↔ es.any (fun p => p.1.sameKey (.int .i64 x)) = true := by
      rw [List.mem_map, List.any_eq_true]
      constructor
      · rintro ⟨p, hp, rfl⟩
        obtain ⟨a, ha⟩ := hk p hp
        exact ⟨p, hp, by rw [ha]; simp [Lit.sameKey, Go.intOf]⟩
      · rintro ⟨p, hp, hs⟩
        obtain ⟨a, ha⟩ := hk p hp
        rw [ha] at hs
        exact ⟨p, hp, by rw [ha]; simpa [Lit.sameKey, Go.intOf] using hs⟩
    rw [h2, h1, List.contains_iff_mem]
theorem sorted_asc {l : List Int} (h : l.Nodup) : (l.mergeSort (fun x y => decide (x ≤ y))).Pairwise (· < ·) := by
  have h1 := List.pairwise_mergeSort (le := fun x y : Int => decide (x ≤ y)) (fun a b c => by simp; omega) (fun a b => by simp; omega) l
  have h2 : (l.mergeSort (fun x y => decide (x ≤ y))).Nodup := (List.mergeSort_perm l _).nodup_iff.2 h
  rw [List.nodup_iff_pairwise_ne] at h2
  exact (h1.and h2).imp fun ⟨a, b⟩ => by
    simp at a
    omega

/-! ### Memory -/
theorem Row.same {w w' : World} {g : Nat} {l : List Int} (h : Row w g l) (hb : w'.heap[g]? = w.heap[g]?) : Row w' g l := by
  exact World.rowIs.of_block h hb
structure RobW (w0 W : World) (g qx qy qs qm : Nat) (p k nn : Int) (X Y S M : List Int) : Prop where
  pl : PlanAt W g p k nn
  rx : Row W qx X
  ry : Row W qy Y
  rs : Row W qs S
  mp : W.ownsMap Tryz.prog 3 (plainElem (H := Unit) Tryz.prog 4) qm M.length (seenOf M)
  be : Below g w0 W
  gx : g < qx
  gy : g < qy
  xy : qx ≠ qy
  xs : qx < qs
  ys : qy < qs
  sm : qs < qm
  sz : qm < W.heap.size
theorem RobW.below {w0 W W' : World} {g qx qy qs qm : Nat} {p k nn : Int} {X Y S M : List Int} (h : RobW w0 W g qx qy qs qm p k nn X Y S M) (b : Below W.heap.size W W') : RobW w0 W' g qx qy qs qm p k nn X Y S M := by
  have h1 := h.gx
  have h2 := h.gy
  have h3 := h.xs
  have h4 := h.ys
  have h5 := h.sm
  have h6 := h.sz
  exact ⟨h.pl.below (by omega) b, h.rx.below b (by omega), h.ry.below b (by omega), h.rs.below b (by omega), h.mp.kept (grownBy_of_below b (Nat.le_refl _)) (fun e => by cases e), h.be.trans (b.mono (by omega)), h1, h2, h.xy, h3, h4, h5, Nat.lt_of_lt_of_le h6 b.size⟩
theorem RobW.setY {w0 W : World} {g qx qy qs qm : Nat} {p k nn : Int} {X Y S M : List Int} (h : RobW w0 W g qx qy qs qm p k nn X Y S M) {i : Nat} (hi : i < Y.length) (x : Int) : RobW w0 (W.setCell ⟨qy, i, none⟩ (.int .i64 x)) g qx qy qs qm p k nn X (Y.set i x) S M := by
  have h1 := h.gx
  have h2 := h.gy
  have h3 := h.xs
  have h4 := h.ys
  have h5 := h.sm
  have h6 := h.sz
  have h7 := h.xy
  have hb := But.set W ⟨qy, i, none⟩ (.int .i64 x)
  have hk : ∀ b, b ≠ qy → (W.setCell ⟨qy, i, none⟩ (.int .i64 x)).heap[b]? = W.heap[b]? := fun b hbq => Below.heap_setCell W ⟨qy, i, none⟩ (.int .i64 x) b hbq
  obtain ⟨t, fr, hp⟩ := h.pl
  exact ⟨⟨t, fr, by rw [hk g (by omega)]; exact hp⟩, h.rx.same (hk _ (by omega)), h.ry.set hi x, h.rs.same (hk _ (by omega)), h.mp.kept hb.grown (fun e => by simp at e; omega), h.be.trans (set1_below _ _ _ (by omega)), h1, h2, h7, h3, h4, h5, Nat.lt_of_lt_of_le h6 hb.size⟩
theorem RobW.setS {w0 W : World} {g qx qy qs qm : Nat} {p k nn : Int} {X Y S M : List Int} (h : RobW w0 W g qx qy qs qm p k nn X Y S M) {i : Nat} (hi : i < S.length) (x : Int) : RobW w0 (W.setCell ⟨qs, i, none⟩ (.int .i64 x)) g qx qy qs qm p k nn X Y (S.set i x) M := by
  have h1 := h.gx
  have h2 := h.gy
  have h3 := h.xs
  have h4 := h.ys
  have h5 := h.sm
  have h6 := h.sz
  have hb := But.set W ⟨qs, i, none⟩ (.int .i64 x)
  have hk : ∀ b, b ≠ qs → (W.setCell ⟨qs, i, none⟩ (.int .i64 x)).heap[b]? = W.heap[b]? := fun b hbq => Below.heap_setCell W ⟨qs, i, none⟩ (.int .i64 x) b hbq
  obtain ⟨t, fr, hp⟩ := h.pl
  exact ⟨⟨t, fr, by rw [hk g (by omega)]; exact hp⟩, h.rx.same (hk _ (by omega)), h.ry.same (hk _ (by omega)), h.rs.set hi x, h.mp.kept hb.grown (fun e => by simp at e; omega), h.be.trans (set1_below _ _ _ (by omega)), h1, h2, h.xy, h3, h4, h5, Nat.lt_of_lt_of_le h6 hb.size⟩
theorem RobW.put {w0 W W' : World} {g qx qy qs qm : Nat} {p k nn : Int} {X Y S M : List Int} (h : RobW w0 W g qx qy qs qm p k nn X Y S M) {x : Int} (hm : W'.ownsMap Tryz.prog 3 (plainElem (H := Unit) Tryz.prog 4) qm (M.length + 1) (seenOf (M ++ [x]))) (hg : W.grownBy W' (some qm)) : RobW w0 W' g qx qy qs qm p k nn X Y S (M ++ [x]) := by
  have h1 := h.gx
  have h2 := h.gy
  have h3 := h.xs
  have h4 := h.ys
  have h5 := h.sm
  have h6 := h.sz
  have hk : ∀ b, b < qm → W'.heap[b]? = W.heap[b]? := fun b hb => hg.block b (by omega) (fun e => by simp at e; omega)
  obtain ⟨t, fr, hp⟩ := h.pl
  exact ⟨⟨t, fr, by rw [hk g (by omega)]; exact hp⟩, h.rx.same (hk _ (by omega)), h.ry.same (hk _ (by omega)), h.rs.same (hk _ h5), by rw [List.length_append]; exact hm, h.be.grown hg (by omega) (fun q e => by cases e; omega), h1, h2, h.xy, h3, h4, h5, Nat.lt_of_lt_of_le h6 hg.size⟩
end Go.Proofs.YtpgbjnenllfmlaaGreatDoor
/-! The program's package correct: the walk through Robust. -/
namespace Go.Proofs.YtpgbjnenllfmlaaGreatDoor
open Go.RowKit Go.Sort
open Go.Maps (keyOf_int_mk)
open Num
set_option linter.unusedVariables false

/-- Two rows of zeros, made one after the other, with a call ahead, between or behind. -/
structure TwoR (w W : World) (g qa qb n : Nat) (p k nn : Int) : Prop where
  ra : Row W qa (List.replicate n 0)
  rb : Row W qb (List.replicate n 0)
  pl : PlanAt W g p k nn
  be : Below g w W
  ls : g < qa ∧ g < qb ∧ qa ≠ qb ∧ qa < W.heap.size ∧ qb < W.heap.size
abbrev zrow (n : Nat) : Obj := .cells (madeCells #[.int .i64 0] n) 3
theorem TwoR.swap {w W : World} {g qa qb n : Nat} {p k nn : Int} (h : TwoR w W g qa qb n p k nn) : TwoR w W g qb qa n p k nn :=
  ⟨h.rb, h.ra, h.pl, h.be, h.ls.2.1, h.ls.1, Ne.symm h.ls.2.2.1, h.ls.2.2.2.2, h.ls.2.2.2.1⟩
theorem twoR_new {w W : World} {g n : Nat} {p k nn : Int} (hP : PlanAt W g p k nn) (hB : Below g w W) : TwoR w ((W.alloc (zrow n)).alloc (zrow n)) g W.heap.size (W.heap.size + 1) n p k nn := by
  have hlt := hP.lt
  have a1 : Below W.heap.size W (W.alloc (zrow n)) := (Below.refl _ _).alloc (Nat.le_refl _) _
  have a2 : Below (W.alloc (zrow n)).heap.size (W.alloc (zrow n)) ((W.alloc (zrow n)).alloc (zrow n)) := (Below.refl _ _).alloc (Nat.le_refl _) _
  have hs : (W.alloc (zrow n)).heap.size = W.heap.size + 1 := by simp
  have r2 := Row.made (W.alloc (zrow n)) n
  rw [hs] at r2
  exact ⟨(Row.made W n).alloc _, r2, (hP.below hlt a1).below (by rw [hs]; omega) a2, hB.trans ((a1.mono (by omega)).trans (a2.mono (by rw [hs]; omega))), by omega, by omega, by omega, by simp; omega, by simp⟩
theorem TwoR.below {w W W' : World} {g qa qb n : Nat} {p k nn : Int} (h : TwoR w W g qa qb n p k nn) (b : Below W.heap.size W W') : TwoR w W' g qa qb n p k nn := by
  obtain ⟨l1, l2, l3, l4, l5⟩ := h.ls
  have hs := b.size
  exact ⟨h.ra.below b l4, h.rb.below b l5, h.pl.below (by omega) b, h.be.trans (b.mono (by omega)), l1, l2, l3, by omega, by omega⟩
theorem twoR_mid {w W W' : World} {g n : Nat} {p k nn : Int} (hP : PlanAt W g p k nn) (hB : Below g w W) (b : Below (W.alloc (zrow n)).heap.size (W.alloc (zrow n)) W') : TwoR w (W'.alloc (zrow n)) g W.heap.size W'.heap.size n p k nn := by
  have hlt := hP.lt
  have a1 : Below W.heap.size W (W.alloc (zrow n)) := (Below.refl _ _).alloc (Nat.le_refl _) _
  have hs : (W.alloc (zrow n)).heap.size = W.heap.size + 1 := by simp
  have a2 : Below W'.heap.size W' (W'.alloc (zrow n)) := (Below.refl _ _).alloc (Nat.le_refl _) _
  have hs2 := b.size
  rw [hs] at hs2
  exact ⟨((Row.made W n).below b (by rw [hs]; omega)).below a2 (by omega), Row.made W' n, ((hP.below hlt a1).below (by rw [hs]; omega) b).below (by omega) a2, hB.trans ((a1.mono (by omega)).trans ((b.mono (by rw [hs]; omega)).trans (a2.mono (by omega)))), by omega, by omega, by omega, by simp; omega, by simp⟩
/-- Two rows, of the places and of the values. -/
structure TwoL (w W : World) (g qa qb : Nat) (p k nn : Int) (la lb : List Int) : Prop where
  ra : Row W qa la
  rb : Row W qb lb
  pl : PlanAt W g p k nn
  be : Below g w W
  ls : g < qa ∧ g < qb ∧ qa ≠ qb ∧ qa < W.heap.size ∧ qb < W.heap.size
theorem TwoL.below {w W W' : World} {g qa qb : Nat} {p k nn : Int} {la lb : List Int} (h : TwoL w W g qa qb p k nn la lb) (b : Below W.heap.size W W') : TwoL w W' g qa qb p k nn la lb := by
  obtain ⟨l1, l2, l3, l4, l5⟩ := h.ls
  have hs := b.size
  exact ⟨h.ra.below b l4, h.rb.below b l5, h.pl.below (by omega) b, h.be.trans (b.mono (by omega)), l1, l2, l3, by omega, by omega⟩
theorem TwoL.setA {w W : World} {g qa qb : Nat} {p k nn : Int} {la lb : List Int} (h : TwoL w W g qa qb p k nn la lb) {i : Nat} (hi : i < la.length) (x : Int) : TwoL w (W.setCell ⟨qa, i, none⟩ (.int .i64 x)) g qa qb p k nn (la.set i x) lb := by
  obtain ⟨l1, l2, l3, l4, l5⟩ := h.ls
  have hb := But.set W ⟨qa, i, none⟩ (.int .i64 x)
  have hk : ∀ b, b ≠ qa → (W.setCell ⟨qa, i, none⟩ (.int .i64 x)).heap[b]? = W.heap[b]? := fun b hbq => Below.heap_setCell W ⟨qa, i, none⟩ (.int .i64 x) b hbq
  obtain ⟨t, fr, hp⟩ := h.pl
  have hsz := hb.size
  exact ⟨h.ra.set hi x, h.rb.same (hk _ (Ne.symm l3)), ⟨t, fr, by rw [hk g (by omega)]; exact hp⟩, h.be.trans (set1_below _ _ _ (by omega)), l1, l2, l3, by omega, by omega⟩
theorem TwoL.start {w W : World} {g qa qb m : Nat} {p k nn : Int} {la lb : List Int} (h : TwoL w W g qa qb p k nn la lb) : RobW w ((W.alloc (zrow m)).alloc (.map #[] 0)) g qa qb W.heap.size (W.heap.size + 1) p k nn la lb (List.replicate m 0) [] := by
  obtain ⟨l1, l2, l3, l4, l5⟩ := h.ls
  have a1 : Below W.heap.size W (W.alloc (zrow m)) := (Below.refl _ _).alloc (Nat.le_refl _) _
  have a2 : Below (W.alloc (zrow m)).heap.size (W.alloc (zrow m)) ((W.alloc (zrow m)).alloc (.map #[] 0)) := (Below.refl _ _).alloc (Nat.le_refl _) _
  have hs : (W.alloc (zrow m)).heap.size = W.heap.size + 1 := by simp
  have h2 := (h.below a1).below a2
  have hm := World.ownsMap_made (H := Unit) (W.alloc (zrow m)) Tryz.prog 3 (plainElem Tryz.prog 4)
  rw [hs] at hm
  exact ⟨h2.pl, h2.ra, h2.rb, (Row.made W m).below a2 (by rw [hs]; omega), hm, h2.be, l1, l2, l3, l4, l5, by omega, by simp⟩
theorem cells_two (w : World) (x y : Value) (t : TypeId) (k : Nat) (hk : w.heap.size = k) : (w.alloc (.cells #[x, y] t)).cell? ⟨k, 0, none⟩ = some x ∧ (w.alloc (.cells #[x, y] t)).cell? ⟨k, 1, none⟩ = some y := by
  subst hk
  exact ⟨by rw [cell_new]; rfl, by rw [cell_new]; rfl⟩
theorem row_ints {w : World} {g n : Nat} {l : List Int} (h : Row w g l) (hl : l.length = n) (hn : n ≤ 1000) : Ints w (.slice (some ⟨g, 0, none⟩) n n) l := by
  have h2 := h.reads (cap := n) (by omega)
  rw [hl] at h2
  exact h2
theorem seen_size_keys (l : List Int) : Go.Maps.size (seenOf l : DataW Unit) = (intKeys (seenOf l : DataW Unit)).length := by
  obtain ⟨es, e1, _, _⟩ := seen_ints l
  rw [e1]
  show es.length = (es.map fun p => Go.intOf p.1).length
  rw [List.length_map]
theorem seen_size_any {l V : List Int} (hn : V.Nodup) (hm : ∀ h, h ∈ V ↔ h ∈ l) : V.length = Go.Maps.size (seenOf l : DataW Unit) := by
  rw [seen_size_keys]
  refine ((List.perm_ext_iff_of_nodup hn (seen_keys l).1).2 fun x => ?_).length_eq
  rw [hm x, (seen_keys l).2 x]
theorem mis_sub {p : Int} {f xs ys : List Int} (hl : xs.length = ys.length) {x : Int} (h : x ∈ mis p f xs ys) : x ∈ xs := by
  unfold mis at h
  obtain ⟨z, hz, rfl⟩ := List.mem_map.1 h
  exact (List.of_mem_zip (a := z.1) (b := z.2) (by simpa using (List.mem_filter.1 hz).1)).1
set_option maxRecDepth 100000 in
set_option maxHeartbeats 16000000 in
theorem robust_ok (p : Int) (K N : Nat) (s : Value) (L : List Shr) (w : World) (hw : Wheel w) (hp : (Lit.int .i64 p).wf = true) (hpl : planB p (K : Int) (N : Int) = true) (hgb : goodB p (N : Int) L = true) (hlk : K ≤ L.length) (hs : Shares w s L) :
    Calls Tryz.prog 16 #[planV p (K : Int) (N : Int), s] w fun e w' => ∃ v1 v2 S W c, e = .returned (.tuple #[v1, v2, .int .i64 c]) ∧ RobR p K (L.getD 0 (0, [])).2.length L S W c ∧ Ints w' v1 S ∧ Ints w' v2 W ∧ Below w.heap.size w w' := by
  unfold planV
  obtain ⟨hprm, hp2, hk1, hkn, hn16, hnp⟩ := planB_parts hpl
  have hp0 := hprm.1
  have hp1 : 1 ≤ p := by omega
  have hce : combE p (K : Int) (N : Int) L = 0 := (combE_ok hpl hgb rfl hlk).1
  have hgd : Gd p N (L.getD 0 (0, [])).2.length L := goodB_gd rfl hgb rfl
  have hlN := gd_le hgd
  have hm2 := goodB_big hgb (by omega)
  obtain ⟨a1, d1, rfl, hl, hld1, hd1, _⟩ := id hs
  obtain ⟨n, hN⟩ : ∃ n, L.length = n := ⟨_, rfl⟩
  obtain ⟨m, hM⟩ : ∃ m, (L.getD 0 (0, [])).2.length = m := ⟨_, rfl⟩
  rw [hM] at hgd hm2 ⊢
  rw [hN] at hs hl hld1 hlk hlN ⊢
  obtain ⟨g, hgw⟩ : ∃ g, w.heap.size = g := ⟨_, rfl⟩
  obtain ⟨w1, hw1⟩ : ∃ w1, w.alloc (Obj.cells #[Value.int IntKind.i64 p, Value.int IntKind.i64 (K : Int), Value.int IntKind.i64 (N : Int)] 31) = w1 := ⟨_, rfl⟩
  have hb1 : Below g w w1 := by rw [← hw1, ← hgw]; exact (Below.refl _ _).alloc (Nat.le_refl _) _
  have hp1' : PlanAt w1 g p (K : Int) (N : Int) := by rw [← hw1, ← hgw]; exact planAt_new _ _ _ _ _
  have hs1 : w1.heap.size = g + 1 := by rw [← hw1, ← hgw]; simp
  have HCO := Lib.hid (share_combine p (K : Int) (N : Int) (.slice a1 n d1) L w1 (hw.below (by rw [← hgw]; exact hw.size) hb1) hp (hs.below (Nat.le_of_eq hgw) hb1))
  unfold planV at HCO
  rw [hce, hs1] at HCO
  have HB1 := Lib.hid hb1
  have HP1 := Lib.hid hp1'
  have HS := Lib.hid hs
  have HGD := Lib.hid hgd
  have HNN := Lib.hid hN
  have HMM := Lib.hid hM
  have HGW := Lib.hid hgw
  have HPR := Lib.hid hprm
  have HNP := Lib.hid hnp
  have d0' := hp1'.c0
  have d1' := hp1'.c1
  have d2' := hp1'.c2
  have hn16' : n ≤ 16 := by omega
  have hK1 : 1 ≤ K := by omega
  rw [hgw]
  clear hs hb1 hp1' hs1 hgd hN hM hprm hpl hgb hce hw hp hnp
  go_enter Tryz.func16, Tryz.ntmps16
  go_wp2_with fail
  refine HCO.out.mono ?_
  rintro e w2 ⟨v2, rfl, _, hb2⟩
  have HB2 : Hid (Below g w w2) := HB1.out.trans (hb2.mono (Nat.le_succ g))
  have HP2 := Lib.hid (HP1.out.below (Nat.lt_succ_self g) hb2)
  have c0 := HP2.out.c0
  have c1 := HP2.out.c1
  have c2 := HP2.out.c2
  clear hb2 HCO d0' d1' d2' HP1 HB1 hw1
  have hmk := run_make_row' (P := Tryz.prog) 22 3 (.int .i64 0) 8 Tryz.underlying22 infoInt rfl .i64 .i64 n (by omega) (by omega)
  obtain ⟨t, ht⟩ : ∃ t, (n - K) / 2 = t := ⟨_, rfl⟩
  have htn : roomV (K : Int) (n : Int) = (t : Int) := by unfold roomV; rw [if_neg (by omega)]; omega
  have htk : K + 2 * t ≤ n := by omega
  go_upto_region 4 with fail
  go_cut [9, 10, 11] (fun r vx vy W => ∃ qx qy, r = .int .i64 (t : Int) ∧ vx = .slice (some ⟨qx, 0, none⟩) n n ∧ vy = .slice (some ⟨qy, 0, none⟩) n n ∧ Hid (Row W qx (List.replicate n 0)) ∧ Hid (Row W qy (List.replicate n 0)) ∧ Hid (PlanAt W g p (K : Int) (N : Int)) ∧ Hid (Below g w W) ∧ Hid (g < qx ∧ g < qy ∧ qx ≠ qy ∧ qx < W.heap.size ∧ qy < W.heap.size))
  case first =>
    have HRO : Hid (∀ W, Calls Tryz.prog 24 #[.agg #[.int .i64 p, .int .i64 (K : Int), .int .i64 (N : Int)], .int .i64 (n : Int)] W fun e w' => e = .returned (.int .i64 (t : Int)) ∧ Below W.heap.size W w') := fun W => by
      have h := room_any p (K : Int) (N : Int) (n : Int) W (by omega) (WalkArith.wf_i64 (by omega)) (WalkArith.wf_i64 (by omega))
      rw [htn] at h
      exact h
    have HK1 : Hid (∀ W, Below w2.drew.heap.size w2.drew W → Below w2.heap.size w2 W) := fun W hW => ((Below.refl _ w2).drew).trans hW
    have HK2 : Hid (∀ W, Below (w2.alloc (zrow n)).drew.heap.size (w2.alloc (zrow n)).drew W → Below (w2.alloc (zrow n)).heap.size (w2.alloc (zrow n)) W) := fun W hW => ((Below.refl _ _).drew).trans hW
    have HK3 : Hid (∀ W, Below ((w2.alloc (zrow n)).alloc (zrow n)).drew.heap.size ((w2.alloc (zrow n)).alloc (zrow n)).drew W → Below ((w2.alloc (zrow n)).alloc (zrow n)).heap.size ((w2.alloc (zrow n)).alloc (zrow n)) W) := fun W hW => ((Below.refl _ _).drew).trans hW
    have hal : ∀ (W : World) (o : Obj), Below W.heap.size W (W.alloc o) := fun W o => (Below.refl _ _).alloc (Nat.le_refl _) o
    have HKC : Hid (∀ W, Below w2.heap.size w2 W → W.cell? ⟨g, 0, none⟩ = some (.int .i64 p) ∧ W.cell? ⟨g, 1, none⟩ = some (.int .i64 (K : Int)) ∧ W.cell? ⟨g, 2, none⟩ = some (.int .i64 (N : Int))) := fun W hW => by
      have h := HP2.out.below HP2.out.lt hW
      exact ⟨h.c0, h.c1, h.c2⟩
    have HC1 : Hid (∀ W, Below w2.drew.heap.size w2.drew W → W.cell? ⟨g, 0, none⟩ = some (.int .i64 p) ∧ W.cell? ⟨g, 1, none⟩ = some (.int .i64 (K : Int)) ∧ W.cell? ⟨g, 2, none⟩ = some (.int .i64 (N : Int))) := fun W hW => HKC.out W (HK1.out W hW)
    have HC2 : Hid (∀ W, Below (w2.alloc (zrow n)).drew.heap.size (w2.alloc (zrow n)).drew W → W.cell? ⟨g, 0, none⟩ = some (.int .i64 p) ∧ W.cell? ⟨g, 1, none⟩ = some (.int .i64 (K : Int)) ∧ W.cell? ⟨g, 2, none⟩ = some (.int .i64 (N : Int))) := fun W hW => HKC.out W ((hal w2 _).trans ((HK2.out W hW).mono (by simp)))
    have HC3 : Hid (∀ W, Below ((w2.alloc (zrow n)).alloc (zrow n)).drew.heap.size ((w2.alloc (zrow n)).alloc (zrow n)).drew W → W.cell? ⟨g, 0, none⟩ = some (.int .i64 p) ∧ W.cell? ⟨g, 1, none⟩ = some (.int .i64 (K : Int)) ∧ W.cell? ⟨g, 2, none⟩ = some (.int .i64 (N : Int))) := fun W hW => HKC.out W ((hal w2 _).trans (((hal _ _).mono (by simp)).trans ((HK3.out W hW).mono (by simp; omega))))
    clear hal
    go_region_held3 (fun W' => W'.cell? ⟨g, 0, none⟩ = some (.int .i64 p) ∧ W'.cell? ⟨g, 1, none⟩ = some (.int .i64 (K : Int)) ∧ W'.cell? ⟨g, 2, none⟩ = some (.int .i64 (N : Int))) (first | go_keep | exact HSK)
      ((go_at_call 24; refine (HRO.out _).mono ?_; rintro e w5 ⟨rfl, hb5⟩; have HSK : w5.cell? ⟨g, 0, none⟩ = some (.int .i64 p) ∧ w5.cell? ⟨g, 1, none⟩ = some (.int .i64 (K : Int)) ∧ w5.cell? ⟨g, 2, none⟩ = some (.int .i64 (N : Int)) := (by first | exact HC1.out w5 hb5 | exact HC2.out w5 hb5 | exact HC3.out w5 hb5); have HB5 := Lib.hid hb5; clear hb5))
    all_goals (go_wp2_with fail)
    all_goals go_meet
    all_goals clear HSK c0 c1 c2 HKC HC1 HC2 HC3
    all_goals
      first
        | (have h : TwoR w _ g _ _ n p (K : Int) (N : Int) := twoR_new (HP2.out.below HP2.out.lt (HK1.out w5 HB5.out)) (HB2.out.trans ((HK1.out w5 HB5.out).mono (Nat.le_of_lt HP2.out.lt)))
           first
             | exact ⟨_, _, rfl, rfl, rfl, h.ra, h.rb, h.pl, h.be, h.ls⟩
             | exact ⟨_, _, rfl, rfl, rfl, h.swap.ra, h.swap.rb, h.swap.pl, h.swap.be, h.swap.ls⟩)
        | (have h : TwoR w _ g _ _ n p (K : Int) (N : Int) := twoR_mid HP2.out HB2.out (HK2.out w5 HB5.out)
           first
             | exact ⟨_, _, rfl, rfl, rfl, h.ra, h.rb, h.pl, h.be, h.ls⟩
             | exact ⟨_, _, rfl, rfl, rfl, h.swap.ra, h.swap.rb, h.swap.pl, h.swap.be, h.swap.ls⟩)
        | (have h : TwoR w _ g _ _ n p (K : Int) (N : Int) := (twoR_new HP2.out HB2.out).below (HK3.out w5 HB5.out)
           first
             | exact ⟨_, _, rfl, rfl, rfl, h.ra, h.rb, h.pl, h.be, h.ls⟩
             | exact ⟨_, _, rfl, rfl, rfl, h.swap.ra, h.swap.rb, h.swap.pl, h.swap.be, h.swap.ls⟩)
  case rest =>
    obtain ⟨qx, qy, rfl, rfl, rfl, HX0, HY0, HPC, HBC, HLS⟩ := hcut
    have HT0 : Hid (TwoL w wc g qx qy p (K : Int) (N : Int) (List.replicate n 0) (List.replicate n 0)) := ⟨HX0.out, HY0.out, HPC.out, HBC.out, HLS.out⟩
    have HA0 : Hid (∀ i, i < 0 → (List.replicate n (0 : Int)).getD i 0 = (plX L).getD i 0) := fun i hi => by omega
    have HL0 : Hid ((List.replicate n (0 : Int)).length = n) := by show _ = _; simp
    clear HX0 HY0 HPC HBC HLS c0 c1 c2 hmk HP2 HB2
    go_wp2_with fail
    go_loopw [12, 13, 44] (fun _ _ i wr => ∃ (j : Nat) (l : List Int), j ≤ n ∧ i = .int .i64 j ∧ Hid (TwoL w wr g qx qy p (K : Int) (N : Int) l (List.replicate n 0)) ∧ Hid (l.length = n) ∧ Hid (∀ i, i < j → l.getD i 0 = (plX L).getD i 0)) (fun _ _ i _ => n - (intOf i).toNat)
    case atStart => exact ⟨0, _, Nat.zero_le _, rfl, HT0, HL0, HA0⟩
    case round =>
      obtain ⟨j, l, hj, rfl, HT, HL, HA⟩ := hrel
      by_cases hlt : j < n
      · obtain ⟨b1, o1, v1, rfl, k0, k1, hi1⟩ := (HS.out.below (Nat.le_of_eq HGW.out) HT.out.be).at hlt
        have hpx : (plX L).getD j 0 = (L.getD j (0, [])).1 := plX_at (by rw [HNN.out]; exact hlt)
        obtain ⟨⟨h, lv⟩, hsh⟩ : ∃ z, L.getD j (0, []) = z := ⟨_, rfl⟩
        rw [hsh] at k0 hi1 hpx
        simp only at k0 hi1 hpx
        obtain ⟨va1, vc1, rfl⟩ := hi1.shape
        obtain ⟨m1, hm1⟩ : ∃ m, lv.length = m := ⟨_, rfl⟩
        rw [hm1] at k1
        obtain ⟨gs, hgs⟩ : ∃ gs, wr.heap.size = gs := ⟨_, rfl⟩
        have hal : Below wr.heap.size wr (wr.alloc (.cells #[.int .i64 h, .slice va1 m1 vc1] 42)) := (Below.refl _ _).alloc (Nat.le_refl _) _
        have HT1 := Lib.hid (HT.out.below hal)
        have hcn := cells_two wr (.int .i64 h) (.slice va1 m1 vc1) 42 gs hgs
        have t0 := hcn.1
        have t1 := hcn.2
        have hjl : j < l.length := by rw [HL.out]; exact hlt
        have hcl := HT1.out.ra.cell hjl
        have hfr := HT1.out.ra.frozen j
        obtain ⟨y, hy⟩ : ∃ y, l.getD j 0 = y := ⟨_, rfl⟩
        rw [hy] at hcl
        have HTN := Lib.hid (HT1.out.setA hjl h)
        have HLN : Hid ((l.set j h).length = n) := by show _ = _; rw [List.length_set]; exact HL.out
        have HAN : Hid (∀ i, i < j + 1 → (l.set j h).getD i 0 = (plX L).getD i 0) := fun i hi => by
          rw [getD_set l j i h hjl]
          by_cases e : i = j
          · subst e; rw [if_pos rfl, hpx]
          · rw [if_neg e]; exact HA.out i (by omega)
        clear hi1 hpx hsh hm1 hal hcn hjl hy HT HA HL HT1
        go_wp2_with fail
        go_roundw
        case rel => exact ⟨j + 1, _, by omega, by go_num, HTN, HLN, HAN⟩
        case measure => simp [intOf]; omega
      · obtain rfl : j = n := by omega
        have hlx : l = plX L := ext_getD (by rw [HL.out, plX_len, HNN.out]) fun i => by
          by_cases hi : i < j
          · exact HA.out i hi
          · rw [getD_ge (by rw [HL.out]; omega), getD_ge (by rw [plX_len, HNN.out]; omega)]
        subst hlx
        have HTX := Lib.hid HT.out
        obtain ⟨b1, o1, v1, rfl, k0, k1, hi1⟩ := (HS.out.below (Nat.le_of_eq HGW.out) HT.out.be).at (show 0 < j by omega)
        obtain ⟨va1, vc1, rfl⟩ := hi1.shape
        rw [HMM.out, Nat.zero_mul, Nat.add_zero] at k1
        have h0j : (0 : Int) < (j : Int) := by omega
        obtain ⟨qs, hqs⟩ : ∃ q, wr.heap.size = q := ⟨_, rfl⟩
        have HW0 : Hid (RobW w ((wr.alloc (zrow m)).alloc (.map #[] 0)) g qx qy qs (qs + 1) p (K : Int) (N : Int) (plX L) (List.replicate j 0) (List.replicate m 0) []) := by
          have h := HT.out.start (m := m)
          rw [hqs] at h
          exact h
        have hmkm := run_make_row' (P := Tryz.prog) 22 3 (.int .i64 0) 8 Tryz.underlying22 infoInt rfl .i64 .i64 m (by omega) (by omega)
        have hmap := @run_makeMap Tryz.prog
        have hs2 : (wr.alloc (zrow m)).heap.size = qs + 1 := by rw [← hqs]; simp
        have HI0 := Lib.hid (robI_start p K t m L)
        have HQS := Lib.hid hqs
        have HLY : Hid ((List.replicate j (0 : Int)).length = j) := by show _ = _; simp
        have HLM : Hid (([] : List Int).length ≤ 0 * 16) := by show _ ≤ _; simp
        clear hi1 HT HL HA
        go_wp2_with fail
        clear hmkm hmap k0 k1 hs2 hqs
        try rw [HQS.out]
        generalize (wr.alloc (zrow m)).alloc (.map #[] 0) = w6 at *
        go_loopw [16, 17, 18, 19, 20, 22, 64] (fun _ _ _ _ _ _ i wr => ∃ (r : Nat) (F : Nat → List Int) (S M Y : List Int), r ≤ m ∧ i = .int .i64 r ∧ Hid (RobW w wr g qx qy qs (qs + 1) p (K : Int) (N : Int) (plX L) Y S M) ∧ Hid (RobI p K t r m L F S M) ∧ Hid (Y.length = j) ∧ Hid (M.length ≤ r * 16)) (fun _ _ _ _ _ _ i _ => m - (intOf i).toNat)
        case atStart => exact ⟨0, _, _, [], _, Nat.zero_le _, rfl, HW0, HI0, HLY, HLM⟩
        case round =>
          obtain ⟨wa, hwa⟩ : ∃ wa, wa = wr := ⟨_, rfl⟩
          subst hwa
          obtain ⟨r, F, S, M, Y, hr, rfl, HR, HI, HLY, HLM⟩ := hrel
          by_cases hlr : r < m
          · have HY0 : Hid (∀ i, i < 0 → Y.getD i 0 = (plY L r).getD i 0) := fun i hi => by omega
            go_wp2_with fail
            go_loopw [17, 18, 69] (fun _ _ i wr => ∃ (u : Nat) (Y : List Int), u ≤ j ∧ i = .int .i64 u ∧ Hid (RobW w wr g qx qy qs (qs + 1) p (K : Int) (N : Int) (plX L) Y S M) ∧ Hid (Y.length = j) ∧ Hid (∀ i, i < u → Y.getD i 0 = (plY L r).getD i 0)) (fun _ _ i _ => j - (intOf i).toNat)
            case atStart => exact ⟨0, Y, Nat.zero_le _, rfl, HR, HLY, HY0⟩
            case round =>
              obtain ⟨wz, hwz⟩ : ∃ wz, wz = wr := ⟨_, rfl⟩
              subst hwz
              obtain ⟨u, Y2, hu, rfl, HR2, HL2, HA2⟩ := hrel
              by_cases hlu : u < j
              · obtain ⟨b3, o3, v3, e3, k0, k1, hi3⟩ := (HS.out.below (Nat.le_of_eq HGW.out) HR2.out.be).at hlu
                cases e3
                have hpy : (plY L r).getD u 0 = (L.getD u (0, [])).2.getD r 0 := plY_at (by rw [HNN.out]; exact hlu)
                have hll : (L.getD u (0, [])).2.length = m := HGD.out.len _ (by rw [List.getD_eq_getElem?_getD, List.getElem?_eq_getElem (by rw [HNN.out]; exact hlu)]; exact List.getElem_mem _)
                obtain ⟨⟨h, lv⟩, hsh⟩ : ∃ z, L.getD u (0, []) = z := ⟨_, rfl⟩
                rw [hsh] at k0 hi3 hpy hll
                simp only at k0 hi3 hpy hll
                obtain ⟨va3, vc3, rfl⟩ := hi3.shape
                rw [hll] at k1 hi3
                obtain ⟨bv, ov, rfl, cv⟩ := hi3.pos hlr
                obtain ⟨y, hy⟩ : ∃ y, lv.getD r 0 = y := ⟨_, rfl⟩
                rw [hy] at cv hpy
                obtain ⟨gs, hgs⟩ : ∃ gs, wz.heap.size = gs := ⟨_, rfl⟩
                have hal : Below wz.heap.size wz (wz.alloc (.cells #[.int .i64 h, .slice (some ⟨bv, ov, none⟩) m vc3] 42)) := (Below.refl _ _).alloc (Nat.le_refl _) _
                have HR3 := Lib.hid (HR2.out.below hal)
                have hcn := cells_two wz (.int .i64 h) (.slice (some ⟨bv, ov, none⟩) m vc3) 42 gs hgs
                have t0 := hcn.1
                have t1 := hcn.2
                have cv2 := cell_alloc_old wz (.cells #[.int .i64 h, .slice (some ⟨bv, ov, none⟩) m vc3] 42) _ _ cv
                have hjl : u < Y2.length := by rw [HL2.out]; exact hlu
                have hcl := HR3.out.ry.cell hjl
                have hfr := HR3.out.ry.frozen u
                obtain ⟨z, hz⟩ : ∃ z, Y2.getD u 0 = z := ⟨_, rfl⟩
                rw [hz] at hcl
                have HRN := Lib.hid (HR3.out.setY hjl y)
                have HLN : Hid ((Y2.set u y).length = j) := by show _ = _; rw [List.length_set]; exact HL2.out
                have HAN : Hid (∀ i, i < u + 1 → (Y2.set u y).getD i 0 = (plY L r).getD i 0) := fun i hi => by
                  rw [getD_set Y2 u i y hjl]
                  by_cases e : i = u
                  · subst e; rw [if_pos rfl, hpy]
                  · rw [if_neg e]; exact HA2.out i (by omega)
                clear hi3 hpy hll hsh hy hal hcn hjl hz HR2 HA2 HL2 HR3 cv
                go_wp2_with fail
                go_roundw
                case rel => exact ⟨u + 1, _, by omega, by go_num, HRN, HLN, HAN⟩
                case measure => simp [intOf]; omega
              · obtain rfl : u = j := by omega
                have hly : Y2 = plY L r := ext_getD (by rw [HL2.out, plY_len, HNN.out]) fun i => by
                  by_cases hi : i < u
                  · exact HA2.out i hi
                  · rw [getD_ge (by rw [HL2.out]; omega), getD_ge (by rw [plY_len, HNN.out]; omega)]
                subst hly
                have hxe : Els p (plX L) := HGD.out.xs HNP.out
                have hye : Els p (plY L r) := gd_ys hp1 HGD.out r
                have hxl : (plX L).length = u := by rw [plX_len]; exact HNN.out
                have hyl : (plY L r).length = u := by rw [plY_len]; exact HNN.out
                have HHA := Lib.hid (having_any p K t (some ⟨qx, 0, none⟩) (some ⟨qy, 0, none⟩) u u u (plX L) (plY L r) wz HPR.out hp2 hxe hye (row_ints HR2.out.rx hxl (by omega)) (row_ints HR2.out.ry hyl (by omega)) hxl hyl (by omega) hK1 htk HGD.out.one)
                have HXE := Lib.hid hxe
                have HYE := Lib.hid hye
                have HXL := Lib.hid hxl
                have HYL := Lib.hid hyl
                have c0 := HR2.out.pl.c0
                have c1 := HR2.out.pl.c1
                clear hxe hye hxl hyl HR HA2 HL2
                go_wp2_with fail
                refine HHA.out.mono ?_
                rintro e w8 ⟨v8, f, cc, rfl, hcc, hor, hi8, hq8, hb8⟩
                have HQ8 : Hid (∀ b, v8.ownBlock = some b → b ≠ qs) := fun b hb e => by have h1 := hq8 b hb; have h2 := HR2.out.sz; have h3 := HR2.out.sm; omega
                have HR8 := Lib.hid (HR2.out.below hb8)
                have HOR := Lib.hid hor
                have HI8 := Lib.hid hi8
                clear hi8 hb8 hor hq8 HHA HR2 c0 c1
                rcases hcc with rfl | rfl
                · have hob := HOR.out.ok rfl
                  have HIN := Lib.hid (robI_step HI.out hlr (f := f) (by exact hob))
                  have HEV := Lib.hid (eval_any (x := 0) w8 hp1 hp2 (el_zero hp1) hob.els HI8.out)
                  obtain ⟨a8, c8, rfl⟩ := HI8.out.shape
                  obtain ⟨lf, hlf⟩ : ∃ n, f.length = n := ⟨_, rfl⟩
                  obtain ⟨y, hy⟩ : ∃ y, E f 0 % p = y := ⟨_, rfl⟩
                  rw [hy] at HEV HIN
                  rw [hlf] at HI8 HEV
                  have HFE := Lib.hid hob.els
                  have c0 := HR8.out.pl.c0
                  rw [hlf]
                  clear hob hy HOR hlf
                  go_wp2_with fail
                  refine HEV.out.mono ?_
                  rintro e w9 ⟨rfl, hb9⟩
                  have HR9 := Lib.hid (HR8.out.below hb9)
                  have HI9 := Lib.hid (HI8.out.below (Nat.le_refl _) hb9)
                  have hsl : r < S.length := by rw [HI.out.len]; exact hlr
                  have hcl := HR9.out.rs.cell hsl
                  have hfr := HR9.out.rs.frozen r
                  obtain ⟨z, hz⟩ : ∃ z, S.getD r 0 = z := ⟨_, rfl⟩
                  rw [hz] at hcl
                  have HR10 := Lib.hid (HR9.out.setS hsl y)
                  have HI10 : Hid (Ints (w9.setCell ⟨qs, r, none⟩ (.int .i64 y)) (.slice a8 lf c8) f) := HI9.out.but (But.set w9 ⟨qs, r, none⟩ (.int .i64 y)) (fun b hb => HQ8.out b (by cases a8 <;> exact hb))
                  have HMI := Lib.hid (missed_any p (.slice a8 lf c8) (some ⟨qx, 0, none⟩) (some ⟨qy, 0, none⟩) u u u f (plX L) (plY L r) _ hp1 hp2 HFE.out HXE.out HI10.out (row_ints HR10.out.rx HXL.out (by omega)) (row_ints HR10.out.ry HYL.out (by omega)) HXL.out HYL.out (by omega))
                  have d0 := HR10.out.pl.c0
                  clear hb9 hsl hz HEV HR8 HI8 HR9 HI9 c0
                  go_wp2_with fail
                  clear hcl hfr d0
                  refine HMI.out.mono ?_
                  rintro e w11 ⟨v11, rfl, hg11, hb11⟩
                  have HR11 := Lib.hid (HR10.out.below hb11)
                  obtain ⟨a11, c11, rfl⟩ := hg11.shape
                  have hml : (mis p f (plX L) (plY L r)).length ≤ 16 := by have := mis_le p f (plX L) (plY L r); rw [HXL.out] at this; omega
                  have HMW : Hid (∀ x ∈ mis p f (plX L) (plY L r), (Lit.int .i64 x).wf = true) := fun x hx => els_wf hp2 HXE.out x (mis_sub (by rw [HXL.out, HYL.out]) hx)
                  obtain ⟨Q, hQ⟩ : ∃ Q, mis p f (plX L) (plY L r) = Q := ⟨_, rfl⟩
                  rw [hQ] at hg11 hml HMW HIN ⊢
                  obtain ⟨mq, hmq⟩ : ∃ n, Q.length = n := ⟨_, rfl⟩
                  have HBK : Hid (∀ b, (Value.slice a11 Q.length c11).ownBlock = some b → qs + 1 < b) := fun b hb => by
                    have h1 := (World.ownsRow.lt hg11 b hb).1
                    have h2 := HR10.out.sz
                    omega
                  have HI11 := Lib.hid (hg11.reads (by omega))
                  rw [hmq] at HI11 HBK hml ⊢
                  have HMQ := Lib.hid hmq
                  have HQ0 : Hid (RobW w w11 g qx qy qs (qs + 1) p (K : Int) (N : Int) (plX L) (plY L r) (S.set r y) (M ++ Q.take 0)) := by
                    show RobW _ _ _ _ _ _ _ _ _ _ _ _ _ _
                    rw [List.take_zero, List.append_nil]; exact HR11.out
                  clear hg11 hb11 hQ hmq HMI HR10 HI10 HR11
                  go_wp2_with fail
                  go_loopw [22, 111] (fun _ i wr => ∃ q : Nat, q ≤ mq ∧ i = .int .i64 q ∧ Hid (RobW w wr g qx qy qs (qs + 1) p (K : Int) (N : Int) (plX L) (plY L r) (S.set r y) (M ++ Q.take q)) ∧ Hid (Ints wr (.slice a11 mq c11) Q)) (fun _ i _ => mq - (intOf i).toNat)
                  case atStart => exact ⟨0, Nat.zero_le _, rfl, HQ0, HI11⟩
                  case round =>
                    obtain ⟨wy, hwy⟩ : ∃ wy, wy = wr := ⟨_, rfl⟩
                    subst hwy
                    obtain ⟨q, hq, rfl, HRq, HIq⟩ := hrel
                    by_cases hlq : q < mq
                    · obtain ⟨bq, oq, rfl, cq⟩ := HIq.out.pos hlq
                      have hql : q < Q.length := by rw [HMQ.out]; exact hlq
                      have hwx := HMW.out (Q.getD q 0) (by rw [getD_lt hql]; exact List.getElem_mem _)
                      have htk : Q.take q ++ [Q.getD q 0] = Q.take (q + 1) := by rw [getD_lt hql, List.take_succ_eq_append_getElem hql]
                      have HKEY : Hid (keyOf Tryz.prog 3 (.int .i64 (Q.getD q 0)) = some (.int .i64 (Q.getD q 0))) := keyOf_int_mk Tryz.underlying3 hwx
                      obtain ⟨x, hx⟩ : ∃ x, Q.getD q 0 = x := ⟨_, rfl⟩
                      rw [hx] at cq HKEY htk
                      have HTK := Lib.hid htk
                      have HML : Hid ((M ++ Q.take q).length < maxLen) := by
                        show _ < _
                        rw [List.length_append, List.length_take]
                        have := HLM.out
                        unfold maxLen; omega
                      have HSN : Hid ((seenOf ((M ++ Q.take q) ++ [x]) : DataW Unit) = (seenOf (M ++ Q.take q)).put (.int .i64 x) (.lit (.bool true))) := seenOf_snoc _ _
                      clear hql hwx htk hx
                      go_wp2_with (at_mapUpdate; refine wpList_mapUpdate_own _ rfl _ _ _ 67 rfl 3 4 keyedInt Tryz.underlying67 _ (qs + 1) (M ++ Q.take q).length _ rfl HRq.out.mp HML.out _ _ _ rfl rfl HKEY.out _ [] (plainElem_bool Tryz.underlying4 true) ?_; intro w2 hown2 hgrow2)
                      rw [← HSN.out] at hown2
                      have hput := HRq.out.put hown2 hgrow2
                      rw [List.append_assoc, HTK.out] at hput
                      have HPUT := Lib.hid hput
                      have HIN2 := Lib.hid (HIq.out.grown hgrow2 (fun b hb e => by have := HBK.out b hb; simp at e; omega))
                      clear hown2 hgrow2 hput
                      go_wp2_with fail
                      go_roundw
                      case rel => exact ⟨q + 1, by omega, by go_num, HPUT, HIN2⟩
                      case measure => simp [intOf]; omega
                    · obtain rfl : q = mq := by omega
                      have HRF : Hid (RobW w wy g qx qy qs (qs + 1) p (K : Int) (N : Int) (plX L) (plY L r) (S.set r y) (M ++ Q)) := by
                        have h := HRq.out
                        rw [List.take_of_length_le (Nat.le_of_eq HMQ.out)] at h
                        exact h
                      have HLF : Hid ((M ++ Q).length ≤ (r + 1) * 16) := by
                        show _ ≤ _
                        rw [List.length_append, HMQ.out]
                        have := HLM.out
                        omega
                      clear HRq HIq
                      go_wp2_with fail
                      go_roundw
                      case rel => exact ⟨r + 1, _, _, _, _, by omega, by go_num, HRF, HIN, HYL, HLF⟩
                      case measure => simp [intOf]; omega
                · have HRR : Hid (RobR p K m L [] [] 9) := ⟨.inr rfl, (fun h => by cases h), fun _ => ⟨rfl, rfl, .inl ⟨r, hlr, by rw [HNN.out, ht]; exact (HOR.out.no (by omega)).2⟩⟩⟩
                  have HBF : Hid (Below g w w8) := HR8.out.be
                  go_wp2_with fail
                  go_ret3
                  exact ⟨_, _, [], [], 9, rfl, HRR.out, ints_zero _ _ _, ints_zero _ _ _, HBF.out⟩
          · obtain rfl : r = m := by omega
            obtain ⟨z, hz⟩ : ∃ z, Go.Maps.size (seenOf M : DataW Unit) = z := ⟨_, rfl⟩
            have hzm : z ≤ 40000 := by rw [← hz]; have h1 := (seen_size M).1; have h2 := HLM.out; omega
            have hlen : ∀ ty, (Builtin.len_ #[67] ty #[.map (some (qs + 1))]).run Tryz.prog wa = .ok (.int .i64 (z : Int)) wa := fun ty => by rw [← hz]; exact HR.out.mp.len Tryz.underlying67 ty
            have HZ := Lib.hid hz
            clear hz
            by_cases hzt : t < z
            · have hzti : (t : Int) < (z : Int) := by omega
              have HRR : Hid (RobR p K r L [] [] 9) := ⟨.inr rfl, (fun h => by cases h), fun _ => ⟨rfl, rfl, .inr ⟨F, by rw [HNN.out, ht]; exact HI.out.one, fun V hV hm => by
                rw [HNN.out, ht, seen_size_any (l := M) hV (fun x => by rw [hm x, HI.out.mem x]), HZ.out]; exact hzt⟩⟩⟩
              have HBF : Hid (Below g w wa) := HR.out.be
              go_wp2_with fail
              go_ret3
              exact ⟨_, _, [], [], 9, rfl, HRR.out, ints_zero _ _ _, ints_zero _ _ _, HBF.out⟩
            · have hzti : ¬ (t : Int) < (z : Int) := by omega
              have HKC := Lib.hid (keys_call (qs + 1) wa)
              have HSC := Lib.hid (sorted_call (qs + 1) M.length (seenOf M) wa HR.out.mp (by rw [HZ.out]; unfold maxLen; omega) (by rw [HZ.out]; omega))
              go_wp2_with fail
              refine HKC.out.mono ?_
              rintro e w9 ⟨rfl, rfl⟩
              clear HKC hlen
              go_wp2_with fail
              refine HSC.out.mono ?_
              rintro e w10 ⟨v10, ss, rfl, hperm, hrow, _, hb10⟩
              have hW : (ss.mergeSort (fun x y => decide (x ≤ y))).length = ss.length := List.length_mergeSort ss
              have hnd : ss.Nodup := hperm.nodup_iff.2 (seen_keys M).1
              have hsl : ss.length = z := by rw [hperm.length_eq, ← seen_size_keys, HZ.out]
              have HG10 : Hid (Gath w10 (wa.alloc (.cells #[.map (some (qs + 1))] 67)).heap.size v10 (ss.mergeSort (fun x y => decide (x ≤ y)))) := by
                show World.ownsRow _ _ _ _ _ _ _
                rw [hW]; exact hrow
              have hal : Below wa.heap.size wa (wa.alloc (.cells #[.map (some (qs + 1))] 67)) := (Below.refl _ _).alloc (Nat.le_refl _) _
              have HR10 := Lib.hid ((HR.out.below hal).below hb10)
              have HIS : Hid (Ints w10 (.slice (some ⟨qs, 0, none⟩) r r) S) := by
                have h := HR10.out.rs.reads (cap := r) (by rw [HI.out.len]; omega)
                rw [HI.out.len] at h
                exact h
              have HIV : Hid (Ints w10 v10 (ss.mergeSort (fun x y => decide (x ≤ y)))) := HG10.out.reads (by rw [hW, hsl]; omega)
              have HRR : Hid (RobR p K r L S (ss.mergeSort (fun x y => decide (x ≤ y))) 0) := ⟨.inl rfl, fun _ => ⟨HI.out.len, sorted_asc hnd, by rw [hW, hsl, HNN.out, ht]; omega, F, by rw [HNN.out, ht]; exact HI.out.one, HI.out.val, fun x => by
                rw [(List.mergeSort_perm ss _).mem_iff, hperm.mem_iff, (seen_keys M).2 x, HI.out.mem x]⟩, fun h => absurd rfl h⟩
              have HBF : Hid (Below g w w10) := HR10.out.be
              clear hperm hrow hb10 hW hnd hsl hal HSC HG10 HR10
              go_wp2_with fail
              go_ret3
              exact ⟨_, _, S, _, 0, rfl, HRR.out, HIS.out, HIV.out, HBF.out⟩
