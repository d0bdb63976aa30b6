
/- Plain mathematics of interpolation: products of differences, weights, the polynomial through points; nothing of the program. -/
import Derived.Test.YtpohhgbmdgjipaaPm
namespace Go.Proofs.Ytpohhgbmdgjipaa.Num

/-- The inverse; of 0 it is 0. -/
def iv0 (p a : Int) : Int := if a = 0 then 0 else iv p a
theorem iv0_el {p : Int} (hp : 1 ≤ p) (a : Int) : El p (iv0 p a) := by
  unfold iv0; split
  · exact el_zero hp
  · exact el_iv hp a
theorem cg_iv0 {p a : Int} (hp : PrmI p) (ha : ¬ Cg p a 0) : Cg p (a * iv0 p (a % p)) 1 := by
  have hp2 := hp.1
  have h1 : 0 ≤ a % p := Int.emod_nonneg _ (by omega)
  have h2 : a % p ≠ 0 := fun e => ha (Cg.of_mod (by simp [e]))
  have h3 : a % p < p := Int.emod_lt_of_pos _ (by omega)
  unfold iv0; rw [if_neg h2]
  have h4 : Cg p (a % p * iv p (a % p)) 1 := Cg.of_mod (by rw [iv_mul hp (by omega) h3]; exact (Int.emod_eq_of_lt (by omega) (by omega)).symm)
  exact ((Cg.mod p a).symm.mul (Cg.refl p _)).trans h4
theorem cg_self_mod {p a b : Int} (h : Cg p (a % p) b) : Cg p a b := (Cg.mod p a).symm.trans h

/-- The product of x minus each. -/
def prodE : List Int → Int → Int
  | [], _ => 1
  | y :: l, x => (x - y) * prodE l x
def prodL : List Int → List Int
  | [] => [1]
  | y :: l => mulL [-y, 1] (prodL l)
theorem E_prodL (l : List Int) (x : Int) : E (prodL l) x = prodE l x := by
  induction l with
  | nil => simp [prodL, prodE, E]
  | cons y l ih => rw [prodL, E_mulL, ih, prodE]; simp only [E]; grind
theorem prodL_len (l : List Int) : (prodL l).length = l.length + 1 := by
  induction l with
  | nil => rfl
  | cons y l ih => simp only [prodL, mulL, addL_len, smulL_len, List.length_cons, ih, List.length_nil]; omega
theorem prodE_append (a b : List Int) (x : Int) : prodE (a ++ b) x = prodE a x * prodE b x := by
  induction a with
  | nil => simp [prodE]
  | cons y a ih => rw [List.cons_append, prodE, prodE, ih]; grind
theorem prodE_snoc (l : List Int) (y x : Int) : prodE (l ++ [y]) x = prodE l x * (x - y) := by rw [prodE_append]; simp [prodE]
theorem prodE_mem {l : List Int} {x : Int} (h : x ∈ l) : prodE l x = 0 := by
  induction l with
  | nil => cases h
  | cons y l ih =>
    rw [prodE]
    rcases List.mem_cons.1 h with rfl | h
    · simp
    · rw [ih h]; simp
theorem not_cg_one {p : Int} (hp : 2 ≤ p) : ¬ Cg p 1 0 := fun h => by
  have := h.eq; simp at this; have := Int.emod_eq_of_lt (show (0 : Int) ≤ 1 by omega) (show 1 < p by omega); omega
theorem prodE_out {p : Int} (hp : PrmI p) {l : List Int} {x : Int} (hx : El p x) (hl : Els p l) (h : x ∉ l) : ¬ Cg p (prodE l x) 0 := by
  induction l with
  | nil => exact not_cg_one hp.1
  | cons y l ih =>
    rw [prodE]
    intro hc
    have hn : ¬ Cg p (x - y) 0 := not_cg_of_ne hx (hl y (by simp)) (fun e => h (by simp [e]))
    exact ih (fun z hz => hl z (by simp [hz])) (fun hm => h (by simp [hm])) (Cg.factor hp hn hc)
theorem take_succ_getD {l : List Int} {k : Nat} (h : k < l.length) : l.take (k + 1) = l.take k ++ [l.getD k 0] := by
  rw [getD_lt h, List.take_succ_eq_append_getElem h]
theorem getD_mem_take {l : List Int} {j k : Nat} (hj : j < k) (hk : k ≤ l.length) : l.getD j 0 ∈ l.take k := by
  rw [getD_lt (by omega)]; exact List.mem_take_iff_getElem.2 ⟨j, by omega, rfl⟩
theorem getD_not_mem_take {l : List Int} (hn : l.Nodup) {k : Nat} (hk : k < l.length) : l.getD k 0 ∉ l.take k := by
  rw [getD_lt hk]
  intro h
  obtain ⟨i, hi, e⟩ := List.mem_take_iff_getElem.1 h
  rw [List.Nodup, List.pairwise_iff_getElem] at hn
  exact hn i k (by omega) hk (by omega) e
theorem els_take {p : Int} {l : List Int} (h : Els p l) (k : Nat) : Els p (l.take k) := fun x hx => h x (List.mem_of_mem_take hx)

/-! ### The polynomial through points, place by place -/
def linE (p : Int) (T' T Z : List Int) (t : Int) : Prop := ∀ x, Cg p (E T' x) (E T x + t * E Z x)
structure ThS (p : Int) (xs ys T Z : List Int) (k : Nat) : Prop where
  elT : Els p T
  elZ : Els p Z
  lenT : T.length ≤ k
  lenZ : Z.length ≤ k + 1
  fit : ∀ j, j < k → Cg p (E T (xs.getD j 0)) (ys.getD j 0)
  zer : ∀ x, Cg p (E Z x) (prodE (xs.take k) x)
theorem thS_start {p : Int} (hp : 2 ≤ p) (xs ys : List Int) : ThS p xs ys [] [1] 0 :=
  ⟨(fun x hx => by cases hx), (fun x hx => by rw [List.mem_singleton.1 hx]; exact ⟨by omega, by omega⟩), Nat.le_refl _, by simp, (fun j hj => by omega), (fun x => Cg.of_eq (by simp [E, prodE]))⟩
theorem thS_step {p x y : Int} (hp : PrmI p) {xs ys T Z T' Z' : List Int} {k : Nat} (hk : k < xs.length) (hn : xs.Nodup) (he : Els p xs) (hx : xs.getD k 0 = x) (hy : ys.getD k 0 = y) (h : ThS p xs ys T Z k)
    (elT : Els p T') (elZ : Els p Z') (lenT : T'.length = max T.length Z.length) (hlin : linE p T' T Z (mulF p (subF p y (E T x % p)) (iv0 p (E Z x % p)))) (lenZ : Z'.length ≤ Z.length + 2 - 1)
    (hz : Pc p (E Z') (fun t => E Z t * E [subF p 0 x, 1] t)) : ThS p xs ys T' Z' (k + 1) := by
  have hxe : El p x := by rw [← hx]; exact els_getD (by have := hp.1; omega) he k
  refine ⟨elT, elZ, by have := h.lenT; have := h.lenZ; omega, by have := h.lenZ; omega, fun j hj => ?_, fun t => ?_⟩
  · refine (hlin _).trans ?_
    by_cases e : j = k
    · subst e
      rw [hx, hy]
      have hne : ¬ Cg p (E Z x) 0 := fun hc => prodE_out hp hxe (els_take he j) (by rw [← hx]; exact getD_not_mem_take hn hk) ((h.zer x).symm.trans hc)
      have h1 := cg_iv0 hp hne
      have h2 : Cg p (mulF p (subF p y (E T x % p)) (iv0 p (E Z x % p))) ((y - E T x) * iv0 p (E Z x % p)) :=
        (Cg.mulF p _ _).trans (((Cg.subF p _ _).trans ((Cg.refl p y).sub (Cg.mod p _))).mul (Cg.refl p _))
      have h3 := (Cg.refl p (E T x)).add ((h2.mul (Cg.refl p (E Z x))))
      refine h3.trans ?_
      have h4 : Cg p ((y - E T x) * (E Z x * iv0 p (E Z x % p))) ((y - E T x) * 1) := (Cg.refl p _).mul h1
      have e1 : E T x + (y - E T x) * iv0 p (E Z x % p) * E Z x = E T x + (y - E T x) * (E Z x * iv0 p (E Z x % p)) := by grind
      rw [e1]
      exact ((Cg.refl p (E T x)).add h4).trans (Cg.of_eq (by omega))
    · have hjk : j < k := by omega
      have h1 := h.zer (xs.getD j 0)
      rw [prodE_mem (getD_mem_take hjk (by omega))] at h1
      have h2 := (h.fit j hjk).add ((Cg.refl p (mulF p (subF p y (E T x % p)) (iv0 p (E Z x % p)))).mul h1)
      simpa using h2
  · rw [take_succ_getD hk, prodE_snoc, hx]
    refine (hz.cg t).trans ((h.zer t).mul ?_)
    have h1 := (Cg.subF p 0 x).add (Cg.refl p (t * (1 + t * 0)))
    have e1 : E [subF p 0 x, 1] t = subF p 0 x + t * (1 + t * 0) := rfl
    rw [e1]
    exact h1.trans (Cg.of_eq (by grind))

/-- The short polynomial through points. -/
structure Thru (p : Int) (xs ys z : List Int) : Prop where
  els : Els p z
  short : sh z = z
  len : z.length ≤ xs.length
  fit : ∀ j, j < xs.length → Cg p (E z (xs.getD j 0)) (ys.getD j 0)
theorem thru_of {p : Int} {xs ys T Z : List Int} (h : ThS p xs ys T Z xs.length) : Thru p xs ys (sh T) :=
  ⟨sh_els h.elT, sh_sh T, by rw [sh_len]; exact Nat.le_trans (dg_le T) h.lenT, fun j hj => by rw [E_sh]; exact h.fit j hj⟩
theorem fit_mem {p : Int} {xs : List Int} {f g : Int → Int} (h : ∀ j, j < xs.length → Cg p (f (xs.getD j 0)) (g (xs.getD j 0))) : ∀ x ∈ xs, Cg p (f x) (g x) := fun x hx => by
  obtain ⟨j, hj, rfl⟩ := List.mem_iff_getElem.1 hx
  have := h j hj
  rwa [getD_lt hj] at this
theorem Thru.unique {p : Int} (hp : PrmI p) {xs ys z z' : List Int} (hn : xs.Nodup) (he : Els p xs) (h : Thru p xs ys z) (h' : Thru p xs ys z') : z = z' := by
  rw [← h.short, ← h'.short]
  exact sh_cg (by have := hp.1; omega) h.els h'.els fun i => unique_coef hp h.len h'.len hn he (fit_mem (f := E z) (g := E z') fun j hj => (h.fit j hj).trans (h'.fit j hj).symm) i

/-! ### Weights -/
/-- All places but number i. -/
def rest (xs : List Int) (i : Nat) : List Int := xs.take i ++ xs.drop (i + 1)
theorem rest_len {xs : List Int} {i : Nat} (h : i < xs.length) : (rest xs i).length + 1 = xs.length := by simp [rest]; omega
theorem rest_els {p : Int} {xs : List Int} (h : Els p xs) (i : Nat) : Els p (rest xs i) := fun x hx => by
  rcases List.mem_append.1 hx with h1 | h1
  · exact h x (List.mem_of_mem_take h1)
  · exact h x (List.mem_of_mem_drop h1)
theorem mem_rest {xs : List Int} {i j : Nat} (hj : j < xs.length) (h : j ≠ i) : xs.getD j 0 ∈ rest xs i := by
  rw [getD_lt hj]
  by_cases h1 : j < i
  · exact List.mem_append_left _ (List.mem_take_iff_getElem.2 ⟨j, by omega, rfl⟩)
  · refine List.mem_append_right _ (List.mem_drop_iff_getElem.2 ⟨j - (i + 1), by omega, ?_⟩)
    congr 1; omega
theorem not_mem_rest {xs : List Int} (hn : xs.Nodup) {i : Nat} (h : i < xs.length) : xs.getD i 0 ∉ rest xs i := by
  rw [List.Nodup, List.pairwise_iff_getElem] at hn
  rw [getD_lt h]
  intro hm
  rcases List.mem_append.1 hm with h1 | h1
  · obtain ⟨j, hj, e⟩ := List.mem_take_iff_getElem.1 h1
    exact hn j i (by omega) h (by omega) e
  · obtain ⟨j, hj, e⟩ := List.mem_drop_iff_getElem.1 h1
    exact hn i (i + 1 + j) h (by omega) (by omega) e.symm
/-- The weight of place i at x. -/
def wt (p : Int) (xs : List Int) (x : Int) (i : Nat) : Int := mulF p (prodE (rest xs i) x % p) (iv0 p (prodE (rest xs i) (xs.getD i 0) % p))
def wts (p : Int) (xs : List Int) (x : Int) : List Int := (List.range xs.length).map (wt p xs x)
theorem wts_len (p : Int) (xs : List Int) (x : Int) : (wts p xs x).length = xs.length := by simp [wts]
theorem wts_getD {p : Int} {xs : List Int} {x : Int} {i : Nat} (h : i < xs.length) : (wts p xs x).getD i 0 = wt p xs x i := by simp [wts, List.getD, h]
theorem wt_el {p : Int} (hp : 1 ≤ p) (xs : List Int) (x : Int) (i : Nat) : El p (wt p xs x i) := el_mul hp _ _
theorem wts_els {p : Int} (hp : 1 ≤ p) (xs : List Int) (x : Int) : Els p (wts p xs x) := fun y hy => by
  obtain ⟨i, _, rfl⟩ := List.mem_map.1 hy; exact wt_el hp xs x i
theorem wt_cg (p : Int) (xs : List Int) (x : Int) (i : Nat) : Cg p (wt p xs x i) (prodE (rest xs i) x * iv0 p (prodE (rest xs i) (xs.getD i 0) % p)) :=
  (Cg.mulF p _ _).trans ((Cg.mod p _).mul (Cg.refl p _))
theorem wt_one {p : Int} (hp : PrmI p) {xs : List Int} (hn : xs.Nodup) (he : Els p xs) {i : Nat} (h : i < xs.length) : Cg p (wt p xs (xs.getD i 0) i) 1 :=
  (wt_cg p xs _ i).trans (cg_iv0 hp (prodE_out hp (els_getD (by have := hp.1; omega) he i) (rest_els he i) (not_mem_rest hn h)))
theorem wt_zero {p : Int} {xs : List Int} {i j : Nat} (hj : j < xs.length) (h : j ≠ i) : Cg p (wt p xs (xs.getD j 0) i) 0 := by
  have h1 := wt_cg p xs (xs.getD j 0) i
  rw [prodE_mem (mem_rest hj h), Int.zero_mul] at h1
  exact h1
/-- The sum of what f gives, up to n. -/
def sumTo (f : Nat → Int) : Nat → Int
  | 0 => 0
  | n + 1 => sumTo f n + f n
theorem sumTo_cg {p : Int} {f g : Nat → Int} : ∀ n, (∀ i, i < n → Cg p (f i) (g i)) → Cg p (sumTo f n) (sumTo g n)
  | 0, _ => Cg.refl p 0
  | n + 1, h => (sumTo_cg n fun i hi => h i (by omega)).add (h n (by omega))
theorem sumTo_one {p : Int} {f : Nat → Int} {k : Nat} : ∀ n, (∀ i, i < n → i ≠ k → Cg p (f i) 0) → Cg p (sumTo f n) (if k < n then f k else 0)
  | 0, _ => Cg.refl p 0
  | n + 1, h => by
    have ih := sumTo_one n (fun i hi hne => h i (by omega) hne)
    by_cases e : n = k
    · subst e
      rw [if_pos (by omega)]
      rw [if_neg (by omega)] at ih
      exact (ih.add (Cg.refl p (f n))).trans (Cg.of_eq (by simp))
    · have h1 := ih.add (h n (by omega) e)
      rw [Int.add_zero] at h1
      by_cases h2 : k < n
      · rw [if_pos h2] at h1; rw [if_pos (by omega)]; exact h1
      · rw [if_neg h2] at h1; rw [if_neg (by omega)]; exact h1
/-- The combination of all weights, as a list of coefficients. -/
def lag (p : Int) (xs ys : List Int) : Nat → List Int
  | 0 => []
  | n + 1 => addL (lag p xs ys n) (smulL (iv0 p (prodE (rest xs n) (xs.getD n 0) % p) * ys.getD n 0) (prodL (rest xs n)))
theorem lag_len (p : Int) (xs ys : List Int) : ∀ n, n ≤ xs.length → (lag p xs ys n).length ≤ xs.length
  | 0, _ => by simp [lag]
  | n + 1, h => by
    have h1 := lag_len p xs ys n (by omega)
    have h2 := rest_len (xs := xs) (i := n) (by omega)
    simp only [lag, addL_len, smulL_len, prodL_len]; omega
theorem E_lag (p : Int) (xs ys : List Int) (x : Int) : ∀ n, Cg p (E (lag p xs ys n) x) (sumTo (fun i => wt p xs x i * ys.getD i 0) n)
  | 0 => Cg.refl p 0
  | n + 1 => by
    rw [lag, E_addL, E_smulL, E_prodL, sumTo]
    refine (E_lag p xs ys x n).add ?_
    have h1 := ((wt_cg p xs x n).symm.mul (Cg.refl p (ys.getD n 0)))
    exact (Cg.of_eq (by grind)).trans h1
/-- The weighted sum is the value of each polynomial with few coefficients that has the values. -/
theorem weighted {p : Int} (hp : PrmI p) {xs ys m : List Int} (hn : xs.Nodup) (he : Els p xs) (hm : m.length ≤ xs.length) (hf : ∀ j, j < xs.length → Cg p (E m (xs.getD j 0)) (ys.getD j 0)) (x : Int) :
    Cg p (sumTo (fun i => wt p xs x i * ys.getD i 0) xs.length) (E m x) := by
  refine (E_lag p xs ys x xs.length).symm.trans ?_
  refine unique_value hp (lag_len p xs ys _ (Nat.le_refl _)) hm hn he (fit_mem (f := E (lag p xs ys xs.length)) (g := E m) fun j hj => ?_) x
  refine (E_lag p xs ys _ xs.length).trans (Cg.trans ?_ (hf j hj).symm)
  have h1 := sumTo_one (p := p) (f := fun i => wt p xs (xs.getD j 0) i * ys.getD i 0) (k := j) xs.length (fun i hi hne => by
    have := (wt_zero (p := p) hj (Ne.symm hne)).mul (Cg.refl p (ys.getD i 0)); simpa using this)
  rw [if_pos hj] at h1
  refine h1.trans ?_
  have := (wt_one hp hn he hj).mul (Cg.refl p (ys.getD j 0)); simpa using this
/-- Weights sum to 1. -/
theorem weights_sum {p : Int} (hp : PrmI p) {xs : List Int} (hn : xs.Nodup) (he : Els p xs) (h0 : 0 < xs.length) (x : Int) : Cg p (sumTo (fun i => wt p xs x i) xs.length) 1 := by
  have h := weighted hp (ys := List.replicate xs.length 1) (m := [1]) hn he (by simp; omega) (fun j hj => Cg.of_eq (by simp [E, List.getD, hj])) x
  have e : E [1] x = 1 := by simp [E]
  rw [e] at h
  exact (sumTo_cg xs.length fun i hi => Cg.of_eq (by simp [List.getD, hi])).trans h
end Go.Proofs.Ytpohhgbmdgjipaa.Num
