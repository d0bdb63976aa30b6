
/- The key equation of the document's One, as linear equations: the mathematics. -/
import Derived.Test.YtdidplpbkfkdeaaGreatDoorQEmt
namespace Go.Proofs.YtdidplpbkfkdeaaGreatDoor.Num
set_option linter.unusedVariables false

theorem sumTo_shift (f : Nat → Int) : ∀ n, sumTo f (n + 1) = f 0 + sumTo (fun i => f (i + 1)) n
  | 0 => by simp [sumTo]
  | n + 1 => by
    have h := sumTo_shift f n
    show sumTo f (n + 1) + f (n + 1) = f 0 + (sumTo (fun i => f (i + 1)) n + f (n + 1))
    rw [h]; omega
theorem sumTo_add (f : Nat → Int) (a : Nat) : ∀ b, sumTo f (a + b) = sumTo f a + sumTo (fun i => f (a + i)) b
  | 0 => by simp [sumTo]
  | b + 1 => by
    have h := sumTo_add f a b
    show sumTo f (a + b) + f (a + b) = sumTo f a + (sumTo (fun i => f (a + i)) b + f (a + b))
    rw [h]; omega
theorem sumTo_zeroF : ∀ n, sumTo (fun _ => (0 : Int)) n = 0
  | 0 => rfl
  | n + 1 => by simp only [sumTo]; rw [sumTo_zeroF n]; rfl
theorem E_sum (x : Int) : ∀ (l : List Int) (n : Nat), l.length ≤ n → E l x = sumTo (fun c => l.getD c 0 * x ^ c) n
  | [], n, _ => by
    have : (fun c => ([] : List Int).getD c 0 * x ^ c) = fun _ => (0 : Int) := by funext c; simp
    rw [this, sumTo_zeroF]; rfl
  | a :: l, 0, h => by simp at h
  | a :: l, n + 1, h => by
    rw [sumTo_shift]
    have h2 := E_sum x l n (by simpa using h)
    have h3 : sumTo (fun i => (a :: l).getD (i + 1) 0 * x ^ (i + 1)) n = sumTo (fun c => l.getD c 0 * x ^ c * x) n := by
      congr 1; funext c
      rw [List.getD_cons_succ, Int.pow_succ]; grind
    rw [h3, sumTo_mul, ← h2, E_cons]
    simp; grind
/-- The coefficients of the linear equations. -/
structure BwM (p : Int) (k t n : Nat) (xs ys : List Int) (m : Nat → Nat → Int) : Prop where
  q : ∀ i, i < n → ∀ c, c < k + t → Cg p (m i c) (xs.getD i 0 ^ c)
  e : ∀ i, i < n → ∀ c, c < t → Cg p (m i (k + t + c)) (-(xs.getD i 0 ^ c * ys.getD i 0))
  v : ∀ i, i < n → Cg p (m i (k + t + t)) (xs.getD i 0 ^ t * ys.getD i 0)
def qL (v : Nat → Int) (k t : Nat) : List Int := (List.range (k + t)).map v
def eL (v : Nat → Int) (k t : Nat) : List Int := (List.range t).map (fun c => v (k + t + c)) ++ [1]
theorem qL_len (v : Nat → Int) (k t : Nat) : (qL v k t).length = k + t := by simp [qL]
theorem eL_len (v : Nat → Int) (k t : Nat) : (eL v k t).length = t + 1 := by simp [eL]
theorem E_app1 (x c : Int) : ∀ l : List Int, E (l ++ [c]) x = E l x + x ^ l.length * c
  | [] => by simp [E]
  | a :: l => by
    rw [List.cons_append, E_cons, E_cons, E_app1 x c l, List.length_cons, Int.pow_succ]; grind
theorem bw_fit {p : Int} {k t n : Nat} {xs ys : List Int} {m : Nat → Nat → Int} (h : BwM p k t n xs ys m) (v : Nat → Int) : Sol p (k + t + t) n m v ↔ ∀ i, i < n → Cg p (E (qL v k t) (xs.getD i 0)) (E (eL v k t) (xs.getD i 0) * ys.getD i 0) := by
  have key : ∀ i, i < n → Cg p (sumTo (fun c => m i c * v c) (k + t + t)) (E (qL v k t) (xs.getD i 0) - E ((List.range t).map (fun c => v (k + t + c))) (xs.getD i 0) * ys.getD i 0) := fun i hi => by
    rw [sumTo_add]
    have h1 : Cg p (sumTo (fun c => m i c * v c) (k + t)) (E (qL v k t) (xs.getD i 0)) := by
      rw [E_sum _ _ (k + t) (by rw [qL_len]; exact Nat.le_refl _)]
      refine sumTo_cg _ fun c hc => ?_
      have e : (qL v k t).getD c 0 = v c := by simp [qL, List.getD, hc]
      rw [e, Int.mul_comm (v c)]
      exact (h.q i hi c hc).mul (Cg.refl p _)
    have h2 : Cg p (sumTo (fun c => m i (k + t + c) * v (k + t + c)) t) (sumTo (fun c => ((List.range t).map (fun c => v (k + t + c))).getD c 0 * xs.getD i 0 ^ c * (-(ys.getD i 0))) t) := sumTo_cg _ fun c hc => by
      have e : ((List.range t).map (fun c => v (k + t + c))).getD c 0 = v (k + t + c) := by simp [List.getD, hc]
      rw [e]
      refine ((h.e i hi c hc).mul (Cg.refl p _)).trans (Cg.of_eq ?_)
      grind
    rw [sumTo_mul, ← E_sum _ _ t (by simp)] at h2
    refine (h1.add h2).trans (Cg.of_eq ?_)
    grind
  have ee : ∀ i, E (eL v k t) (xs.getD i 0) = E ((List.range t).map (fun c => v (k + t + c))) (xs.getD i 0) + xs.getD i 0 ^ t := fun i => by
    unfold eL
    rw [E_app1]
    simp
  constructor
  · intro hs i hi
    have h1 := (key i hi).symm.trans ((hs i hi).trans (h.v i hi))
    rw [ee]
    have h2 := h1.add (Cg.refl p (E ((List.range t).map (fun c => v (k + t + c))) (xs.getD i 0) * ys.getD i 0))
    refine (Cg.of_eq ?_).trans (h2.trans (Cg.of_eq ?_)) <;> grind
  · intro hs i hi
    have h1 := hs i hi
    rw [ee] at h1
    have h2 := h1.sub (Cg.refl p (E ((List.range t).map (fun c => v (k + t + c))) (xs.getD i 0) * ys.getD i 0))
    refine (key i hi).trans ((Cg.of_eq ?_).trans (h2.trans ((Cg.of_eq ?_).trans (h.v i hi).symm))) <;> grind
theorem eL_lo (v : Nat → Int) (k : Nat) {t j : Nat} (hj : j < t) : (eL v k t).getD j 0 = v (k + t + j) := by simp [eL, List.getD, List.getElem?_append, hj]
theorem eL_hi (v : Nat → Int) (k t : Nat) : (eL v k t).getD t 0 = 1 := by simp [eL, List.getD]
theorem eL_dg {p : Int} (v : Nat → Int) (k t : Nat) : dg (eL v k t) = t + 1 := by
  refine dg_eq (fun i hi => getD_ge (by rw [eL_len]; exact hi)) (.inr ?_)
  rw [show t + 1 - 1 = t by omega]
  unfold eL
  simp [List.getD]
/-- The quotient is the polynomial, if there is one. -/
theorem bw_end {p : Int} (hp : PrmI p) {k t : Nat} {xs ys f q e g r : List Int} (hl : xs.length = ys.length) (hn : xs.Nodup) (he : Els p xs) (ht : k + 2 * t ≤ xs.length) (hf : OneB p k t xs ys f) (heE : Els p e) (lq : q.length = k + t) (le : e.length = t + 1) (de : dg e = t + 1)
    (fit : ∀ j, j < xs.length → Cg p (E q (xs.getD j 0)) (E e (xs.getD j 0) * ys.getD j 0)) (hd : DivS p q e g r) : g = f ∧ r = [] := by
  have hz : (xs.zip ys).length = xs.length := by rw [List.length_zip]; omega
  have h3 := both_len (fun _ : Int × Int => true) (fun z : Int × Int => E f z.1 % p == z.2) (xs.zip ys)
  have h4 := hf.few
  rw [mis_len] at h4
  have h5 : (((xs.zip ys).filter fun z : Int × Int => true && (E f z.1 % p == z.2)).map (·.1)).length + t ≥ xs.length := by
    rw [List.length_map]
    have h6 : ((xs.zip ys).filter fun _ : Int × Int => !true).length = 0 := by simp
    omega
  have hz2 := roots hp (((xs.zip ys).filter fun z : Int × Int => true && (E f z.1 % p == z.2)).map fun z : Int × Int => z.1) (subL q (mulL f e)) (by
    have := mulL_lenQ f e (by omega)
    have := hf.len
    rw [subL_len]
    omega) (filter_fst_nodup hl hn _) (filter_fst_els hl he _) (fun x hx => by
    obtain ⟨z, hz, rfl⟩ := List.mem_map.1 hx
    obtain ⟨hz1, hz3⟩ := List.mem_filter.1 hz
    simp only [Bool.true_and, beq_iff_eq] at hz3
    obtain ⟨j, hj, rfl⟩ := List.mem_iff_getElem.1 hz1
    have hj2 : j < xs.length := by omega
    have h6 := fit j hj2
    rw [List.getElem_zip] at hz3 ⊢
    rw [getD_lt hj2, getD_lt (by omega)] at h6
    simp only at hz3 ⊢
    rw [← hz3] at h6
    rw [E_subL, E_mulL]
    have h7 := (h6.trans ((Cg.refl p _).mul (Cg.mod p (E f xs[j])))).sub (Cg.refl p (E f xs[j] * E e xs[j]))
    refine h7.trans (Cg.of_eq ?_)
    grind)
  have hpc : Pc p (E q) (fun x => E f x * E e x + E [] x) := by
    have h8 : Pc p (E q) (E (mulL f e)) := Pc.of_coef fun i => by
      have h9 := (getD_cg hz2 i).add (Cg.refl p ((mulL f e).getD i 0))
      rw [subL_getD] at h9
      refine (Cg.of_eq ?_).trans (h9.trans (Cg.of_eq ?_)) <;> omega
    exact h8.trans (Pc.of_eq fun x => by rw [E_mulL]; simp [E])
  exact DivS.unique hp heE hd ⟨hf.els, (fun x hx => by cases hx), hf.short, rfl, by simp [dg]; omega, hpc⟩
/-- The polynomial that is 0 at each of some places. -/
def zroL : List Int → List Int
  | [] => [1]
  | a :: l => mulL [-a, 1] (zroL l)
theorem zroL_len : ∀ l, (zroL l).length = l.length + 1
  | [] => rfl
  | a :: l => by
    have ih := zroL_len l
    have h : (mulL [-a, 1] (zroL l)).length = max (zroL l).length ((zroL l).length + 1) := by
      simp [mulL, addL_len, smulL_len]
      omega
    show (mulL [-a, 1] (zroL l)).length = _
    rw [h, ih, List.length_cons]; omega
theorem zroL_top : ∀ l, (zroL l).getD l.length 0 = 1
  | [] => rfl
  | a :: l => by
    have ih := zroL_top l
    show (mulL [-a, 1] (zroL l)).getD (l.length + 1) 0 = 1
    rw [Nat.add_comm, mulL_top [-a, 1] (zroL l) 1 l.length rfl (zroL_len l), ih]
    simp
theorem zroL_zero {a : Int} : ∀ l, a ∈ l → E (zroL l) a = 0
  | [], h => by simp at h
  | b :: l, h => by
    show E (mulL [-b, 1] (zroL l)) a = 0
    rw [E_mulL]
    rcases List.mem_cons.1 h with rfl | h
    · have h0 : E [-a, 1] a = 0 := by simp only [E]; grind
      rw [h0, Int.zero_mul]
    · rw [zroL_zero l h, Int.mul_zero]
/-- If there is a polynomial, the equations have a solution. -/
theorem bw_exists {p : Int} (hp : PrmI p) {k t : Nat} {xs ys f : List Int} {m : Nat → Nat → Int} (hl : xs.length = ys.length) (hf : OneB p k t xs ys f) (hy : Els p ys) (h : BwM p k t xs.length xs ys m) : ∃ v, Sol p (k + t + t) xs.length m v := by
  have hp1 : 1 ≤ p := by have := hp.1; omega
  have hfew := hf.few
  obtain ⟨Z, hZ⟩ : ∃ Z, mis p f xs ys ++ List.replicate (t - (mis p f xs ys).length) 0 = Z := ⟨_, rfl⟩
  have hZl : Z.length = t := by rw [← hZ, List.length_append, List.length_replicate]; omega
  refine ⟨fun c => if c < k + t then (mulL f (zroL Z)).getD c 0 else (zroL Z).getD (c - (k + t)) 0, (bw_fit h _).2 fun i hi => ?_⟩
  have hq : ∀ x, E (qL (fun c => if c < k + t then (mulL f (zroL Z)).getD c 0 else (zroL Z).getD (c - (k + t)) 0) k t) x = E f x * E (zroL Z) x := fun x => by
    rw [← E_mulL, E_sum x (mulL f (zroL Z)) (k + t) (by have := mulL_lenQ f (zroL Z) (by rw [zroL_len]; omega); rw [zroL_len, hZl] at this; have := hf.len; omega), E_sum x _ (k + t) (by rw [qL_len]; exact Nat.le_refl _)]
    have : ∀ n, n ≤ k + t → sumTo (fun c => (qL (fun c => if c < k + t then (mulL f (zroL Z)).getD c 0 else (zroL Z).getD (c - (k + t)) 0) k t).getD c 0 * x ^ c) n = sumTo (fun c => (mulL f (zroL Z)).getD c 0 * x ^ c) n := fun n => by
      induction n with
      | zero => intro _; rfl
      | succ n ih =>
        intro hn
        simp only [sumTo]
        rw [ih (by omega)]
        congr 2
        simp [qL, List.getD, show n < k + t by omega]
    exact this _ (Nat.le_refl _)
  have he : ∀ x, E (eL (fun c => if c < k + t then (mulL f (zroL Z)).getD c 0 else (zroL Z).getD (c - (k + t)) 0) k t) x = E (zroL Z) x := fun x => by
    congr 1
    refine List.ext_getElem (by rw [eL_len, zroL_len, hZl]) fun j h1 h2 => ?_
    rw [← getD_lt h1, ← getD_lt h2]
    rw [eL_len] at h1
    by_cases hj : j < t
    · rw [eL_lo _ _ hj]
      show (if k + t + j < k + t then _ else (zroL Z).getD (k + t + j - (k + t)) 0) = _
      rw [if_neg (by omega), show k + t + j - (k + t) = j by omega]
    · obtain rfl : j = t := by omega
      have := zroL_top Z
      rw [hZl] at this
      rw [this, eL_hi]
  rw [hq, he]
  by_cases hm : xs.getD i 0 ∈ mis p f xs ys
  · have h0 : E (zroL Z) (xs.getD i 0) = 0 := zroL_zero Z (by rw [← hZ]; exact List.mem_append_left _ hm)
    rw [h0]
    exact Cg.of_eq (by grind)
  · have hv : E f (xs.getD i 0) % p = ys.getD i 0 := by
      apply Classical.byContradiction
      intro hne
      refine hm (List.mem_map.2 ⟨(xs.getD i 0, ys.getD i 0), List.mem_filter.2 ⟨?_, by simpa using hne⟩, rfl⟩)
      rw [getD_lt hi, getD_lt (by omega)]
      refine List.mem_iff_getElem.2 ⟨i, by rw [List.length_zip]; omega, by rw [List.getElem_zip]⟩
    have h1 : Cg p (E f (xs.getD i 0)) (ys.getD i 0) := by
      rw [← hv]; exact (Cg.mod p _).symm
    refine (h1.mul (Cg.refl p _)).trans (Cg.of_eq ?_)
    grind
end Go.Proofs.YtdidplpbkfkdeaaGreatDoor.Num
