
/- Plain mathematics of correction: the polynomial that has most of the points is the only one, and how Euclid's way finds it; nothing of the program. -/
import Derived.Test.YtpgbjnenllfmlaaGreatDoorDv
/-! Plain mathematics of correction: the polynomial that has most of the points is the only one, and how Euclid's way finds it; nothing of the program. -/
namespace Go.Proofs.YtpgbjnenllfmlaaGreatDoor.Num
set_option linter.unusedVariables false

theorem not_cg_zero {p a : Int} (ha : El p a) (h : a ≠ 0) : ¬ Cg p a 0 := fun hc => h (hc.el ha ⟨Int.le_refl 0, by have := ha.1; have := ha.2; omega⟩)
theorem cg_coef {p : Int} {a b : List Int} (h : ∀ i, Cg p (a.getD i 0) (b.getD i 0)) (x : Int) : Cg p (E a x) (E b x) := by
  have h1 : ∀ c ∈ subL a b, Cg p c 0 := fun c hc => by
    obtain ⟨i, hi, rfl⟩ := List.mem_iff_getElem.1 hc
    have := (h i).sub (Cg.refl p (b.getD i 0))
    rw [← subL_getD, getD_lt hi] at this
    simpa using this
  have h2 := (E_zero_of h1 x).add (Cg.refl p (E b x))
  rw [E_subL] at h2
  have e : E a x - E b x + E b x = E a x := by omega
  rw [e, Int.zero_add] at h2; exact h2
/-- Coefficients that are all multiples of p. -/
theorem pc_zeros {p : Int} : ∀ l : List Int, (∀ c ∈ l, Cg p c 0) → Pc p (E l) (fun _ => 0)
  | [], _ => ⟨[], fun x => by simp [E]⟩
  | c :: l, h => by
    obtain ⟨t, ht⟩ := pc_zeros l (fun d hd => h d (by simp [hd]))
    obtain ⟨k, hk⟩ := h c (by simp)
    refine ⟨k :: t, fun x => ?_⟩
    have := ht x
    simp only [E] at *
    rw [this, hk]; grind
theorem Pc.of_coef {p : Int} {a b : List Int} (h : ∀ i, Cg p (a.getD i 0) (b.getD i 0)) : Pc p (E a) (E b) := by
  obtain ⟨t, ht⟩ := pc_zeros (subL a b) (fun c hc => by
    obtain ⟨i, hi, rfl⟩ := List.mem_iff_getElem.1 hc
    have := (h i).sub (Cg.refl p (b.getD i 0))
    rw [← subL_getD, getD_lt hi] at this
    simpa using this)
  refine ⟨t, fun x => ?_⟩
  have h1 : E a x - E b x = 0 + p * E t x := by rw [← E_subL]; exact ht x
  omega
theorem mulL_lenQ : ∀ (a b : List Int), 0 < b.length → (mulL a b).length ≤ a.length + b.length - 1
  | [], b, _ => by simp [mulL]
  | c :: a, b, h => by
    have ih := mulL_lenQ a b h
    simp only [mulL, addL_len, smulL_len, List.length_cons]; omega
theorem mulL_top : ∀ (a b : List Int) (s t : Nat), a.length = s + 1 → b.length = t + 1 → (mulL a b).getD (s + t) 0 = a.getD s 0 * b.getD t 0
  | [], _, _, _, h, _ => by simp at h
  | [c], b, s, t, h, hb => by
    obtain rfl : s = 0 := by simpa using h.symm
    simp only [mulL, addL_getD, smulL_getD, Nat.zero_add]
    cases t with
    | zero => simp
    | succ t => simp
  | c :: d :: a, b, s, t, h, hb => by
    cases s with
    | zero => simp at h
    | succ s =>
      have ih := mulL_top (d :: a) b s t (by simpa using h) hb
      have e : mulL (c :: d :: a) b = addL (smulL c b) (0 :: mulL (d :: a) b) := rfl
      rw [e, addL_getD, smulL_getD, getD_ge (l := b) (by omega), show s + 1 + t = s + t + 1 by omega, List.getD_cons_succ, ih, List.getD_cons_succ]
      omega
/-- The degree of what is a product, and a rest of less degree. -/
theorem dg_of_pc {p : Int} (hp : PrmI p) {z a b r : List Int} {s t : Nat} (hz : Els p z) (ha : Els p a) (hb : Els p b) (hda : dg a = s + 1) (hdb : dg b = t + 1) (hr : dg r ≤ t) (h : Pc p (E z) (fun x => E a x * E b x + E r x)) : dg z = s + t + 1 := by
  have hp1 : 1 ≤ p := by have := hp.1; omega
  have hc : ∀ i, Cg p (z.getD i 0) ((mulL (sh a) (sh b)).getD i 0 + r.getD i 0) := fun i => by
    rw [← addL_getD]
    refine Pc.coef (h.trans (Pc.of_eq fun x => ?_)) i
    show _ = E (addL (mulL (sh a) (sh b)) r) x
    rw [E_addL, E_mulL, E_sh, E_sh]
  have hla : (sh a).length = s + 1 := by rw [sh_len, hda]
  have hlb : (sh b).length = t + 1 := by rw [sh_len, hdb]
  refine dg_eq (fun i hi => ?_) (.inr ?_)
  · have h1 := hc i
    rw [getD_ge (l := mulL (sh a) (sh b)) (by have := mulL_lenQ (sh a) (sh b) (by omega); omega), dg_zero r i (by omega)] at h1
    exact h1.el (els_getD hp1 hz i) (el_zero hp1)
  · have h1 := hc (s + t)
    rw [mulL_top _ _ s t hla hlb, dg_zero r (s + t) (by omega), sh_getD, sh_getD, Int.add_zero] at h1
    intro e
    rw [show s + t + 1 - 1 = s + t by omega] at e
    rw [e] at h1
    have h2 := Cg.factor hp (not_cg_zero (els_getD hp1 ha s) (dg_top a s hda)) h1.symm
    exact not_cg_zero (els_getD hp1 hb t) (dg_top b t hdb) h2

/-! ### The points that a polynomial has -/
def mis (p : Int) (f xs ys : List Int) : List Int := ((xs.zip ys).filter fun z => !(E f z.1 % p == z.2)).map (·.1)
/-- One polynomial: short, of degree less than k, that has all points but t. -/
structure OneB (p : Int) (k t : Nat) (xs ys f : List Int) : Prop where
  els : Els p f
  short : sh f = f
  len : f.length ≤ k
  few : (mis p f xs ys).length ≤ t
theorem zip_fst {xs ys : List Int} (h : xs.length = ys.length) : (xs.zip ys).map (·.1) = xs := by
  rw [← List.unzip_fst, List.unzip_zip_left (by omega)]
theorem both_len {α : Type} (P Q : α → Bool) : ∀ Z : List α, Z.length ≤ (Z.filter fun z => P z && Q z).length + (Z.filter fun z => !P z).length + (Z.filter fun z => !Q z).length
  | [] => by simp
  | z :: Z => by
    have ih := both_len P Q Z
    simp only [List.filter_cons, List.length_cons]
    cases P z <;> cases Q z <;> simp <;> omega
theorem mis_len (p : Int) (f xs ys : List Int) : (mis p f xs ys).length = ((xs.zip ys).filter fun z => !(E f z.1 % p == z.2)).length := by unfold mis; rw [List.length_map]
theorem filter_fst_nodup {xs ys : List Int} (h : xs.length = ys.length) (hn : xs.Nodup) (P : Int × Int → Bool) : (((xs.zip ys).filter P).map (·.1)).Nodup := by
  have h1 : ((xs.zip ys).map (·.1)).Nodup := by rw [zip_fst h]; exact hn
  exact List.Nodup.sublist (List.filter_sublist.map _) h1
theorem filter_fst_els {p : Int} {xs ys : List Int} (h : xs.length = ys.length) (he : Els p xs) (P : Int × Int → Bool) : Els p (((xs.zip ys).filter P).map (·.1)) := fun x hx => by
  obtain ⟨z, hz, rfl⟩ := List.mem_map.1 hx
  have := List.mem_filter.1 hz
  exact he _ (List.of_mem_zip (a := z.1) (b := z.2) (by simpa using this.1)).1
theorem one_unique {p : Int} (hp : PrmI p) {k t : Nat} {xs ys f g : List Int} (hl : xs.length = ys.length) (hn : xs.Nodup) (he : Els p xs) (hk : k + 2 * t ≤ xs.length) (hf : OneB p k t xs ys f) (hg : OneB p k t xs ys g) : f = g := by
  rw [← hf.short, ← hg.short]
  have h1 := both_len (fun z : Int × Int => E f z.1 % p == z.2) (fun z => E g z.1 % p == z.2) (xs.zip ys)
  have h2 := hf.few
  have h3 := hg.few
  rw [mis_len] at h2 h3
  have hz : (xs.zip ys).length = xs.length := by rw [List.length_zip]; omega
  have h4 : k ≤ (((xs.zip ys).filter fun z => (E f z.1 % p == z.2) && (E g z.1 % p == z.2)).map (·.1)).length := by rw [List.length_map]; omega
  refine sh_cg (by have := hp.1; omega) hf.els hg.els fun i => unique_coef hp (Nat.le_trans hf.len h4) (Nat.le_trans hg.len h4) (filter_fst_nodup hl hn _) (filter_fst_els hl he _) (fun x hx => ?_) i
  obtain ⟨z, hz, rfl⟩ := List.mem_map.1 hx
  have h5 := (List.mem_filter.1 hz).2
  simp only [Bool.and_eq_true, beq_iff_eq] at h5
  exact Cg.of_mod (by rw [h5.1, h5.2])

/-! ### Euclid's way -/
/-- The difference of two lists, place by place. -/
def minL (p : Int) (a b : List Int) : List Int := (List.range b.length).map fun i => ((p - b.getD i 0) % p + a.getD i 0) % p
theorem minL_len (p : Int) (a b : List Int) : (minL p a b).length = b.length := by simp [minL]
theorem minL_getD (p : Int) (a b : List Int) {i : Nat} (h : i < b.length) : (minL p a b).getD i 0 = ((p - b.getD i 0) % p + a.getD i 0) % p := by simp [minL, List.getD, h]
theorem minL_els {p : Int} (hp : 1 ≤ p) (a b : List Int) : Els p (minL p a b) := fun x hx => by
  obtain ⟨i, _, rfl⟩ := List.mem_map.1 hx
  exact el_mod hp _
theorem minL_cg {p : Int} {a b : List Int} (h : a.length ≤ b.length) (x : Int) : Cg p (E (minL p a b) x) (E a x - E b x) := by
  rw [← E_subL]
  refine cg_coef (fun i => ?_) x
  rw [subL_getD]
  by_cases hi : i < b.length
  · rw [minL_getD p a b hi]
    have h1 : Cg p (p - b.getD i 0) (0 - b.getD i 0) := ⟨1, by omega⟩
    refine (Cg.mod p _).trans ((((Cg.mod p _).trans h1).add (Cg.refl p _)).trans (Cg.of_eq (by omega)))
  · rw [getD_ge (by rw [minL_len]; omega), getD_ge (l := a) (by omega), getD_ge (l := b) (by omega)]
    exact Cg.of_eq (by omega)
structure Gao (p : Int) (n k : Nat) (xs ys B R U V : List Int) : Prop where
  elB : Els p B
  elR : Els p R
  elU : Els p U
  elV : Els p V
  shR : sh R = R
  lenV : dg V = V.length
  posV : 0 < V.length
  uv : U.length < V.length
  sum : V.length + dg B = n + 2
  rb : dg R < dg B
  big : n + k + 2 ≤ 2 * dg B
  fitR : ∀ j, j < n → Cg p (E R (xs.getD j 0)) (E V (xs.getD j 0) * ys.getD j 0)
  fitB : ∀ j, j < n → Cg p (E B (xs.getD j 0)) (E U (xs.getD j 0) * ys.getD j 0)
theorem gao_start {p : Int} (hp : PrmI p) {k : Nat} {xs ys Z R : List Int} (hk : k ≤ xs.length) (hR : Thru p xs ys R) (hz : Els p Z) (hd : dg Z = xs.length + 1) (h0 : ∀ j, j < xs.length → Cg p (E Z (xs.getD j 0)) 0) : Gao p xs.length k xs ys Z R [] [1] := by
  have hp2 := hp.1
  refine ⟨hz, hR.els, (fun x hx => by cases hx), (fun x hx => by simp at hx; subst hx; exact ⟨by omega, by omega⟩), hR.short, rfl, by simp, by simp, by simp; omega, ?_, by omega, fun j hj => ?_, fun j hj => ?_⟩
  · have h1 := hR.len
    rw [← hR.short, sh_len] at h1
    omega
  · have h1 := hR.fit j hj
    have e : E [1] (xs.getD j 0) * ys.getD j 0 = ys.getD j 0 := by simp [E]
    rw [e]; exact h1
  · have e : E [] (xs.getD j 0) * ys.getD j 0 = 0 := by simp [E]
    rw [e]; exact h0 j hj
theorem gao_step {p : Int} (hp : PrmI p) {n k : Nat} {xs ys B R U V q r z : List Int} (h : Gao p n k xs ys B R U V) (hloop : n + k + 2 ≤ 2 * dg R) (hd : DivS p B R q r) (hze : Els p z) (hzs : sh z = z) (hz : Pc p (E z) (fun x => E q x * E V x)) :
    Gao p n k xs ys R r V (minL p U z) ∧ U.length ≤ z.length ∧ z.length ≤ n + 2 := by
  have hp1 : 1 ≤ p := by have := hp.1; omega
  obtain ⟨t, ht⟩ : ∃ t, dg R = t + 1 := ⟨dg R - 1, by omega⟩
  have hq : dg q ≠ 0 := fun e => by
    have hq0 : q = [] := List.length_eq_zero_iff.1 (by rw [← hd.shQ, sh_len]; exact e)
    have h1 : Pc p (E B) (E r) := hd.pc.trans (Pc.of_eq fun x => by rw [hq0]; simp [E])
    have h2 : dg B = dg r := dg_congr fun i => (h1.coef i).el (els_getD hp1 h.elB i) (els_getD hp1 hd.elR i)
    have := hd.deg
    have := h.rb
    omega
  obtain ⟨s, hs⟩ : ∃ s, dg q = s + 1 := ⟨dg q - 1, by omega⟩
  have hB := dg_of_pc hp h.elB hd.elQ h.elR hs ht (by have := hd.deg; omega) hd.pc
  obtain ⟨v, hv⟩ : ∃ v, V.length = v + 1 := ⟨V.length - 1, by have := h.posV; omega⟩
  have hzd := dg_of_pc (r := []) hp hze hd.elQ h.elV hs (by rw [h.lenV, hv]) (by simp [dg]) (hz.trans (Pc.of_eq fun x => by simp [E]))
  have hzl : z.length = s + v + 1 := by rw [← hzs, sh_len, hzd]
  have hrb := h.rb
  have hsum := h.sum
  have huv := h.uv
  have hUz : U.length ≤ z.length := by omega
  refine ⟨⟨h.elR, hd.elR, h.elV, minL_els hp1 _ _, hd.shR, ?_, by rw [minL_len]; omega, by rw [minL_len]; omega, by rw [minL_len]; omega, hd.deg, hloop, fun j hj => ?_, h.fitR⟩, hUz, by omega⟩
  · rw [minL_len]
    refine dg_eq (fun i hi => getD_ge (by rw [minL_len]; exact hi)) (.inr ?_)
    rw [minL_getD p U z (by omega), getD_ge (l := U) (by omega)]
    have h1 := els_getD hp1 hze (z.length - 1)
    have h2 := dg_top z (s + v) (by rw [hzd])
    have h3 : z.length - 1 = s + v := by omega
    rw [h3] at h1 ⊢
    have h4 := h1.1
    have h5 := h1.2
    rw [Int.add_zero, Int.emod_emod_of_dvd _ (Int.dvd_refl p), Int.emod_eq_of_lt (by omega) (by omega)]
    omega
  · have h1 := h.fitB j hj
    have h2 := h.fitR j hj
    generalize xs.getD j 0 = x at h1 h2 ⊢
    generalize ys.getD j 0 = y at h1 h2 ⊢
    have h3 := hd.pc.cg x
    have h4 := hz.cg x
    have h5 := minL_cg (p := p) hUz x
    have h6 : Cg p (E r x) (E U x * y - E q x * (E V x * y)) := by
      have h7 := (h3.symm.trans h1).sub ((Cg.refl p (E q x)).mul h2)
      refine (Cg.of_eq ?_).trans h7
      omega
    refine h6.trans (Cg.symm ?_)
    refine (((h5.trans ((Cg.refl p (E U x)).sub h4)).mul (Cg.refl p y))).trans (Cg.of_eq ?_)
    grind
theorem gao_end {p : Int} (hp : PrmI p) {k t : Nat} {xs ys B R U V f q r : List Int} (hl : xs.length = ys.length) (hn : xs.Nodup) (he : Els p xs) (h : Gao p xs.length k xs ys B R U V) (hstop : 2 * dg R < xs.length + k + 2) (hf : OneB p k t xs ys f) (ht : k + 2 * t ≤ xs.length) (hk : 1 ≤ k) (hd : DivS p R V q r) : q = f := by
  have h1 := h.big
  have h2 := h.sum
  have hz : (xs.zip ys).length = xs.length := by rw [List.length_zip]; omega
  have h3 := both_len (fun _ : Int × Int => true) (fun z : Int × Int => E f z.1 % p == z.2) (xs.zip ys)
  have h4 := hf.few
  rw [mis_len] at h4
  have h5 : (((xs.zip ys).filter fun z : Int × Int => true && (E f z.1 % p == z.2)).map (·.1)).length + t ≥ xs.length := by
    rw [List.length_map]
    have h6 : ((xs.zip ys).filter fun _ : Int × Int => !true).length = 0 := by simp
    omega
  have hR : R.length = dg R := by rw [← h.shR, sh_len, h.shR]
  have hz2 := roots hp (((xs.zip ys).filter fun z : Int × Int => true && (E f z.1 % p == z.2)).map fun z : Int × Int => z.1) (subL R (mulL f V)) (by
    have := mulL_lenQ f V h.posV
    have := hf.len
    have := h.posV
    rw [subL_len]
    omega) (filter_fst_nodup hl hn _) (filter_fst_els hl he _) (fun x hx => by
    obtain ⟨z, hz, rfl⟩ := List.mem_map.1 hx
    obtain ⟨hz1, hz3⟩ := List.mem_filter.1 hz
    simp only [Bool.true_and, beq_iff_eq] at hz3
    obtain ⟨j, hj, rfl⟩ := List.mem_iff_getElem.1 hz1
    have hj2 : j < xs.length := by omega
    have h6 := h.fitR j hj2
    rw [List.getElem_zip] at hz3 ⊢
    rw [getD_lt hj2, getD_lt (by omega)] at h6
    simp only at hz3 ⊢
    rw [← hz3] at h6
    rw [E_subL, E_mulL]
    have h7 := (h6.trans ((Cg.refl p _).mul (Cg.mod p (E f xs[j])))).sub (Cg.refl p (E f xs[j] * E V xs[j]))
    refine h7.trans (Cg.of_eq ?_)
    grind)
  have hpc : Pc p (E R) (fun x => E f x * E V x + E [] x) := by
    have h8 : Pc p (E R) (E (mulL f V)) := Pc.of_coef fun i => by
      have h9 := (getD_cg hz2 i).add (Cg.refl p ((mulL f V).getD i 0))
      rw [subL_getD] at h9
      refine (Cg.of_eq ?_).trans (h9.trans (Cg.of_eq ?_)) <;> omega
    exact h8.trans (Pc.of_eq fun x => by rw [E_mulL]; simp [E])
  exact (DivS.unique hp h.elV hd ⟨hf.els, (fun x hx => by cases hx), hf.short, rfl, by have := h.posV; have := h.lenV; simp [dg]; omega, hpc⟩).1

/-! ### What One gives -/
open Classical in
/-- The error of the arguments, or none. -/
noncomputable def oneC (p need lies : Int) (xs ys : List Int) : Int :=
  if vB p = true ∧ 1 ≤ need ∧ 0 ≤ lies ∧ xs.length = ys.length ∧ xs.length ≤ 16 ∧ Els p xs ∧ Els p ys ∧ xs.Nodup then (if (xs.length : Int) < need + 2 * lies then 5 else 0) else 1
/-- What is found. -/
structure OneR (p : Int) (k t : Nat) (xs ys f : List Int) (c : Int) : Prop where
  ok : c = 0 → OneB p k t xs ys f
  no : c ≠ 0 → f = [] ∧ ∀ g, ¬ OneB p k t xs ys g
theorem OneR.unique {p : Int} (hp : PrmI p) {k t : Nat} {xs ys f g : List Int} {c d : Int} (hc : c = 0 ∨ c = 9) (hd : d = 0 ∨ d = 9) (hl : xs.length = ys.length) (hn : xs.Nodup) (he : Els p xs) (hk : k + 2 * t ≤ xs.length) (hf : OneR p k t xs ys f c) (hg : OneR p k t xs ys g d) : f = g ∧ c = d := by
  rcases hc with rfl | rfl <;> rcases hd with rfl | rfl
  · exact ⟨one_unique hp hl hn he hk (hf.ok rfl) (hg.ok rfl), rfl⟩
  · exact absurd (hf.ok rfl) ((hg.no (by omega)).2 f)
  · exact absurd (hg.ok rfl) ((hf.no (by omega)).2 g)
  · exact ⟨by rw [(hf.no (by omega)).1, (hg.no (by omega)).1], rfl⟩
end Go.Proofs.YtpgbjnenllfmlaaGreatDoor.Num
/-! Linear equations modulo a prime, row by row: the mathematics of elimination. -/
namespace Go.Proofs.YtpgbjnenllfmlaaGreatDoor.Num
set_option linter.unusedVariables false

theorem sumTo_mul (f : Nat → Int) (v : Int) : ∀ n, sumTo (fun k => f k * v) n = sumTo f n * v
  | 0 => by simp [sumTo]
  | n + 1 => by simp only [sumTo]; rw [sumTo_mul f v n]; grind
theorem sumTo_sub (f g : Nat → Int) : ∀ n, sumTo (fun k => f k - g k) n = sumTo f n - sumTo g n
  | 0 => by simp [sumTo]
  | n + 1 => by simp only [sumTo]; rw [sumTo_sub f g n]; omega
/-- x solves the equations of which row i has the coefficients m i k, k < U, and the value m i U. -/
def Sol (p : Int) (U n : Nat) (m : Nat → Nat → Int) (x : Nat → Int) : Prop := ∀ i, i < n → Cg p (sumTo (fun k => m i k * x k) U) (m i U)
def ElM (p : Int) (U n : Nat) (m : Nat → Nat → Int) : Prop := ∀ i, i < n → ∀ k, k ≤ U → El p (m i k)
def swpM (m : Nat → Nat → Int) (r a : Nat) (i : Nat) : Nat → Int := if i = r then m a else if i = a then m r else m i
def sclM (p : Int) (m : Nat → Nat → Int) (r : Nat) (v : Int) (i k : Nat) : Int := if i = r then m r k * v % p else m i k
def elmM (p : Int) (m : Nat → Nat → Int) (r c : Nat) (i k : Nat) : Int := if i = r then m i k else subF p (m i k) (m i c * m r k % p)
theorem sol_swap {p : Int} {U n r a : Nat} {m : Nat → Nat → Int} {x : Nat → Int} (hr : r < n) (ha : a < n) : Sol p U n m x ↔ Sol p U n (swpM m r a) x := by
  constructor
  · intro h i hi
    unfold swpM
    by_cases e : i = r
    · subst e; simp only [if_true]; exact h a ha
    · by_cases e2 : i = a
      · subst e2; simp only [if_neg e, if_true]; exact h r hr
      · simp only [if_neg e, if_neg e2]; exact h i hi
  · intro h i hi
    by_cases e : i = r
    · have h1 := h a ha
      unfold swpM at h1
      by_cases e2 : a = r
      · simp only [if_pos e2] at h1
        subst e; subst e2; exact h1
      · simp only [if_neg e2, if_true] at h1
        subst e; exact h1
    · by_cases e2 : i = a
      · have h1 := h r hr
        unfold swpM at h1
        simp only [if_true] at h1
        subst e2; exact h1
      · have h1 := h i hi
        unfold swpM at h1
        simp only [if_neg e, if_neg e2] at h1
        exact h1
theorem row_scale {p v : Int} {U : Nat} {a x : Nat → Int} (h : Cg p (sumTo (fun k => a k * x k) U) (a U)) : Cg p (sumTo (fun k => a k * v % p * x k) U) (a U * v % p) := by
  have h1 : Cg p (sumTo (fun k => a k * v % p * x k) U) (sumTo (fun k => a k * x k * v) U) := sumTo_cg U fun k _ => by
    have := (Cg.mod p (a k * v)).mul (Cg.refl p (x k))
    rwa [show a k * v * x k = a k * x k * v by grind] at this
  rw [sumTo_mul] at h1
  exact h1.trans ((h.mul (Cg.refl p v)).trans (Cg.mod p _).symm)
theorem sol_scale {p v d : Int} {U n r : Nat} {m : Nat → Nat → Int} {x : Nat → Int} (hr : r < n) (hv : Cg p (v * d) 1) : Sol p U n m x ↔ Sol p U n (sclM p m r v) x := by
  constructor
  · intro h i hi
    unfold sclM
    by_cases e : i = r
    · subst e; simp only [if_true]; exact row_scale (h i hi)
    · simp only [if_neg e]; exact h i hi
  · intro h i hi
    have h1 := h i hi
    unfold sclM at h1
    by_cases e : i = r
    · subst e
      simp only [if_true] at h1
      have h2 := row_scale (v := d) (a := fun k => m i k * v % p) h1
      have h3 : ∀ k, Cg p (m i k * v % p * d % p) (m i k) := fun k => by
        refine (Cg.mod p _).trans (((Cg.mod p _).mul (Cg.refl p d)).trans ?_)
        have := (Cg.refl p (m i k)).mul hv
        rwa [Int.mul_one, show m i k * (v * d) = m i k * v * d by grind] at this
      exact (sumTo_cg U fun k _ => ((h3 k).mul (Cg.refl p (x k)))).symm.trans (h2.trans (h3 U))
    · simp only [if_neg e] at h1; exact h1
theorem row_elim {p f : Int} {U : Nat} {a b x : Nat → Int} (ha : Cg p (sumTo (fun k => a k * x k) U) (a U)) (hb : Cg p (sumTo (fun k => b k * x k) U) (b U)) : Cg p (sumTo (fun k => subF p (a k) (f * b k % p) * x k) U) (subF p (a U) (f * b U % p)) := by
  have e : ∀ k, Cg p (subF p (a k) (f * b k % p)) (a k - f * b k) := fun k => (Cg.subF p _ _).trans ((Cg.refl p _).sub (Cg.mod p _))
  have h1 : Cg p (sumTo (fun k => subF p (a k) (f * b k % p) * x k) U) (sumTo (fun k => a k * x k - b k * x k * f) U) := sumTo_cg U fun k _ => by
    have := (e k).mul (Cg.refl p (x k))
    rwa [show (a k - f * b k) * x k = a k * x k - b k * x k * f by grind] at this
  rw [sumTo_sub, sumTo_mul] at h1
  refine h1.trans ((ha.sub (hb.mul (Cg.refl p f))).trans ?_)
  rw [show b U * f = f * b U by grind]
  exact (e U).symm
theorem sol_elim {p : Int} {U n r c : Nat} {m : Nat → Nat → Int} {x : Nat → Int} (hr : r < n) : Sol p U n m x ↔ Sol p U n (elmM p m r c) x := by
  constructor
  · intro h i hi
    unfold elmM
    by_cases e : i = r
    · subst e; simp only [if_true]; exact h i hi
    · simp only [if_neg e]; exact row_elim (h i hi) (h r hr)
  · intro h i hi
    have hrr := h r hr
    have h1 := h i hi
    unfold elmM at h1 hrr
    simp only [if_true] at hrr
    by_cases e : i = r
    · subst e; simp only [if_true] at h1; exact h1
    · simp only [if_neg e] at h1
      have h2 := row_elim (f := -(m i c)) (a := fun k => subF p (m i k) (m i c * m r k % p)) (b := m r) h1 hrr
      have h3 : ∀ k, Cg p (subF p (subF p (m i k) (m i c * m r k % p)) (-(m i c) * m r k % p)) (m i k) := fun k => by
        refine (Cg.subF p _ _).trans ?_
        have h4 := ((Cg.subF p (m i k) (m i c * m r k % p)).trans ((Cg.refl p (m i k)).sub (Cg.mod p (m i c * m r k)))).sub (Cg.mod p (-(m i c) * m r k))
        rwa [show m i k - m i c * m r k - -(m i c) * m r k = m i k by grind] at h4
      exact (sumTo_cg U fun k _ => ((h3 k).mul (Cg.refl p (x k)))).symm.trans (h2.trans (h3 U))

/-- Rows that are reduced up to column c: the row i < r has a 1 in column L i, and no other row has anything there; the others have nothing before c. -/
structure Ech (p : Int) (U n : Nat) (m : Nat → Nat → Int) (L : List Nat) (c : Nat) : Prop where
  el : ElM p U n m
  below : ∀ j, j < L.length → L.getD j 0 < c
  lead : ∀ i, i < n → ∀ j, j < L.length → m i (L.getD j 0) = if i = j then 1 else 0
  zero : ∀ i, L.length ≤ i → i < n → ∀ k, k < c → m i k = 0
theorem ech_start {p : Int} {U n : Nat} {m : Nat → Nat → Int} (h : ElM p U n m) : Ech p U n m [] 0 :=
  ⟨h, fun j hj => by simp at hj, fun i _ j hj => by simp at hj, fun i _ _ k hk => by omega⟩
theorem Ech.skip {p : Int} {U n : Nat} {m : Nat → Nat → Int} {L : List Nat} {c : Nat} (h : Ech p U n m L c) (hz : ∀ i, L.length ≤ i → i < n → m i c = 0) : Ech p U n m L (c + 1) :=
  ⟨h.el, fun j hj => by have := h.below j hj; omega, h.lead, fun i h1 h2 k hk => by
    by_cases e : k = c
    · subst e; exact hz i h1 h2
    · exact h.zero i h1 h2 k (by omega)⟩
theorem getD_nat_app {L : List Nat} {c j : Nat} (hj : j < L.length) : (L ++ [c]).getD j 0 = L.getD j 0 := by simp [List.getD, List.getElem?_append, hj]
theorem getD_nat_end (L : List Nat) (c : Nat) : (L ++ [c]).getD L.length 0 = c := by simp [List.getD]
theorem Ech.pivot {p : Int} (hp : PrmI p) {U n : Nat} {m : Nat → Nat → Int} {L : List Nat} {c a : Nat} {v : Int} (h : Ech p U n m L c) (hc : c < U) (ha1 : L.length ≤ a) (ha2 : a < n) (hv : El p v) (hva : Cg p (v * m a c) 1) :
    Ech p U n (elmM p (sclM p (swpM m L.length a) L.length v) L.length c) (L ++ [c]) (c + 1) := by
  have hp1 : 1 ≤ p := by have := hp.1; omega
  have hrn : L.length < n := by omega
  obtain ⟨r, hr⟩ : ∃ r, L.length = r := ⟨_, rfl⟩
  rw [hr] at ha1 hrn ⊢
  have e2 : ∀ i k, swpM m r a i k = if i = r then m a k else if i = a then m r k else m i k := fun i k => by
    unfold swpM; split
    · rfl
    · split <;> rfl
  have el2 : ∀ i, i < n → ∀ k, k ≤ U → El p (swpM m r a i k) := fun i hi k hk => by
    rw [e2]; split
    · exact h.el a ha2 k hk
    · split
      · exact h.el r hrn k hk
      · exact h.el i hi k hk
  have el3 : ∀ i, i < n → ∀ k, k ≤ U → El p (sclM p (swpM m r a) r v i k) := fun i hi k hk => by
    unfold sclM; split
    · exact el_mod hp1 _
    · exact el2 i hi k hk
  have z2 : ∀ k, (∀ i, r ≤ i → i < n → m i k = 0) → ∀ i, r ≤ i → i < n → swpM m r a i k = 0 := fun k hk i h1 h2 => by
    rw [e2]; split
    · exact hk a ha1 ha2
    · split
      · exact hk r (Nat.le_refl _) hrn
      · exact hk i h1 h2
  have z3 : ∀ k, (∀ i, r ≤ i → i < n → m i k = 0) → sclM p (swpM m r a) r v r k = 0 := fun k hk => by
    unfold sclM
    rw [if_pos rfl, z2 k hk r (Nat.le_refl _) hrn]; simp
  have one : sclM p (swpM m r a) r v r c = 1 := by
    unfold sclM
    rw [if_pos rfl, e2, if_pos rfl]
    have h1 : Cg p (m a c * v % p) 1 := (Cg.mod p _).trans (by rwa [show m a c * v = v * m a c by grind])
    exact h1.el (el_mod hp1 _) ⟨by omega, by have := hp.1; omega⟩
  have sub0 : ∀ x, El p x → subF p x 0 = x := fun x hx => by
    have : Cg p (subF p x 0) x := (Cg.subF p x 0).trans (Cg.of_eq (by omega))
    exact this.el (el_mod hp1 _) hx
  have col : ∀ k, (∀ i, r ≤ i → i < n → m i k = 0) → k ≤ U → ∀ i, i < n → i ≠ r → elmM p (sclM p (swpM m r a) r v) r c i k = swpM m r a i k := fun k hk hkU i hi hir => by
    unfold elmM
    rw [if_neg hir, z3 k hk, Int.mul_zero, Int.zero_emod, sub0 _ (el3 i hi k hkU)]
    unfold sclM
    rw [if_neg hir]
  refine ⟨fun i hi k hk => ?_, fun j hj => ?_, fun i hi j hj => ?_, fun i h1 h2 k hk => ?_⟩
  · unfold elmM; split
    · exact el3 i hi k hk
    · exact el_mod hp1 _
  · rw [List.length_append, List.length_singleton, hr] at hj
    by_cases e : j < r
    · rw [getD_nat_app (by omega)]; have := h.below j (by omega); omega
    · obtain rfl : j = L.length := by omega
      rw [getD_nat_end]; omega
  · rw [List.length_append, List.length_singleton, hr] at hj
    by_cases e : j < r
    · rw [getD_nat_app (by omega)]
      have hz : ∀ i, r ≤ i → i < n → m i (L.getD j 0) = 0 := fun i h1 h2 => by rw [h.lead i h2 j (by omega), if_neg (by omega)]
      have hb := h.below j (by omega)
      by_cases hir : i = r
      · rw [if_neg (by omega)]
        unfold elmM
        rw [if_pos hir, hir, z3 _ hz]
      · rw [col _ hz (by omega) i hi hir, e2, if_neg hir]
        by_cases hia : i = a
        · rw [if_pos hia, if_neg (by omega), hz r (Nat.le_refl _) hrn]
        · rw [if_neg hia]; exact h.lead i hi j (by omega)
    · obtain rfl : j = r := by omega
      rw [show (L ++ [c]).getD j 0 = c by rw [← hr]; exact getD_nat_end L c]
      unfold elmM
      by_cases hir : i = j
      · rw [if_pos hir, if_pos hir, hir, one]
      · rw [if_neg hir, if_neg hir, one, Int.mul_one]
        have hx := el3 i hi c (by omega)
        rw [Int.emod_eq_of_lt hx.1 hx.2]
        have : Cg p (subF p (sclM p (swpM m j a) j v i c) (sclM p (swpM m j a) j v i c)) 0 := (Cg.subF p _ _).trans (Cg.of_eq (by omega))
        exact this.el (el_mod hp1 _) (el_zero hp1)
  · rw [List.length_append, List.length_singleton, hr] at h1
    by_cases e : k = c
    · subst e
      unfold elmM
      rw [if_neg (by omega), one, Int.mul_one]
      have hx := el3 i h2 k (by omega)
      rw [Int.emod_eq_of_lt hx.1 hx.2]
      have : Cg p (subF p (sclM p (swpM m r a) r v i k) (sclM p (swpM m r a) r v i k)) 0 := (Cg.subF p _ _).trans (Cg.of_eq (by omega))
      exact this.el (el_mod hp1 _) (el_zero hp1)
    · have hz : ∀ i, r ≤ i → i < n → m i k = 0 := fun i h3 h4 => h.zero i (by omega) h4 k (by omega)
      rw [col k hz (by omega) i h2 (by omega)]
      exact z2 k hz i (by omega) h2
theorem sol_pivot {p : Int} {U n : Nat} {m : Nat → Nat → Int} {r c a : Nat} {v : Int} {x : Nat → Int} (hr : r < n) (ha : a < n) (hva : Cg p (v * m a c) 1) : Sol p U n m x ↔ Sol p U n (elmM p (sclM p (swpM m r a) r v) r c) x :=
  (sol_swap hr ha).trans ((sol_scale (d := m a c) hr hva).trans (sol_elim hr))
/-- The solution that is read off. -/
def outV (m : Nat → Nat → Int) (U : Nat) : List Nat → Nat → Nat → Int
  | [], _, _ => 0
  | c :: L, i, k => if k = c then m i U else outV m U L (i + 1) k
theorem outV_none (m : Nat → Nat → Int) (U : Nat) : ∀ (L : List Nat) (i k : Nat), (∀ j, j < L.length → L.getD j 0 ≠ k) → outV m U L i k = 0
  | [], _, _, _ => rfl
  | c :: L, i, k, h => by
    unfold outV
    rw [if_neg (fun e => h 0 (by simp) (by simp [e])), outV_none m U L (i + 1) k fun j hj => by have := h (j + 1) (by simpa using hj); simpa using this]
theorem outV_at (m : Nat → Nat → Int) (U : Nat) : ∀ (L : List Nat) (i j : Nat), j < L.length → (∀ a, a < j → L.getD a 0 ≠ L.getD j 0) → outV m U L i (L.getD j 0) = m (i + j) U
  | [], _, j, h, _ => by simp at h
  | c :: L, i, 0, h, _ => by simp [outV]
  | c :: L, i, j + 1, h, hd => by
    have h0 := hd 0 (by omega)
    have e : (c :: L).getD (j + 1) 0 = L.getD j 0 := by simp
    rw [e] at h0 ⊢
    unfold outV
    rw [if_neg (fun e2 => h0 (show (c :: L).getD 0 0 = L.getD j 0 from e2.symm)), outV_at m U L (i + 1) j (by simpa using h) fun a ha => by have := hd (a + 1) (by omega); simpa using this]
    congr 1; omega
theorem Ech.apart {p : Int} (hp : PrmI p) {U n : Nat} {m : Nat → Nat → Int} {L : List Nat} {c : Nat} (h : Ech p U n m L c) (hn : L.length ≤ n) {i j : Nat} (hi : i < L.length) (hj : j < L.length) (hne : i ≠ j) : L.getD i 0 ≠ L.getD j 0 := fun e => by
  have h1 := h.lead i (by omega) i hi
  have h2 := h.lead i (by omega) j hj
  rw [e, h2, if_neg hne, if_pos rfl] at h1
  cases h1
/-- What is left says whether there is a solution; and then this one is. -/
theorem Ech.none {p : Int} (hp : PrmI p) {U n : Nat} {m : Nat → Nat → Int} {L : List Nat} {c : Nat} (h : Ech p U n m L c) (hc : c = U ∨ L.length = n) {x : Nat → Int} (hs : Sol p U n m x) : ∀ i, L.length ≤ i → i < n → m i U = 0 := fun i h1 h2 => by
  have hp1 : 1 ≤ p := by have := hp.1; omega
  rcases hc with rfl | hc
  · have h3 := hs i h2
    have h4 : Cg p (sumTo (fun k => m i k * x k) c) 0 := by
      have := sumTo_cg (p := p) (f := fun k => m i k * x k) (g := fun _ => 0) c fun k hk => by rw [h.zero i h1 h2 k hk, Int.zero_mul]; exact Cg.refl p 0
      have e : ∀ n, sumTo (fun _ => (0 : Int)) n = 0 := fun n => by
        induction n with
        | zero => rfl
        | succ n ih => simp only [sumTo]; rw [ih]; rfl
      rwa [e] at this
    exact (h3.symm.trans h4).el (h.el i h2 c (Nat.le_refl _)) (el_zero hp1)
  · omega
theorem Ech.sol {p : Int} (hp : PrmI p) {U n : Nat} {m : Nat → Nat → Int} {L : List Nat} {c : Nat} (h : Ech p U n m L c) (hcU : c ≤ U) (hn : L.length ≤ n) (hc : c = U ∨ L.length = n) (hg : ∀ i, L.length ≤ i → i < n → m i U = 0) : Sol p U n m (outV m U L 0) := fun i hi => by
  by_cases hlt : i < L.length
  · have hb := h.below i hlt
    have h1 := sumTo_one (p := p) (f := fun k => m i k * outV m U L 0 k) (k := L.getD i 0) U fun k hk hne => by
      by_cases hex : ∃ j, j < L.length ∧ L.getD j 0 = k
      · obtain ⟨j, hj, rfl⟩ := hex
        have hij : i ≠ j := fun e => hne (by rw [e])
        show Cg p (m i (L.getD j 0) * _) 0
        rw [h.lead i hi j hj, if_neg hij, Int.zero_mul]
        exact Cg.refl p 0
      · show Cg p (_ * outV m U L 0 k) 0
        rw [outV_none m U L 0 k fun j hj e => hex ⟨j, hj, e⟩, Int.mul_zero]
        exact Cg.refl p 0
    rw [if_pos (by omega)] at h1
    rw [h.lead i hi i hlt, if_pos rfl, Int.one_mul, outV_at m U L 0 i hlt fun a ha => h.apart hp hn (by omega) hlt (by omega), Nat.zero_add] at h1
    exact h1
  · rw [hg i (by omega) hi]
    rcases hc with rfl | hc
    · have := sumTo_cg (p := p) (f := fun k => m i k * outV m c L 0 k) (g := fun _ => 0) c fun k hk => by rw [h.zero i (by omega) hi k hk, Int.zero_mul]; exact Cg.refl p 0
      have e : ∀ n, sumTo (fun _ => (0 : Int)) n = 0 := fun n => by
        induction n with
        | zero => rfl
        | succ n ih => simp only [sumTo]; rw [ih]; rfl
      rwa [e] at this
    · omega
end Go.Proofs.YtpgbjnenllfmlaaGreatDoor.Num
/-! The key equation of the document's One, as linear equations: the mathematics. -/
namespace Go.Proofs.YtpgbjnenllfmlaaGreatDoor.Num
set_option linter.unusedVariables false

theorem sumTo_shift (f : Nat → Int) : ∀ n, sumTo f (n + 1) = f 0 + sumTo (fun i => f (i + 1)) n
  | 0 => by simp [sumTo]
  | n + 1 => by
    have h := sumTo_shift f n
    show sumTo f (n + 1) + f (n + 1) = f 0 + (sumTo (fun i => f (i + 1)) n + f (n + 1))
    rw [h]; omega
theorem sumTo_add (f : Nat → Int) (a : Nat) : ∀ b, sumTo f (a + b) = sumTo f a + sumTo (fun i => f (a + i)) b
  | 0 => by simp [sumTo]
  | b + 1 => by
    have h := sumTo_add f a b
    show sumTo f (a + b) + f (a + b) = sumTo f a + (sumTo (fun i => f (a + i)) b + f (a + b))
    rw [h]; omega
theorem sumTo_zeroF : ∀ n, sumTo (fun _ => (0 : Int)) n = 0
  | 0 => rfl
  | n + 1 => by simp only [sumTo]; rw [sumTo_zeroF n]; rfl
theorem E_sum (x : Int) : ∀ (l : List Int) (n : Nat), l.length ≤ n → E l x = sumTo (fun c => l.getD c 0 * x ^ c) n
  | [], n, _ => by
    have : (fun c => ([] : List Int).getD c 0 * x ^ c) = fun _ => (0 : Int) := by funext c; simp
    rw [this, sumTo_zeroF]; rfl
  | a :: l, 0, h => by simp at h
  | a :: l, n + 1, h => by
    rw [sumTo_shift]
    have h2 := E_sum x l n (by simpa using h)
    have h3 : sumTo (fun i => (a :: l).getD (i + 1) 0 * x ^ (i + 1)) n = sumTo (fun c => l.getD c 0 * x ^ c * x) n := by
      congr 1; funext c
      rw [List.getD_cons_succ, Int.pow_succ]; grind
    rw [h3, sumTo_mul, ← h2, E_cons]
    simp; grind
/-- The coefficients of the linear equations. -/
structure BwM (p : Int) (k t n : Nat) (xs ys : List Int) (m : Nat → Nat → Int) : Prop where
  q : ∀ i, i < n → ∀ c, c < k + t → Cg p (m i c) (xs.getD i 0 ^ c)
  e : ∀ i, i < n → ∀ c, c < t → Cg p (m i (k + t + c)) (-(xs.getD i 0 ^ c * ys.getD i 0))
  v : ∀ i, i < n → Cg p (m i (k + t + t)) (xs.getD i 0 ^ t * ys.getD i 0)
def qL (v : Nat → Int) (k t : Nat) : List Int := (List.range (k + t)).map v
def eL (v : Nat → Int) (k t : Nat) : List Int := (List.range t).map (fun c => v (k + t + c)) ++ [1]
theorem qL_len (v : Nat → Int) (k t : Nat) : (qL v k t).length = k + t := by simp [qL]
theorem eL_len (v : Nat → Int) (k t : Nat) : (eL v k t).length = t + 1 := by simp [eL]
theorem E_app1 (x c : Int) : ∀ l : List Int, E (l ++ [c]) x = E l x + x ^ l.length * c
  | [] => by simp [E]
  | a :: l => by
    rw [List.cons_append, E_cons, E_cons, E_app1 x c l, List.length_cons, Int.pow_succ]; grind
theorem bw_fit {p : Int} {k t n : Nat} {xs ys : List Int} {m : Nat → Nat → Int} (h : BwM p k t n xs ys m) (v : Nat → Int) : Sol p (k + t + t) n m v ↔ ∀ i, i < n → Cg p (E (qL v k t) (xs.getD i 0)) (E (eL v k t) (xs.getD i 0) * ys.getD i 0) := by
  have key : ∀ i, i < n → Cg p (sumTo (fun c => m i c * v c) (k + t + t)) (E (qL v k t) (xs.getD i 0) - E ((List.range t).map (fun c => v (k + t + c))) (xs.getD i 0) * ys.getD i 0) := fun i hi => by
    rw [sumTo_add]
    have h1 : Cg p (sumTo (fun c => m i c * v c) (k + t)) (E (qL v k t) (xs.getD i 0)) := by
      rw [E_sum _ _ (k + t) (by rw [qL_len]; exact Nat.le_refl _)]
      refine sumTo_cg _ fun c hc => ?_
      have e : (qL v k t).getD c 0 = v c := by simp [qL, List.getD, hc]
      rw [e, Int.mul_comm (v c)]
      exact (h.q i hi c hc).mul (Cg.refl p _)
    have h2 : Cg p (sumTo (fun c => m i (k + t + c) * v (k + t + c)) t) (sumTo (fun c => ((List.range t).map (fun c => v (k + t + c))).getD c 0 * xs.getD i 0 ^ c * (-(ys.getD i 0))) t) := sumTo_cg _ fun c hc => by
      have e : ((List.range t).map (fun c => v (k + t + c))).getD c 0 = v (k + t + c) := by simp [List.getD, hc]
      rw [e]
      refine ((h.e i hi c hc).mul (Cg.refl p _)).trans (Cg.of_eq ?_)
      grind
    rw [sumTo_mul, ← E_sum _ _ t (by simp)] at h2
    refine (h1.add h2).trans (Cg.of_eq ?_)
    grind
  have ee : ∀ i, E (eL v k t) (xs.getD i 0) = E ((List.range t).map (fun c => v (k + t + c))) (xs.getD i 0) + xs.getD i 0 ^ t := fun i => by
    unfold eL
    rw [E_app1]
    simp
  constructor
  · intro hs i hi
    have h1 := (key i hi).symm.trans ((hs i hi).trans (h.v i hi))
    rw [ee]
    have h2 := h1.add (Cg.refl p (E ((List.range t).map (fun c => v (k + t + c))) (xs.getD i 0) * ys.getD i 0))
    refine (Cg.of_eq ?_).trans (h2.trans (Cg.of_eq ?_)) <;> grind
  · intro hs i hi
    have h1 := hs i hi
    rw [ee] at h1
    have h2 := h1.sub (Cg.refl p (E ((List.range t).map (fun c => v (k + t + c))) (xs.getD i 0) * ys.getD i 0))
    refine (key i hi).trans ((Cg.of_eq ?_).trans (h2.trans ((Cg.of_eq ?_).trans (h.v i hi).symm))) <;> grind
theorem eL_lo (v : Nat → Int) (k : Nat) {t j : Nat} (hj : j < t) : (eL v k t).getD j 0 = v (k + t + j) := by simp [eL, List.getD, List.getElem?_append, hj]
theorem eL_hi (v : Nat → Int) (k t : Nat) : (eL v k t).getD t 0 = 1 := by simp [eL, List.getD]
theorem eL_dg {p : Int} (v : Nat → Int) (k t : Nat) : dg (eL v k t) = t + 1 := by
  refine dg_eq (fun i hi => getD_ge (by rw [eL_len]; exact hi)) (.inr ?_)
  rw [show t + 1 - 1 = t by omega]
  unfold eL
  simp [List.getD]
/-- The quotient is the polynomial, if there is one. -/
theorem bw_end {p : Int} (hp : PrmI p) {k t : Nat} {xs ys f q e g r : List Int} (hl : xs.length = ys.length) (hn : xs.Nodup) (he : Els p xs) (ht : k + 2 * t ≤ xs.length) (hf : OneB p k t xs ys f) (heE : Els p e) (lq : q.length = k + t) (le : e.length = t + 1) (de : dg e = t + 1)
    (fit : ∀ j, j < xs.length → Cg p (E q (xs.getD j 0)) (E e (xs.getD j 0) * ys.getD j 0)) (hd : DivS p q e g r) : g = f ∧ r = [] := by
  have hz : (xs.zip ys).length = xs.length := by rw [List.length_zip]; omega
  have h3 := both_len (fun _ : Int × Int => true) (fun z : Int × Int => E f z.1 % p == z.2) (xs.zip ys)
  have h4 := hf.few
  rw [mis_len] at h4
  have h5 : (((xs.zip ys).filter fun z : Int × Int => true && (E f z.1 % p == z.2)).map (·.1)).length + t ≥ xs.length := by
    rw [List.length_map]
    have h6 : ((xs.zip ys).filter fun _ : Int × Int => !true).length = 0 := by simp
    omega
  have hz2 := roots hp (((xs.zip ys).filter fun z : Int × Int => true && (E f z.1 % p == z.2)).map fun z : Int × Int => z.1) (subL q (mulL f e)) (by
    have := mulL_lenQ f e (by omega)
    have := hf.len
    rw [subL_len]
    omega) (filter_fst_nodup hl hn _) (filter_fst_els hl he _) (fun x hx => by
    obtain ⟨z, hz, rfl⟩ := List.mem_map.1 hx
    obtain ⟨hz1, hz3⟩ := List.mem_filter.1 hz
    simp only [Bool.true_and, beq_iff_eq] at hz3
    obtain ⟨j, hj, rfl⟩ := List.mem_iff_getElem.1 hz1
    have hj2 : j < xs.length := by omega
    have h6 := fit j hj2
    rw [List.getElem_zip] at hz3 ⊢
    rw [getD_lt hj2, getD_lt (by omega)] at h6
    simp only at hz3 ⊢
    rw [← hz3] at h6
    rw [E_subL, E_mulL]
    have h7 := (h6.trans ((Cg.refl p _).mul (Cg.mod p (E f xs[j])))).sub (Cg.refl p (E f xs[j] * E e xs[j]))
    refine h7.trans (Cg.of_eq ?_)
    grind)
  have hpc : Pc p (E q) (fun x => E f x * E e x + E [] x) := by
    have h8 : Pc p (E q) (E (mulL f e)) := Pc.of_coef fun i => by
      have h9 := (getD_cg hz2 i).add (Cg.refl p ((mulL f e).getD i 0))
      rw [subL_getD] at h9
      refine (Cg.of_eq ?_).trans (h9.trans (Cg.of_eq ?_)) <;> omega
    exact h8.trans (Pc.of_eq fun x => by rw [E_mulL]; simp [E])
  exact DivS.unique hp heE hd ⟨hf.els, (fun x hx => by cases hx), hf.short, rfl, by simp [dg]; omega, hpc⟩
/-- The polynomial that is 0 at each of some places. -/
def zroL : List Int → List Int
  | [] => [1]
  | a :: l => mulL [-a, 1] (zroL l)
theorem zroL_len : ∀ l, (zroL l).length = l.length + 1
  | [] => rfl
  | a :: l => by
    have ih := zroL_len l
    have h : (mulL [-a, 1] (zroL l)).length = max (zroL l).length ((zroL l).length + 1) := by
      simp [mulL, addL_len, smulL_len]
      omega
    show (mulL [-a, 1] (zroL l)).length = _
    rw [h, ih, List.length_cons]; omega
theorem zroL_top : ∀ l, (zroL l).getD l.length 0 = 1
  | [] => rfl
  | a :: l => by
    have ih := zroL_top l
    show (mulL [-a, 1] (zroL l)).getD (l.length + 1) 0 = 1
    rw [Nat.add_comm, mulL_top [-a, 1] (zroL l) 1 l.length rfl (zroL_len l), ih]
    simp
theorem zroL_zero {a : Int} : ∀ l, a ∈ l → E (zroL l) a = 0
  | [], h => by simp at h
  | b :: l, h => by
    show E (mulL [-b, 1] (zroL l)) a = 0
    rw [E_mulL]
    rcases List.mem_cons.1 h with rfl | h
    · have h0 : E [-a, 1] a = 0 := by simp only [E]; grind
      rw [h0, Int.zero_mul]
    · rw [zroL_zero l h, Int.mul_zero]
/-- If there is a polynomial, the equations have a solution. -/
theorem bw_exists {p : Int} (hp : PrmI p) {k t : Nat} {xs ys f : List Int} {m : Nat → Nat → Int} (hl : xs.length = ys.length) (hf : OneB p k t xs ys f) (hy : Els p ys) (h : BwM p k t xs.length xs ys m) : ∃ v, Sol p (k + t + t) xs.length m v := by
  have hp1 : 1 ≤ p := by have := hp.1; omega
  have hfew := hf.few
  obtain ⟨Z, hZ⟩ : ∃ Z, mis p f xs ys ++ List.replicate (t - (mis p f xs ys).length) 0 = Z := ⟨_, rfl⟩
  have hZl : Z.length = t := by rw [← hZ, List.length_append, List.length_replicate]; omega
  refine ⟨fun c => if c < k + t then (mulL f (zroL Z)).getD c 0 else (zroL Z).getD (c - (k + t)) 0, (bw_fit h _).2 fun i hi => ?_⟩
  have hq : ∀ x, E (qL (fun c => if c < k + t then (mulL f (zroL Z)).getD c 0 else (zroL Z).getD (c - (k + t)) 0) k t) x = E f x * E (zroL Z) x := fun x => by
    rw [← E_mulL, E_sum x (mulL f (zroL Z)) (k + t) (by have := mulL_lenQ f (zroL Z) (by rw [zroL_len]; omega); rw [zroL_len, hZl] at this; have := hf.len; omega), E_sum x _ (k + t) (by rw [qL_len]; exact Nat.le_refl _)]
    have : ∀ n, n ≤ k + t → sumTo (fun c => (qL (fun c => if c < k + t then (mulL f (zroL Z)).getD c 0 else (zroL Z).getD (c - (k + t)) 0) k t).getD c 0 * x ^ c) n = sumTo (fun c => (mulL f (zroL Z)).getD c 0 * x ^ c) n := fun n => by
      induction n with
      | zero => intro _; rfl
      | succ n ih =>
        intro hn
        simp only [sumTo]
        rw [ih (by omega)]
        congr 2
        simp [qL, List.getD, show n < k + t by omega]
    exact this _ (Nat.le_refl _)
  have he : ∀ x, E (eL (fun c => if c < k + t then (mulL f (zroL Z)).getD c 0 else (zroL Z).getD (c - (k + t)) 0) k t) x = E (zroL Z) x := fun x => by
    congr 1
    refine List.ext_getElem (by rw [eL_len, zroL_len, hZl]) fun j h1 h2 => ?_
    rw [← getD_lt h1, ← getD_lt h2]
    rw [eL_len] at h1
    by_cases hj : j < t
    · rw [eL_lo _ _ hj]
      show (if k + t + j < k + t then _ else (zroL Z).getD (k + t + j - (k + t)) 0) = _
      rw [if_neg (by omega), show k + t + j - (k + t) = j by omega]
    · obtain rfl : j = t := by omega
      have := zroL_top Z
      rw [hZl] at this
      rw [this, eL_hi]
  rw [hq, he]
  by_cases hm : xs.getD i 0 ∈ mis p f xs ys
  · have h0 : E (zroL Z) (xs.getD i 0) = 0 := zroL_zero Z (by rw [← hZ]; exact List.mem_append_left _ hm)
    rw [h0]
    exact Cg.of_eq (by grind)
  · have hv : E f (xs.getD i 0) % p = ys.getD i 0 := by
      apply Classical.byContradiction
      intro hne
      refine hm (List.mem_map.2 ⟨(xs.getD i 0, ys.getD i 0), List.mem_filter.2 ⟨?_, by simpa using hne⟩, rfl⟩)
      rw [getD_lt hi, getD_lt (by omega)]
      refine List.mem_iff_getElem.2 ⟨i, by rw [List.length_zip]; omega, by rw [List.getElem_zip]⟩
    have h1 : Cg p (E f (xs.getD i 0)) (ys.getD i 0) := by
      rw [← hv]; exact (Cg.mod p _).symm
    refine (h1.mul (Cg.refl p _)).trans (Cg.of_eq ?_)
    grind
end Go.Proofs.YtpgbjnenllfmlaaGreatDoor.Num
