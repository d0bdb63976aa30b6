
/- Plain mathematics of correction: the polynomial that has most of the points is the only one, and how Euclid's way finds it; nothing of the program. -/
import Derived.Test.YtdidplpbkfkdeaaGreatDoorDv
namespace Go.Proofs.YtdidplpbkfkdeaaGreatDoor.Num
set_option linter.unusedVariables false

theorem not_cg_zero {p a : Int} (ha : El p a) (h : a ≠ 0) : ¬ Cg p a 0 := fun hc => h (hc.el ha ⟨Int.le_refl 0, by have := ha.1; have := ha.2; omega⟩)
theorem cg_coef {p : Int} {a b : List Int} (h : ∀ i, Cg p (a.getD i 0) (b.getD i 0)) (x : Int) : Cg p (E a x) (E b x) := by
  have h1 : ∀ c ∈ subL a b, Cg p c 0 := fun c hc => by
    obtain ⟨i, hi, rfl⟩ := List.mem_iff_getElem.1 hc
    have := (h i).sub (Cg.refl p (b.getD i 0))
    rw [← subL_getD, getD_lt hi] at this
    simpa using this
  have h2 := (E_zero_of h1 x).add (Cg.refl p (E b x))
  rw [E_subL] at h2
  have e : E a x - E b x + E b x = E a x := by omega
  rw [e, Int.zero_add] at h2; exact h2
/-- Coefficients that are all multiples of p. -/
theorem pc_zeros {p : Int} : ∀ l : List Int, (∀ c ∈ l, Cg p c 0) → Pc p (E l) (fun _ => 0)
  | [], _ => ⟨[], fun x => by simp [E]⟩
  | c :: l, h => by
    obtain ⟨t, ht⟩ := pc_zeros l (fun d hd => h d (by simp [hd]))
    obtain ⟨k, hk⟩ := h c (by simp)
    refine ⟨k :: t, fun x => ?_⟩
    have := ht x
    simp only [E] at *
    rw [this, hk]; grind
theorem Pc.of_coef {p : Int} {a b : List Int} (h : ∀ i, Cg p (a.getD i 0) (b.getD i 0)) : Pc p (E a) (E b) := by
  obtain ⟨t, ht⟩ := pc_zeros (subL a b) (fun c hc => by
    obtain ⟨i, hi, rfl⟩ := List.mem_iff_getElem.1 hc
    have := (h i).sub (Cg.refl p (b.getD i 0))
    rw [← subL_getD, getD_lt hi] at this
    simpa using this)
  refine ⟨t, fun x => ?_⟩
  have h1 : E a x - E b x = 0 + p * E t x := by rw [← E_subL]; exact ht x
  omega
theorem mulL_lenQ : ∀ (a b : List Int), 0 < b.length → (mulL a b).length ≤ a.length + b.length - 1
  | [], b, _ => by simp [mulL]
  | c :: a, b, h => by
    have ih := mulL_lenQ a b h
    simp only [mulL, addL_len, smulL_len, List.length_cons]; omega
theorem mulL_top : ∀ (a b : List Int) (s t : Nat), a.length = s + 1 → b.length = t + 1 → (mulL a b).getD (s + t) 0 = a.getD s 0 * b.getD t 0
  | [], _, _, _, h, _ => by simp at h
  | [c], b, s, t, h, hb => by
    obtain rfl : s = 0 := by simpa using h.symm
    simp only [mulL, addL_getD, smulL_getD, Nat.zero_add]
    cases t with
    | zero => simp
    | succ t => simp
  | c :: d :: a, b, s, t, h, hb => by
    cases s with
    | zero => simp at h
    | succ s =>
      have ih := mulL_top (d :: a) b s t (by simpa using h) hb
      have e : mulL (c :: d :: a) b = addL (smulL c b) (0 :: mulL (d :: a) b) := rfl
      rw [e, addL_getD, smulL_getD, getD_ge (l := b) (by omega), show s + 1 + t = s + t + 1 by omega, List.getD_cons_succ, ih, List.getD_cons_succ]
      omega
/-- The degree of what is a product, and a rest of less degree. -/
theorem dg_of_pc {p : Int} (hp : PrmI p) {z a b r : List Int} {s t : Nat} (hz : Els p z) (ha : Els p a) (hb : Els p b) (hda : dg a = s + 1) (hdb : dg b = t + 1) (hr : dg r ≤ t) (h : Pc p (E z) (fun x => E a x * E b x + E r x)) : dg z = s + t + 1 := by
  have hp1 : 1 ≤ p := by have := hp.1; omega
  have hc : ∀ i, Cg p (z.getD i 0) ((mulL (sh a) (sh b)).getD i 0 + r.getD i 0) := fun i => by
    rw [← addL_getD]
    refine Pc.coef (h.trans (Pc.of_eq fun x => ?_)) i
    show _ = E (addL (mulL (sh a) (sh b)) r) x
    rw [E_addL, E_mulL, E_sh, E_sh]
  have hla : (sh a).length = s + 1 := by rw [sh_len, hda]
  have hlb : (sh b).length = t + 1 := by rw [sh_len, hdb]
  refine dg_eq (fun i hi => ?_) (.inr ?_)
  · have h1 := hc i
    rw [getD_ge (l := mulL (sh a) (sh b)) (by have := mulL_lenQ (sh a) (sh b) (by omega); omega), dg_zero r i (by omega)] at h1
    exact h1.el (els_getD hp1 hz i) (el_zero hp1)
  · have h1 := hc (s + t)
    rw [mulL_top _ _ s t hla hlb, dg_zero r (s + t) (by omega), sh_getD, sh_getD, Int.add_zero] at h1
    intro e
    rw [show s + t + 1 - 1 = s + t by omega] at e
    rw [e] at h1
    have h2 := Cg.factor hp (not_cg_zero (els_getD hp1 ha s) (dg_top a s hda)) h1.symm
    exact not_cg_zero (els_getD hp1 hb t) (dg_top b t hdb) h2

/-! ### The points that a polynomial has -/
def mis (p : Int) (f xs ys : List Int) : List Int := ((xs.zip ys).filter fun z => !(E f z.1 % p == z.2)).map (·.1)
/-- One polynomial: short, of degree less than k, that has all points but t. -/
structure OneB (p : Int) (k t : Nat) (xs ys f : List Int) : Prop where
  els : Els p f
  short : sh f = f
  len : f.length ≤ k
  few : (mis p f xs ys).length ≤ t
theorem zip_fst {xs ys : List Int} (h : xs.length = ys.length) : (xs.zip ys).map (·.1) = xs := by
  rw [← List.unzip_fst, List.unzip_zip_left (by omega)]
theorem both_len {α : Type} (P Q : α → Bool) : ∀ Z : List α, Z.length ≤ (Z.filter fun z => P z && Q z).length + (Z.filter fun z => !P z).length + (Z.filter fun z => !Q z).length
  | [] => by simp
  | z :: Z => by
    have ih := both_len P Q Z
    simp only [List.filter_cons, List.length_cons]
    cases P z <;> cases Q z <;> simp <;> omega
theorem mis_len (p : Int) (f xs ys : List Int) : (mis p f xs ys).length = ((xs.zip ys).filter fun z => !(E f z.1 % p == z.2)).length := by unfold mis; rw [List.length_map]
theorem filter_fst_nodup {xs ys : List Int} (h : xs.length = ys.length) (hn : xs.Nodup) (P : Int × Int → Bool) : (((xs.zip ys).filter P).map (·.1)).Nodup := by
  have h1 : ((xs.zip ys).map (·.1)).Nodup := by rw [zip_fst h]; exact hn
  exact List.Nodup.sublist (List.filter_sublist.map _) h1
theorem filter_fst_els {p : Int} {xs ys : List Int} (h : xs.length = ys.length) (he : Els p xs) (P : Int × Int → Bool) : Els p (((xs.zip ys).filter P).map (·.1)) := fun x hx => by
  obtain ⟨z, hz, rfl⟩ := List.mem_map.1 hx
  have := List.mem_filter.1 hz
  exact he _ (List.of_mem_zip (a := z.1) (b := z.2) (by simpa using this.1)).1
theorem one_unique {p : Int} (hp : PrmI p) {k t : Nat} {xs ys f g : List Int} (hl : xs.length = ys.length) (hn : xs.Nodup) (he : Els p xs) (hk : k + 2 * t ≤ xs.length) (hf : OneB p k t xs ys f) (hg : OneB p k t xs ys g) : f = g := by
  rw [← hf.short, ← hg.short]
  have h1 := both_len (fun z : Int × Int => E f z.1 % p == z.2) (fun z => E g z.1 % p == z.2) (xs.zip ys)
  have h2 := hf.few
  have h3 := hg.few
  rw [mis_len] at h2 h3
  have hz : (xs.zip ys).length = xs.length := by rw [List.length_zip]; omega
  have h4 : k ≤ (((xs.zip ys).filter fun z => (E f z.1 % p == z.2) && (E g z.1 % p == z.2)).map (·.1)).length := by rw [List.length_map]; omega
  refine sh_cg (by have := hp.1; omega) hf.els hg.els fun i => unique_coef hp (Nat.le_trans hf.len h4) (Nat.le_trans hg.len h4) (filter_fst_nodup hl hn _) (filter_fst_els hl he _) (fun x hx => ?_) i
  obtain ⟨z, hz, rfl⟩ := List.mem_map.1 hx
  have h5 := (List.mem_filter.1 hz).2
  simp only [Bool.and_eq_true, beq_iff_eq] at h5
  exact Cg.of_mod (by rw [h5.1, h5.2])

/-! ### Euclid's way -/
/-- The difference of two lists, place by place. -/
def minL (p : Int) (a b : List Int) : List Int := (List.range b.length).map fun i => ((p - b.getD i 0) % p + a.getD i 0) % p
theorem minL_len (p : Int) (a b : List Int) : (minL p a b).length = b.length := by simp [minL]
theorem minL_getD (p : Int) (a b : List Int) {i : Nat} (h : i < b.length) : (minL p a b).getD i 0 = ((p - b.getD i 0) % p + a.getD i 0) % p := by simp [minL, List.getD, h]
theorem minL_els {p : Int} (hp : 1 ≤ p) (a b : List Int) : Els p (minL p a b) := fun x hx => by
  obtain ⟨i, _, rfl⟩ := List.mem_map.1 hx
  exact el_mod hp _
theorem minL_cg {p : Int} {a b : List Int} (h : a.length ≤ b.length) (x : Int) : Cg p (E (minL p a b) x) (E a x - E b x) := by
  rw [← E_subL]
  refine cg_coef (fun i => ?_) x
  rw [subL_getD]
  by_cases hi : i < b.length
  · rw [minL_getD p a b hi]
    have h1 : Cg p (p - b.getD i 0) (0 - b.getD i 0) := ⟨1, by omega⟩
    refine (Cg.mod p _).trans ((((Cg.mod p _).trans h1).add (Cg.refl p _)).trans (Cg.of_eq (by omega)))
  · rw [getD_ge (by rw [minL_len]; omega), getD_ge (l := a) (by omega), getD_ge (l := b) (by omega)]
    exact Cg.of_eq (by omega)
structure Gao (p : Int) (n k : Nat) (xs ys B R U V : List Int) : Prop where
  elB : Els p B
  elR : Els p R
  elU : Els p U
  elV : Els p V
  shR : sh R = R
  lenV : dg V = V.length
  posV : 0 < V.length
  uv : U.length < V.length
  sum : V.length + dg B = n + 2
  rb : dg R < dg B
  big : n + k + 2 ≤ 2 * dg B
  fitR : ∀ j, j < n → Cg p (E R (xs.getD j 0)) (E V (xs.getD j 0) * ys.getD j 0)
  fitB : ∀ j, j < n → Cg p (E B (xs.getD j 0)) (E U (xs.getD j 0) * ys.getD j 0)
theorem gao_start {p : Int} (hp : PrmI p) {k : Nat} {xs ys Z R : List Int} (hk : k ≤ xs.length) (hR : Thru p xs ys R) (hz : Els p Z) (hd : dg Z = xs.length + 1) (h0 : ∀ j, j < xs.length → Cg p (E Z (xs.getD j 0)) 0) : Gao p xs.length k xs ys Z R [] [1] := by
  have hp2 := hp.1
  refine ⟨hz, hR.els, (fun x hx => by cases hx), (fun x hx => by simp at hx; subst hx; exact ⟨by omega, by omega⟩), hR.short, rfl, by simp, by simp, by simp; omega, ?_, by omega, fun j hj => ?_, fun j hj => ?_⟩
  · have h1 := hR.len
    rw [← hR.short, sh_len] at h1
    omega
  · have h1 := hR.fit j hj
    have e : E [1] (xs.getD j 0) * ys.getD j 0 = ys.getD j 0 := by simp [E]
    rw [e]; exact h1
  · have e : E [] (xs.getD j 0) * ys.getD j 0 = 0 := by simp [E]
    rw [e]; exact h0 j hj
theorem gao_step {p : Int} (hp : PrmI p) {n k : Nat} {xs ys B R U V q r z : List Int} (h : Gao p n k xs ys B R U V) (hloop : n + k + 2 ≤ 2 * dg R) (hd : DivS p B R q r) (hze : Els p z) (hzs : sh z = z) (hz : Pc p (E z) (fun x => E q x * E V x)) :
    Gao p n k xs ys R r V (minL p U z) ∧ U.length ≤ z.length ∧ z.length ≤ n + 2 := by
  have hp1 : 1 ≤ p := by have := hp.1; omega
  obtain ⟨t, ht⟩ : ∃ t, dg R = t + 1 := ⟨dg R - 1, by omega⟩
  have hq : dg q ≠ 0 := fun e => by
    have hq0 : q = [] := List.length_eq_zero_iff.1 (by rw [← hd.shQ, sh_len]; exact e)
    have h1 : Pc p (E B) (E r) := hd.pc.trans (Pc.of_eq fun x => by rw [hq0]; simp [E])
    have h2 : dg B = dg r := dg_congr fun i => (h1.coef i).el (els_getD hp1 h.elB i) (els_getD hp1 hd.elR i)
    have := hd.deg
    have := h.rb
    omega
  obtain ⟨s, hs⟩ : ∃ s, dg q = s + 1 := ⟨dg q - 1, by omega⟩
  have hB := dg_of_pc hp h.elB hd.elQ h.elR hs ht (by have := hd.deg; omega) hd.pc
  obtain ⟨v, hv⟩ : ∃ v, V.length = v + 1 := ⟨V.length - 1, by have := h.posV; omega⟩
  have hzd := dg_of_pc (r := []) hp hze hd.elQ h.elV hs (by rw [h.lenV, hv]) (by simp [dg]) (hz.trans (Pc.of_eq fun x => by simp [E]))
  have hzl : z.length = s + v + 1 := by rw [← hzs, sh_len, hzd]
  have hrb := h.rb
  have hsum := h.sum
  have huv := h.uv
  have hUz : U.length ≤ z.length := by omega
  refine ⟨⟨h.elR, hd.elR, h.elV, minL_els hp1 _ _, hd.shR, ?_, by rw [minL_len]; omega, by rw [minL_len]; omega, by rw [minL_len]; omega, hd.deg, hloop, fun j hj => ?_, h.fitR⟩, hUz, by omega⟩
  · rw [minL_len]
    refine dg_eq (fun i hi => getD_ge (by rw [minL_len]; exact hi)) (.inr ?_)
    rw [minL_getD p U z (by omega), getD_ge (l := U) (by omega)]
    have h1 := els_getD hp1 hze (z.length - 1)
    have h2 := dg_top z (s + v) (by rw [hzd])
    have h3 : z.length - 1 = s + v := by omega
    rw [h3] at h1 ⊢
    have h4 := h1.1
    have h5 := h1.2
    rw [Int.add_zero, Int.emod_emod_of_dvd _ (Int.dvd_refl p), Int.emod_eq_of_lt (by omega) (by omega)]
    omega
  · have h1 := h.fitB j hj
    have h2 := h.fitR j hj
    generalize xs.getD j 0 = x at h1 h2 ⊢
    generalize ys.getD j 0 = y at h1 h2 ⊢
    have h3 := hd.pc.cg x
    have h4 := hz.cg x
    have h5 := minL_cg (p := p) hUz x
    have h6 : Cg p (E r x) (E U x * y - E q x * (E V x * y)) := by
      have h7 := (h3.symm.trans h1).sub ((Cg.refl p (E q x)).mul h2)
      refine (Cg.of_eq ?_).trans h7
      omega
    refine h6.trans (Cg.symm ?_)
    refine (((h5.trans ((Cg.refl p (E U x)).sub h4)).mul (Cg.refl p y))).trans (Cg.of_eq ?_)
    grind
theorem gao_end {p : Int} (hp : PrmI p) {k t : Nat} {xs ys B R U V f q r : List Int} (hl : xs.length = ys.length) (hn : xs.Nodup) (he : Els p xs) (h : Gao p xs.length k xs ys B R U V) (hstop : 2 * dg R < xs.length + k + 2) (hf : OneB p k t xs ys f) (ht : k + 2 * t ≤ xs.length) (hk : 1 ≤ k) (hd : DivS p R V q r) : q = f := by
  have h1 := h.big
  have h2 := h.sum
  have hz : (xs.zip ys).length = xs.length := by rw [List.length_zip]; omega
  have h3 := both_len (fun _ : Int × Int => true) (fun z : Int × Int => E f z.1 % p == z.2) (xs.zip ys)
  have h4 := hf.few
  rw [mis_len] at h4
  have h5 : (((xs.zip ys).filter fun z : Int × Int => true && (E f z.1 % p == z.2)).map (·.1)).length + t ≥ xs.length := by
    rw [List.length_map]
    have h6 : ((xs.zip ys).filter fun _ : Int × Int => !true).length = 0 := by simp
    omega
  have hR : R.length = dg R := by rw [← h.shR, sh_len, h.shR]
  have hz2 := roots hp (((xs.zip ys).filter fun z : Int × Int => true && (E f z.1 % p == z.2)).map fun z : Int × Int => z.1) (subL R (mulL f V)) (by
    have := mulL_lenQ f V h.posV
    have := hf.len
    have := h.posV
    rw [subL_len]
    omega) (filter_fst_nodup hl hn _) (filter_fst_els hl he _) (fun x hx => by
    obtain ⟨z, hz, rfl⟩ := List.mem_map.1 hx
    obtain ⟨hz1, hz3⟩ := List.mem_filter.1 hz
    simp only [Bool.true_and, beq_iff_eq] at hz3
    obtain ⟨j, hj, rfl⟩ := List.mem_iff_getElem.1 hz1
    have hj2 : j < xs.length := by omega
    have h6 := h.fitR j hj2
    rw [List.getElem_zip] at hz3 ⊢
    rw [getD_lt hj2, getD_lt (by omega)] at h6
    simp only at hz3 ⊢
    rw [← hz3] at h6
    rw [E_subL, E_mulL]
    have h7 := (h6.trans ((Cg.refl p _).mul (Cg.mod p (E f xs[j])))).sub (Cg.refl p (E f xs[j] * E V xs[j]))
    refine h7.trans (Cg.of_eq ?_)
    grind)
  have hpc : Pc p (E R) (fun x => E f x * E V x + E [] x) := by
    have h8 : Pc p (E R) (E (mulL f V)) := Pc.of_coef fun i => by
      have h9 := (getD_cg hz2 i).add (Cg.refl p ((mulL f V).getD i 0))
      rw [subL_getD] at h9
      refine (Cg.of_eq ?_).trans (h9.trans (Cg.of_eq ?_)) <;> omega
    exact h8.trans (Pc.of_eq fun x => by rw [E_mulL]; simp [E])
  exact (DivS.unique hp h.elV hd ⟨hf.els, (fun x hx => by cases hx), hf.short, rfl, by have := h.posV; have := h.lenV; simp [dg]; omega, hpc⟩).1

/-! ### What One gives -/
open Classical in
/-- The error of the arguments, or none. -/
noncomputable def oneC (p need lies : Int) (xs ys : List Int) : Int :=
  if vB p = true ∧ 1 ≤ need ∧ 0 ≤ lies ∧ xs.length = ys.length ∧ xs.length ≤ 16 ∧ Els p xs ∧ Els p ys ∧ xs.Nodup then (if (xs.length : Int) < need + 2 * lies then 5 else 0) else 1
/-- What is found. -/
structure OneR (p : Int) (k t : Nat) (xs ys f : List Int) (c : Int) : Prop where
  ok : c = 0 → OneB p k t xs ys f
  no : c ≠ 0 → f = [] ∧ ∀ g, ¬ OneB p k t xs ys g
theorem OneR.unique {p : Int} (hp : PrmI p) {k t : Nat} {xs ys f g : List Int} {c d : Int} (hc : c = 0 ∨ c = 9) (hd : d = 0 ∨ d = 9) (hl : xs.length = ys.length) (hn : xs.Nodup) (he : Els p xs) (hk : k + 2 * t ≤ xs.length) (hf : OneR p k t xs ys f c) (hg : OneR p k t xs ys g d) : f = g ∧ c = d := by
  rcases hc with rfl | rfl <;> rcases hd with rfl | rfl
  · exact ⟨one_unique hp hl hn he hk (hf.ok rfl) (hg.ok rfl), rfl⟩
  · exact absurd (hf.ok rfl) ((hg.no (by omega)).2 f)
  · exact absurd (hg.ok rfl) ((hf.no (by omega)).2 g)
  · exact ⟨by rw [(hf.no (by omega)).1, (hg.no (by omega)).1], rfl⟩
end Go.Proofs.YtdidplpbkfkdeaaGreatDoor.Num
