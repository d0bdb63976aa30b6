
/- Plain mathematics of division: steps, the invariant, uniqueness; nothing of the program. -/
import Derived.Test.YtpgbjnenllfmlaaGreatDoorNum
namespace Go.Proofs.YtpgbjnenllfmlaaGreatDoor.Num

/-- Quotient and remainder. -/
structure DivS (p : Int) (a b q r : List Int) : Prop where
  elQ : Els p q
  elR : Els p r
  shQ : sh q = q
  shR : sh r = r
  deg : dg r < dg b
  pc : Pc p (E a) (fun x => E q x * E b x + E r x)

theorem append_getD (a b : List Int) (i : Nat) : (a ++ b).getD (a.length + i) 0 = b.getD i 0 := by
  simp only [List.getD]; rw [List.getElem?_append_right (by omega)]; congr 2; omega
theorem append_getD_lt {a b : List Int} {i : Nat} (h : i < a.length) : (a ++ b).getD i 0 = a.getD i 0 := by
  simp only [List.getD]; rw [List.getElem?_append_left h]
/-- A multiple of b with no coefficient from b's degree on is 0. -/
theorem div_zero {p : Int} (hp : PrmI p) {b : List Int} {n : Nat} (hb : b.length = n + 1) (hl : ¬ Cg p (b.getD n 0) 0) : ∀ (k : Nat) (d e : List Int), d.length = k → Pc p (fun x => E d x * E b x) (E e) → (∀ i, n ≤ i → Cg p (e.getD i 0) 0) → ∀ c ∈ d, Cg p c 0
  | 0, d, e, h, _, _ => by obtain rfl := List.length_eq_zero_iff.1 h; simp
  | k + 1, d, e, h, hpc, he => by
    rcases List.eq_nil_or_concat d with rfl | ⟨d', t, rfl⟩
    · simp at h
    · rw [List.concat_eq_append] at h hpc ⊢
      have hk : d'.length = k := by simpa using h
      have hE : ∀ x, E (d' ++ [t]) x * E b x = E (addL (mulL d' b) (List.replicate k 0 ++ smulL t b)) x := fun x => by
        rw [E_addL, E_mulL, E_append, E_append, E_zeros, E_smulL, List.length_replicate, hk]
        simp only [E]; grind
      have hc := ((Pc.of_eq (p := p) hE).symm.trans hpc).coef (k + n)
      rw [addL_getD, getD_ge (l := mulL d' b) (by have := mulL_length d' b (by omega); omega)] at hc
      have h1 : (List.replicate k 0 ++ smulL t b).getD (k + n) 0 = t * b.getD n 0 := by
        have := append_getD (List.replicate k 0) (smulL t b) n
        rw [List.length_replicate] at this
        rw [this, smulL_getD]
      rw [h1, Int.zero_add] at hc
      have ht : Cg p t 0 := by
        have h2 := hc.trans (he (k + n) (by omega))
        rw [Int.mul_comm] at h2
        exact Cg.factor hp hl h2
      have hpc' : Pc p (fun x => E d' x * E b x) (E e) := by
        obtain ⟨j, hj⟩ := ht
        rw [Int.zero_add] at hj
        refine Pc.trans ?_ hpc
        refine ⟨smulL (-j) (List.replicate k 0 ++ b), fun x => ?_⟩
        show E d' x * E b x = E (d' ++ [t]) x * E b x + p * _
        rw [E_smulL, E_append, E_append, E_zeros, List.length_replicate, hk, hj]
        simp only [E]; grind
      intro c hc
      rcases List.mem_append.1 hc with h3 | h3
      · exact div_zero hp hb hl k d' e hk hpc' he c h3
      · rw [List.mem_singleton.1 h3]; exact ht
where
  mulL_length : ∀ (a b : List Int), 0 < b.length → (mulL a b).length ≤ a.length + b.length - 1
    | [], b, _ => by simp [mulL]
    | c :: a, b, h => by
      have ih := mulL_length a b h
      simp only [mulL, addL_len, smulL_len, List.length_cons]; omega
theorem DivS.unique {p : Int} (hp : PrmI p) {a b q r q' r' : List Int} (hb : Els p b) (h : DivS p a b q r) (h' : DivS p a b q' r') : q = q' ∧ r = r' := by
  have hp1 : 1 ≤ p := by have := hp.1; omega
  obtain ⟨n, hn⟩ : ∃ n, dg b = n + 1 := ⟨dg b - 1, by have := h.deg; omega⟩
  have hl : ¬ Cg p ((sh b).getD n 0) 0 := fun hc => by
    rw [sh_getD] at hc
    exact dg_top b n hn (hc.el (els_getD hp1 hb n) (el_zero hp1))
  have hd : ∀ c ∈ subL q q', Cg p c 0 := by
    refine div_zero hp (b := sh b) (n := n) (by rw [sh_len, hn]) hl _ (subL q q') (subL r' r) rfl ?_ fun i hi => ?_
    · have h1 := (h.pc.symm.trans h'.pc)
      obtain ⟨t, ht⟩ := h1
      refine ⟨t, fun x => ?_⟩
      have := ht x
      show E (subL q q') x * E (sh b) x = E (subL r' r) x + p * E t x
      rw [E_subL, E_subL, E_sh]
      have h2 : E q x * E b x + E r x = E q' x * E b x + E r' x + p * E t x := this
      grind
    · rw [subL_getD, dg_zero r i (by have := h.deg; omega), dg_zero r' i (by have := h'.deg; omega)]
      exact Cg.refl p 0
  have hq : q = q' := by
    rw [← h.shQ, ← h'.shQ]
    refine sh_cg hp1 h.elQ h'.elQ fun i => ?_
    have := getD_cg hd i
    rw [subL_getD] at this
    have h2 := this.add (Cg.refl p (q'.getD i 0))
    have e : q.getD i 0 - q'.getD i 0 + q'.getD i 0 = q.getD i 0 := by omega
    rw [e, Int.zero_add] at h2; exact h2
  refine ⟨hq, ?_⟩
  subst hq
  rw [← h.shR, ← h'.shR]
  refine sh_cg hp1 h.elR h'.elR fun i => Pc.coef (a := r) (b := r') ?_ i
  obtain ⟨t, ht⟩ := h.pc.symm.trans h'.pc
  refine ⟨t, fun x => ?_⟩
  have h2 : E q x * E b x + E r x = E q x * E b x + E r' x + p * E t x := ht x
  omega

/-! ### One step of division -/
def subN (p : Int) (b : List Int) (q : Int) (k : Nat) (rs : List Int) : Nat → List Int
  | 0 => rs
  | i + 1 => (subN p b q k rs i).set (k + i) (subF p ((subN p b q k rs i).getD (k + i) 0) (mulF p q (b.getD i 0)))
theorem subN_len (p : Int) (b : List Int) (q : Int) (k : Nat) (rs : List Int) : ∀ i, (subN p b q k rs i).length = rs.length
  | 0 => rfl
  | i + 1 => by rw [subN, List.length_set, subN_len p b q k rs i]
theorem els_set' {p v : Int} {l : List Int} (h : Els p l) (hv : El p v) (i : Nat) : Els p (l.set i v) := fun x hx => by
  rcases List.mem_or_eq_of_mem_set hx with h1 | h1
  · exact h x h1
  · subst h1; exact hv
theorem subN_els {p : Int} (hp : 1 ≤ p) {b : List Int} {q : Int} {k : Nat} {rs : List Int} (h : Els p rs) : ∀ i, Els p (subN p b q k rs i)
  | 0 => h
  | i + 1 => els_set' (subN_els hp h i) (el_sub hp _ _) _
theorem getD_set' (l : List Int) (i j : Nat) (v : Int) : (l.set i v).getD j 0 = if j = i ∧ i < l.length then v else l.getD j 0 := by
  by_cases e : j = i
  · subst e
    by_cases h : j < l.length
    · simp [List.getD, h]
    · simp [List.getD, h]
  · simp [List.getD, e, List.getElem?_set_ne (Ne.symm e)]
theorem subN_pc {p : Int} (b : List Int) (q : Int) (k : Nat) (rs : List Int) : ∀ i, k + i ≤ rs.length → Pc p (E (subN p b q k rs i)) (fun x => E rs x - x ^ k * q * E (b.take i) x)
  | 0, _ => Pc.of_eq fun x => by simp [subN, E]
  | i + 1, h => by
    have ih := subN_pc (p := p) b q k rs i (by omega)
    have hj : k + i < (subN p b q k rs i).length := by rw [subN_len]; omega
    have h1 : Cg p (subF p ((subN p b q k rs i).getD (k + i) 0) (mulF p q (b.getD i 0))) ((subN p b q k rs i).getD (k + i) 0 - q * b.getD i 0) := (Cg.subF p _ _).trans ((Cg.refl p _).sub (Cg.mulF p _ _))
    have h2 := Pc.set _ (k + i) _ _ hj h1
    refine h2.trans ((ih.add (Pc.refl p (fun x => x ^ (k + i) * ((subN p b q k rs i).getD (k + i) 0 - q * b.getD i 0 - (subN p b q k rs i).getD (k + i) 0)))).trans (Pc.of_eq fun x => ?_))
    rw [E_take_succ, Int.pow_add]
    grind
theorem subN_above (p : Int) (b : List Int) (q : Int) (k : Nat) (rs : List Int) (j : Nat) : ∀ i, k + i ≤ j → (subN p b q k rs i).getD j 0 = rs.getD j 0
  | 0, _ => rfl
  | i + 1, h => by
    rw [subN, getD_set', if_neg (by omega)]; exact subN_above p b q k rs j i (by omega)
def stepD (p : Int) (b : List Int) (n : Nat) (inv : Int) (s : List Int × List Int) (k : Nat) : List Int × List Int :=
  (subN p b (mulF p (s.1.getD (k + n) 0) inv) k s.1 (n + 1), s.2.set k (mulF p (s.1.getD (k + n) 0) inv))
/-- What each step keeps. -/
structure DvI (p : Int) (a b : List Int) (n L r : Nat) (s : List Int × List Int) : Prop where
  el1 : Els p s.1
  el2 : Els p s.2
  len1 : s.1.length = a.length
  len2 : s.2.length = L
  pc : Pc p (E a) (fun x => E s.2 x * E b x + E s.1 x)
  top : ∀ j, r + n ≤ j → s.1.getD j 0 = 0
  low : ∀ j, j < r → s.2.getD j 0 = 0
theorem dvI_step {p : Int} (hp : PrmI p) {a b : List Int} {n L k : Nat} {s : List Int × List Int} (hb : Els p b) (hn : dg b = n + 1) (hk : k < L) (hkn : k + n < a.length) (h : DvI p a b n L (k + 1) s) :
    DvI p a b n L k (stepD p b n (iv0 p (b.getD n 0)) s k) := by
  have hp1 : 1 ≤ p := by have := hp.1; omega
  have hq := el_mul hp1 (s.1.getD (k + n) 0) (iv0 p (b.getD n 0))
  refine ⟨subN_els hp1 h.el1 _, els_set' h.el2 hq _, by rw [stepD, subN_len]; exact h.len1, by rw [stepD, List.length_set]; exact h.len2, ?_, fun j hj => ?_, fun j hj => ?_⟩
  · have h1 := subN_pc (p := p) b (mulF p (s.1.getD (k + n) 0) (iv0 p (b.getD n 0))) k s.1 (n + 1) (by rw [h.len1]; omega)
    have h2 := Pc.set (p := p) s.2 k (mulF p (s.1.getD (k + n) 0) (iv0 p (b.getD n 0))) _ (by rw [h.len2]; exact hk) (Cg.refl p _)
    have h3 : ∀ x, E (b.take (n + 1)) x = E b x := fun x => by rw [← hn]; exact E_sh b x
    refine h.pc.trans (Pc.symm ?_)
    refine ((h2.mul b).add h1).trans (Pc.of_eq fun x => ?_)
    rw [h3, h.low k (by omega)]
    grind
  · show (subN p b _ k s.1 (n + 1)).getD j 0 = 0
    by_cases e : j = k + n
    · subst e
      rw [subN, getD_set', if_pos ⟨rfl, by rw [subN_len, h.len1]; exact hkn⟩, subN_above _ _ _ _ _ _ _ (Nat.le_refl _)]
      refine (Cg.subF p _ _).trans (Cg.trans ?_ (Cg.refl p 0)) |>.el (el_sub hp1 _ _) (el_zero hp1)
      have hne : ¬ Cg p (b.getD n 0) 0 := fun hc => dg_top b n hn (hc.el (els_getD hp1 hb n) (el_zero hp1))
      have hin := cg_iv0 hp hne
      have hbe := els_getD hp1 hb n
      rw [Int.emod_eq_of_lt hbe.1 hbe.2] at hin
      have h1 := (Cg.mulF p (mulF p (s.1.getD (k + n) 0) (iv0 p (b.getD n 0))) (b.getD n 0)).trans ((Cg.mulF p (s.1.getD (k + n) 0) (iv0 p (b.getD n 0))).mul (Cg.refl p (b.getD n 0)))
      have h2 := (Cg.refl p (s.1.getD (k + n) 0)).mul hin
      have h3 : Cg p (s.1.getD (k + n) 0 * iv0 p (b.getD n 0) * b.getD n 0) (s.1.getD (k + n) 0) := (Cg.of_eq (by grind)).trans (h2.trans (Cg.of_eq (by omega)))
      exact ((Cg.refl p _).sub (h1.trans h3)).trans (Cg.of_eq (by omega))
    · rw [subN_above _ _ _ _ _ _ _ (by omega)]; exact h.top j (by omega)
  · show (s.2.set k _).getD j 0 = 0
    rw [getD_set', if_neg (by omega)]; exact h.low j (by omega)
theorem divS_of {p : Int} {a b : List Int} {n L : Nat} {s : List Int × List Int} (hn : dg b = n + 1) (h : DvI p a b n L 0 s) : DivS p a b (sh s.2) (sh s.1) :=
  ⟨sh_els h.el2, sh_els h.el1, sh_sh _, sh_sh _, by
    rw [dg_sh, hn]
    have : dg s.1 ≤ n := by
      by_cases e : dg s.1 ≤ n
      · exact e
      · exact absurd (h.top (dg s.1 - 1) (by omega)) (dg_top s.1 (dg s.1 - 1) (by omega))
    omega, h.pc.trans (Pc.of_eq fun x => by rw [E_sh, E_sh])⟩
/-- A step at which there is nothing to take away. -/
theorem dvI_skip {p : Int} {a b : List Int} {n L r k : Nat} {s : List Int × List Int} (hk : k ≤ r) (h : DvI p a b n L r s) (hz : ∀ j, k + n ≤ j → s.1.getD j 0 = 0) : DvI p a b n L k s :=
  ⟨h.el1, h.el2, h.len1, h.len2, h.pc, hz, fun j hj => h.low j (by omega)⟩
theorem dvI_start {p : Int} (hp : 1 ≤ p) {a b : List Int} {n L : Nat} (ha : Els p a) (hL : a.length ≤ L + n) : DvI p a b n L L (a, List.replicate L 0) :=
  ⟨ha, fun x hx => by rw [(List.mem_replicate.1 hx).2]; exact el_zero hp, rfl, by simp, Pc.of_eq fun x => by show E a x = E (List.replicate L 0) x * E b x + E a x; rw [E_zeros]; omega, fun j hj => getD_ge (by show a.length ≤ j; omega), fun j hj => by simp [List.getD, hj]⟩
/-- All steps, from the last place down. -/
def runD (p : Int) (b : List Int) (n : Nat) (inv : Int) (s : List Int × List Int) (ks : List Nat) : List Int × List Int := ks.foldl (stepD p b n inv) s
theorem runD_snoc (p : Int) (b : List Int) (n : Nat) (inv : Int) (s : List Int × List Int) (ks : List Nat) (k : Nat) : runD p b n inv s (ks ++ [k]) = stepD p b n inv (runD p b n inv s ks) k := by simp [runD]
end Go.Proofs.YtpgbjnenllfmlaaGreatDoor.Num
