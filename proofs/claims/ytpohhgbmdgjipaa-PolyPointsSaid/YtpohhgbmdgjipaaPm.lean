
/- Plain mathematics of polynomials as lists of coefficients: values, products, roots, uniqueness; nothing of the program. -/
import Derived.Test.YtpohhgbmdgjipaaNum
namespace Go.Proofs.Ytpohhgbmdgjipaa.Num

/-! ### Values -/
/-- The value at x, as an integer. -/
def E : List Int → Int → Int
  | [], _ => 0
  | c :: l, x => c + x * E l x
theorem E_nil (x : Int) : E [] x = 0 := rfl
theorem E_cons (c : Int) (l : List Int) (x : Int) : E (c :: l) x = c + x * E l x := rfl
theorem E_append (a b : List Int) (x : Int) : E (a ++ b) x = E a x + x ^ a.length * E b x := by
  induction a with
  | nil => simp [E]
  | cons c a ih => simp only [List.cons_append, E_cons, ih, List.length_cons, Int.pow_succ]; grind
theorem E_zeros (n : Nat) (x : Int) : E (List.replicate n 0) x = 0 := by
  induction n with
  | zero => rfl
  | succ n ih => simp [List.replicate_succ, E_cons, ih]
/-- Sum, multiple, product of lists. -/
def addL : List Int → List Int → List Int
  | [], b => b
  | a, [] => a
  | c :: a, d :: b => (c + d) :: addL a b
theorem E_addL (a b : List Int) (x : Int) : E (addL a b) x = E a x + E b x := by
  induction a generalizing b with
  | nil => simp [addL, E]
  | cons c a ih =>
    cases b with
    | nil => simp [addL, E]
    | cons d b => simp only [addL, E_cons, ih]; grind
theorem addL_len (a b : List Int) : (addL a b).length = max a.length b.length := by
  induction a generalizing b with
  | nil => simp [addL]
  | cons c a ih =>
    cases b with
    | nil => simp [addL]
    | cons d b => simp only [addL, List.length_cons, ih]; omega
def smulL (c : Int) (a : List Int) : List Int := a.map (c * ·)
theorem E_smulL (c : Int) (a : List Int) (x : Int) : E (smulL c a) x = c * E a x := by
  induction a with
  | nil => simp [smulL, E]
  | cons d a ih => simp only [smulL, List.map_cons, E_cons] at *; rw [ih]; grind
theorem smulL_len (c : Int) (a : List Int) : (smulL c a).length = a.length := by simp [smulL]
def mulL : List Int → List Int → List Int
  | [], _ => []
  | c :: a, b => addL (smulL c b) (0 :: mulL a b)
theorem E_mulL (a b : List Int) (x : Int) : E (mulL a b) x = E a x * E b x := by
  induction a with
  | nil => simp [mulL, E]
  | cons c a ih => simp only [mulL, E_addL, E_smulL, E_cons, ih]; grind
/-- v times x to the k. -/
def monoL (k : Nat) (v : Int) : List Int := List.replicate k 0 ++ [v]
theorem E_monoL (k : Nat) (v x : Int) : E (monoL k v) x = x ^ k * v := by
  simp [monoL, E_append, E_zeros, E]
theorem E_set (l : List Int) (k : Nat) (v x : Int) (hk : k < l.length) : E (l.set k v) x = E l x + x ^ k * (v - l.getD k 0) := by
  induction l generalizing k with
  | nil => simp at hk
  | cons c l ih =>
    cases k with
    | zero => simp [E_cons]; omega
    | succ k =>
      simp only [List.length_cons] at hk
      simp only [List.set_cons_succ, E_cons, List.getD_cons_succ, Int.pow_succ]
      rw [ih k (by omega)]; grind
theorem E_take_succ (l : List Int) (k : Nat) (x : Int) : E (l.take (k + 1)) x = E (l.take k) x + x ^ k * l.getD k 0 := by
  induction l generalizing k with
  | nil => simp [E]
  | cons c l ih =>
    cases k with
    | zero => simp [E]
    | succ k => simp only [List.take_succ_cons, E_cons, List.getD_cons_succ, ih, Int.pow_succ]; grind

/-! ### Congruence -/
/-- Equal modulo p. -/
def Cg (p a b : Int) : Prop := ∃ k : Int, a = b + p * k
theorem Cg.refl (p a : Int) : Cg p a a := ⟨0, by omega⟩
theorem Cg.of_eq {p a b : Int} (h : a = b) : Cg p a b := ⟨0, by omega⟩
theorem Cg.symm {p a b : Int} : Cg p a b → Cg p b a | ⟨k, h⟩ => ⟨-k, by grind⟩
theorem Cg.trans {p a b c : Int} : Cg p a b → Cg p b c → Cg p a c | ⟨k, h⟩, ⟨m, g⟩ => ⟨k + m, by grind⟩
theorem Cg.add {p a b c d : Int} : Cg p a b → Cg p c d → Cg p (a + c) (b + d) | ⟨k, h⟩, ⟨m, g⟩ => ⟨k + m, by grind⟩
theorem Cg.sub {p a b c d : Int} : Cg p a b → Cg p c d → Cg p (a - c) (b - d) | ⟨k, h⟩, ⟨m, g⟩ => ⟨k - m, by grind⟩
theorem Cg.mul {p a b c d : Int} : Cg p a b → Cg p c d → Cg p (a * c) (b * d) | ⟨k, h⟩, ⟨m, g⟩ => ⟨b * m + k * d + p * k * m, by grind⟩
theorem Cg.mod (p a : Int) : Cg p (a % p) a := ⟨-(a / p), by have := Int.mul_ediv_add_emod a p; grind⟩
theorem Cg.eq {p a b : Int} (h : Cg p a b) : a % p = b % p := by
  obtain ⟨k, rfl⟩ := h; exact Int.add_mul_emod_self_left b p k
theorem Cg.of_mod {p a b : Int} (h : a % p = b % p) : Cg p a b := (Cg.mod p a).symm.trans ((Cg.of_eq h).trans (Cg.mod p b))
theorem Cg.el {p a b : Int} (h : Cg p a b) (ha : El p a) (hb : El p b) : a = b := by
  have := h.eq
  rwa [Int.emod_eq_of_lt ha.1 ha.2, Int.emod_eq_of_lt hb.1 hb.2] at this
theorem Cg.addF (p a b : Int) : Cg p (addF p a b) (a + b) := Cg.mod p _
theorem Cg.subF (p a b : Int) : Cg p (subF p a b) (a - b) := Cg.mod p _
theorem Cg.mulF (p a b : Int) : Cg p (mulF p a b) (a * b) := Cg.mod p _
/-- In a field a product is 0 only if a factor is. -/
theorem Cg.factor {p a b : Int} (hp : PrmI p) (ha : ¬ Cg p a 0) (h : Cg p (a * b) 0) : Cg p b 0 := by
  have hp2 := hp.1
  have h0 : 0 < a % p := by
    have h1 : 0 ≤ a % p := Int.emod_nonneg _ (by omega)
    have h2 : a % p ≠ 0 := fun e => ha (Cg.of_mod (by simp [e]))
    omega
  have h1 := iv_mul hp h0 (Int.emod_lt_of_pos a (by omega))
  have e : Cg p (a % p * iv p (a % p)) 1 := Cg.of_mod (by rw [h1]; exact (Int.emod_eq_of_lt (by omega) (by omega)).symm)
  have e2 : Cg p (a * iv p (a % p)) 1 := ((Cg.mod p a).symm.mul (Cg.refl p _)).trans e
  have e3 : Cg p (iv p (a % p) * (a * b)) (iv p (a % p) * 0) := (Cg.refl p _).mul h
  have e4 : Cg p (a * iv p (a % p) * b) (1 * b) := e2.mul (Cg.refl p b)
  rw [Int.one_mul] at e4
  refine e4.symm.trans ?_
  have e5 : a * iv p (a % p) * b = iv p (a % p) * (a * b) := by grind
  rw [e5]
  rw [Int.mul_zero] at e3
  exact e3
theorem not_cg_of_ne {p a b : Int} (ha : El p a) (hb : El p b) (h : a ≠ b) : ¬ Cg p (a - b) 0 := fun hc => h (by
  have : Cg p a b := by
    have := hc.add (Cg.refl p b)
    have e : a - b + b = a := by omega
    rw [e, Int.zero_add] at this; exact this
  exact this.el ha hb)

/-! ### Roots -/
/-- What is left when x minus r is divided out. -/
def qt (r : Int) : List Int → List Int
  | [] => []
  | [_] => []
  | _ :: d :: l => E (d :: l) r :: qt r (d :: l)
theorem qt_len (r : Int) : ∀ l : List Int, (qt r l).length = l.length - 1
  | [] => rfl
  | [_] => rfl
  | _ :: d :: l => by simp only [qt, List.length_cons, qt_len r (d :: l)]; omega
theorem E_qt (r x : Int) : ∀ l : List Int, E l x = E l r + (x - r) * E (qt r l) x
  | [] => by simp [E, qt]
  | [c] => by simp [E, qt]
  | c :: d :: l => by
    have ih := E_qt r x (d :: l)
    have e : E (qt r (c :: d :: l)) x = E (d :: l) r + x * E (qt r (d :: l)) x := rfl
    have e1 : E (c :: d :: l) x = c + x * E (d :: l) x := rfl
    have e2 : E (c :: d :: l) r = c + r * E (d :: l) r := rfl
    rw [e, e1, e2, ih]; grind
theorem zero_of_qt {p r : Int} : ∀ l : List Int, (∀ c ∈ qt r l, Cg p c 0) → Cg p (E l r) 0 → ∀ c ∈ l, Cg p c 0
  | [], _, _ => by simp
  | [c], _, h => by
    intro d hd; simp at hd; subst hd
    simpa [E] using h
  | c :: d :: l, hq, h => by
    have h1 : Cg p (E (d :: l) r) 0 := hq _ (by simp [qt])
    have ih := zero_of_qt (d :: l) (fun c hc => hq c (by simp [qt]; exact .inr hc)) h1
    intro e he
    rcases List.mem_cons.1 he with rfl | he
    · have h2 : Cg p (E (e :: d :: l) r - r * E (d :: l) r) (0 - r * 0) := h.sub ((Cg.refl p r).mul h1)
      rw [E_cons] at h2
      have e1 : e + r * E (d :: l) r - r * E (d :: l) r = e := by omega
      rw [e1] at h2; simpa using h2
    · exact ih e he
/-- A polynomial with as many roots as it has coefficients is 0. -/
theorem roots {p : Int} (hp : PrmI p) : ∀ (xs l : List Int), l.length ≤ xs.length → xs.Nodup → (∀ x ∈ xs, El p x) → (∀ x ∈ xs, Cg p (E l x) 0) → ∀ c ∈ l, Cg p c 0
  | [], l, hl, _, _, _ => by
    obtain rfl : l = [] := List.length_eq_zero_iff.1 (by simpa using hl)
    simp
  | r :: xs, l, hl, hn, he, hz => by
    refine zero_of_qt (r := r) l (roots hp xs (qt r l) (by rw [qt_len]; simp at hl; omega) (List.nodup_cons.1 hn).2 (fun x hx => he x (by simp [hx])) fun x hx => ?_) (hz r (by simp))
    have h1 : Cg p (E l x - E l r) (0 - 0) := (hz x (by simp [hx])).sub (hz r (by simp))
    rw [E_qt r x l] at h1
    have e1 : E l r + (x - r) * E (qt r l) x - E l r = (x - r) * E (qt r l) x := by omega
    rw [e1] at h1
    refine Cg.factor hp (not_cg_of_ne (he x (by simp [hx])) (he r (by simp)) ?_) h1
    rintro rfl
    exact (List.nodup_cons.1 hn).1 hx
theorem E_zero_of {p : Int} {l : List Int} (h : ∀ c ∈ l, Cg p c 0) (x : Int) : Cg p (E l x) 0 := by
  induction l with
  | nil => exact Cg.refl p 0
  | cons c l ih =>
    rw [E_cons]
    have := (h c (by simp)).add ((Cg.refl p x).mul (ih fun d hd => h d (by simp [hd])))
    simpa using this
theorem addL_getD (a b : List Int) (i : Nat) : (addL a b).getD i 0 = a.getD i 0 + b.getD i 0 := by
  induction a generalizing b i with
  | nil => simp [addL]
  | cons c a ih =>
    cases b with
    | nil => simp [addL]
    | cons d b =>
      cases i with
      | zero => simp [addL]
      | succ i => simp only [addL, List.getD_cons_succ, ih]
theorem smulL_getD (c : Int) (a : List Int) (i : Nat) : (smulL c a).getD i 0 = c * a.getD i 0 := by
  induction a generalizing i with
  | nil => simp [smulL]
  | cons d a ih =>
    cases i with
    | zero => simp [smulL]
    | succ i => simp only [smulL, List.map_cons, List.getD_cons_succ] at *; exact ih i
theorem getD_lt {l : List Int} {k : Nat} (h : k < l.length) : l.getD k 0 = l[k] := by simp [List.getD, h]
theorem getD_ge {l : List Int} {k : Nat} (h : l.length ≤ k) : l.getD k 0 = 0 := by simp [List.getD, h]
theorem els_getD {p : Int} (hp : 1 ≤ p) {l : List Int} (h : Els p l) (i : Nat) : El p (l.getD i 0) := by
  by_cases hi : i < l.length
  · rw [getD_lt hi]; exact h _ (List.getElem_mem hi)
  · rw [getD_ge (by omega)]; exact el_zero hp
theorem getD_cg {p : Int} {l : List Int} (h : ∀ c ∈ l, Cg p c 0) (i : Nat) : Cg p (l.getD i 0) 0 := by
  by_cases hi : i < l.length
  · rw [getD_lt hi]; exact h _ (List.getElem_mem hi)
  · rw [getD_ge (by omega)]; exact Cg.refl p 0
/-- The difference of two lists. -/
def subL (a b : List Int) : List Int := addL a (smulL (-1) b)
theorem E_subL (a b : List Int) (x : Int) : E (subL a b) x = E a x - E b x := by rw [subL, E_addL, E_smulL]; omega
theorem subL_getD (a b : List Int) (i : Nat) : (subL a b).getD i 0 = a.getD i 0 - b.getD i 0 := by rw [subL, addL_getD, smulL_getD]; omega
theorem subL_len (a b : List Int) : (subL a b).length = max a.length b.length := by rw [subL, addL_len, smulL_len]
/-- Polynomials with fewer coefficients than places, which agree at the places, have the same coefficients. -/
theorem unique_coef {p : Int} (hp : PrmI p) {xs a b : List Int} (ha : a.length ≤ xs.length) (hb : b.length ≤ xs.length) (hn : xs.Nodup) (he : Els p xs) (h : ∀ x ∈ xs, Cg p (E a x) (E b x)) (i : Nat) : Cg p (a.getD i 0) (b.getD i 0) := by
  have h1 := roots hp xs (subL a b) (by rw [subL_len]; omega) hn he fun x hx => by
    rw [E_subL]; have := (h x hx).sub (Cg.refl p (E b x)); simpa using this
  have h2 := getD_cg h1 i
  rw [subL_getD] at h2
  have := h2.add (Cg.refl p (b.getD i 0))
  have e : a.getD i 0 - b.getD i 0 + b.getD i 0 = a.getD i 0 := by omega
  rw [e, Int.zero_add] at this; exact this
theorem unique_value {p : Int} (hp : PrmI p) {xs a b : List Int} (ha : a.length ≤ xs.length) (hb : b.length ≤ xs.length) (hn : xs.Nodup) (he : Els p xs) (h : ∀ x ∈ xs, Cg p (E a x) (E b x)) (y : Int) : Cg p (E a y) (E b y) := by
  have h1 := roots hp xs (subL a b) (by rw [subL_len]; omega) hn he fun x hx => by
    rw [E_subL]; have := (h x hx).sub (Cg.refl p (E b x)); simpa using this
  have h2 := E_zero_of h1 y
  rw [E_subL] at h2
  have := h2.add (Cg.refl p (E b y))
  have e : E a y - E b y + E b y = E a y := by omega
  rw [e, Int.zero_add] at this; exact this

/-! ### Congruent as polynomials -/
def Pc (p : Int) (f g : Int → Int) : Prop := ∃ t : List Int, ∀ x : Int, f x = g x + p * E t x
theorem Pc.refl (p : Int) (f : Int → Int) : Pc p f f := ⟨[], fun x => by simp [E]⟩
theorem Pc.of_eq {p : Int} {f g : Int → Int} (h : ∀ x, f x = g x) : Pc p f g := ⟨[], fun x => by simp [E, h]⟩
theorem Pc.symm {p : Int} {f g : Int → Int} : Pc p f g → Pc p g f | ⟨t, h⟩ => ⟨smulL (-1) t, fun x => by rw [E_smulL, h x]; grind⟩
theorem Pc.trans {p : Int} {f g k : Int → Int} : Pc p f g → Pc p g k → Pc p f k | ⟨t, h⟩, ⟨s, e⟩ => ⟨addL t s, fun x => by rw [E_addL, h x, e x]; grind⟩
theorem Pc.add {p : Int} {f g h k : Int → Int} : Pc p f g → Pc p h k → Pc p (fun x => f x + h x) (fun x => g x + k x) | ⟨t, a⟩, ⟨s, b⟩ => ⟨addL t s, fun x => by show f x + h x = g x + k x + p * _; rw [E_addL, a x, b x]; grind⟩
theorem Pc.sub {p : Int} {f g h k : Int → Int} : Pc p f g → Pc p h k → Pc p (fun x => f x - h x) (fun x => g x - k x) | ⟨t, a⟩, ⟨s, b⟩ => ⟨subL t s, fun x => by show f x - h x = g x - k x + p * _; rw [E_subL, a x, b x]; grind⟩
theorem Pc.mul {p : Int} {f g : Int → Int} (l : List Int) : Pc p f g → Pc p (fun x => f x * E l x) (fun x => g x * E l x) | ⟨t, a⟩ => ⟨mulL t l, fun x => by show f x * E l x = g x * E l x + p * _; rw [E_mulL, a x]; grind⟩
/-- A congruent coefficient at one place. -/
theorem Pc.mono {p a b : Int} (k : Nat) : Cg p a b → Pc p (fun x => x ^ k * a) (fun x => x ^ k * b) | ⟨m, h⟩ => ⟨monoL k m, fun x => by rw [E_monoL, h]; grind⟩
theorem Pc.set {p : Int} (l : List Int) (k : Nat) (v u : Int) (hk : k < l.length) (h : Cg p v u) : Pc p (E (l.set k v)) (fun x => E l x + x ^ k * (u - l.getD k 0)) := by
  have := (Pc.refl p (E l)).add (Pc.mono k (h.sub (Cg.refl p (l.getD k 0))))
  exact (Pc.of_eq fun x => E_set l k v x hk).trans this
theorem Pc.cg {p : Int} {f g : Int → Int} (h : Pc p f g) (x : Int) : Cg p (f x) (g x) := by
  obtain ⟨t, h⟩ := h; exact ⟨E t x, h x⟩
theorem zero_of_values : ∀ l : List Int, (∀ x : Int, 1 ≤ x → E l x = 0) → ∀ c ∈ l, c = 0
  | [], _ => by simp
  | c :: l, h => by
    have h0 : c = 0 := by
      have h1 := h (c.natAbs + 1) (by omega)
      rw [E_cons] at h1
      have hd : ((c.natAbs : Int) + 1) ∣ c := ⟨-E l (c.natAbs + 1), by grind⟩
      by_cases hc : c = 0
      · exact hc
      · have h2 : ((c.natAbs : Int) + 1).natAbs ∣ c.natAbs := Int.natAbs_dvd_natAbs.2 hd
        have h3 := Nat.le_of_dvd (by omega) h2
        omega
    intro d hd
    rcases List.mem_cons.1 hd with rfl | hd
    · exact h0
    · refine zero_of_values l (fun x hx => ?_) d hd
      have := h x hx
      rw [E_cons, h0, Int.zero_add] at this
      rcases Int.mul_eq_zero.1 this with h4 | h4
      · omega
      · exact h4
theorem Pc.coef {p : Int} {a b : List Int} (h : Pc p (E a) (E b)) (i : Nat) : Cg p (a.getD i 0) (b.getD i 0) := by
  obtain ⟨t, h⟩ := h
  have h1 := zero_of_values (subL a (addL b (smulL p t))) fun x _ => by rw [E_subL, E_addL, E_smulL, h x]; omega
  have h2 : (subL a (addL b (smulL p t))).getD i 0 = 0 := by
    by_cases hi : i < (subL a (addL b (smulL p t))).length
    · rw [getD_lt hi]; exact h1 _ (List.getElem_mem hi)
    · rw [getD_ge (by omega)]
  rw [subL_getD, addL_getD, smulL_getD] at h2
  exact ⟨t.getD i 0, by omega⟩

/-! ### Short lists -/
/-- The number of coefficients up to the last one that is not 0. -/
def dg : List Int → Nat
  | [] => 0
  | c :: l => if dg l = 0 then (if c = 0 then 0 else 1) else dg l + 1
theorem dg_le : ∀ l : List Int, dg l ≤ l.length
  | [] => Nat.le_refl 0
  | c :: l => by have := dg_le l; unfold dg; split <;> simp <;> (try split) <;> omega
theorem dg_zero : ∀ (l : List Int) (i : Nat), dg l ≤ i → l.getD i 0 = 0
  | [], i, _ => by simp
  | c :: l, i, h => by
    unfold dg at h
    cases i with
    | zero =>
      split at h
      · split at h
        · simp_all
        · omega
      · omega
    | succ i =>
      rw [List.getD_cons_succ]
      refine dg_zero l i ?_
      split at h
      · omega
      · omega
theorem dg_top : ∀ (l : List Int) (k : Nat), dg l = k + 1 → l.getD k 0 ≠ 0
  | [], k, h => by simp [dg] at h
  | c :: l, k, h => by
    unfold dg at h
    split at h
    · split at h
      · omega
      · obtain rfl : k = 0 := by omega
        simpa using ‹¬ c = 0›
    · obtain ⟨j, rfl⟩ : ∃ j, k = j + 1 := ⟨k - 1, by omega⟩
      rw [List.getD_cons_succ]
      exact dg_top l j (by omega)
theorem dg_eq {l : List Int} {k : Nat} (h : ∀ i, k ≤ i → l.getD i 0 = 0) (ht : k = 0 ∨ l.getD (k - 1) 0 ≠ 0) : dg l = k := by
  by_cases h1 : dg l < k
  · rcases ht with h2 | h2
    · omega
    · exact absurd (dg_zero l (k - 1) (by omega)) h2
  · by_cases h2 : k < dg l
    · exact absurd (h (dg l - 1) (by omega)) (dg_top l (dg l - 1) (by omega))
    · omega
def sh (l : List Int) : List Int := l.take (dg l)
theorem sh_len (l : List Int) : (sh l).length = dg l := by unfold sh; rw [List.length_take]; exact Nat.min_eq_left (dg_le l)
theorem sh_getD (l : List Int) (i : Nat) : (sh l).getD i 0 = l.getD i 0 := by
  by_cases h : i < dg l
  · unfold sh; simp only [List.getD]; rw [List.getElem?_take_of_lt h]
  · rw [getD_ge (by rw [sh_len]; omega), dg_zero l i (by omega)]
theorem sh_els {p : Int} {l : List Int} (h : Els p l) : Els p (sh l) := fun x hx => h x (List.mem_of_mem_take hx)
theorem ext_getD {a b : List Int} (hl : a.length = b.length) (h : ∀ i, a.getD i 0 = b.getD i 0) : a = b := by
  apply List.ext_getElem hl
  intro i h1 h2
  have := h i
  rwa [getD_lt h1, getD_lt h2] at this
theorem dg_congr {a b : List Int} (h : ∀ i, a.getD i 0 = b.getD i 0) : dg a = dg b := by
  refine dg_eq (fun i hi => by rw [h]; exact dg_zero b i hi) ?_
  by_cases e : dg b = 0
  · exact .inl e
  · exact .inr (by rw [h]; exact dg_top b (dg b - 1) (by omega))
theorem sh_congr {a b : List Int} (h : ∀ i, a.getD i 0 = b.getD i 0) : sh a = sh b :=
  ext_getD (by rw [sh_len, sh_len, dg_congr h]) fun i => by rw [sh_getD, sh_getD, h]
theorem sh_cg {p : Int} (hp : 1 ≤ p) {a b : List Int} (ha : Els p a) (hb : Els p b) (h : ∀ i, Cg p (a.getD i 0) (b.getD i 0)) : sh a = sh b :=
  sh_congr fun i => (h i).el (els_getD hp ha i) (els_getD hp hb i)
theorem E_getD {a b : List Int} (h : ∀ i, a.getD i 0 = b.getD i 0) (x : Int) : E a x = E b x := by
  induction a generalizing b with
  | nil =>
    induction b with
    | nil => rfl
    | cons d b ih =>
      have h0 : d = 0 := by have := h 0; simpa using this.symm
      rw [E_cons, h0, ← ih fun i => by have := h (i + 1); simpa using this]; simp [E]
  | cons c a ih =>
    cases b with
    | nil =>
      have h0 : c = 0 := by have := h 0; simpa using this
      rw [E_cons, h0, ih (b := []) fun i => by have := h (i + 1); simpa using this]; simp [E]
    | cons d b =>
      have h0 : c = d := by have := h 0; simpa using this
      rw [E_cons, E_cons, h0, ih (b := b) fun i => by have := h (i + 1); simpa using this]
theorem E_sh (l : List Int) (x : Int) : E (sh l) x = E l x := E_getD (sh_getD l) x
theorem dg_sh (l : List Int) : dg (sh l) = dg l := dg_congr (sh_getD l)
theorem sh_sh (l : List Int) : sh (sh l) = sh l := sh_congr (sh_getD l)
theorem sh_last {l : List Int} (h : 0 < (sh l).length) : (sh l).getD ((sh l).length - 1) 0 ≠ 0 := by
  rw [sh_getD]; rw [sh_len] at h ⊢; exact dg_top l (dg l - 1) (by omega)
theorem getD_append_zero (l : List Int) (n i : Nat) : (l ++ List.replicate n 0).getD i 0 = l.getD i 0 := by
  by_cases h : i < l.length
  · simp [List.getD, List.getElem?_append_left h]
  · rw [getD_ge (l := l) (by omega)]
    simp only [List.getD]
    rw [List.getElem?_append_right (by omega)]
    by_cases h2 : i - l.length < n
    · simp [h2]
    · simp [show n ≤ i - l.length by omega]
end Go.Proofs.Ytpohhgbmdgjipaa.Num
