
/- Linear equations modulo a prime, row by row: the mathematics of elimination. -/
import Derived.Test.YtdidplpbkfkdeaaGreatDoorQMth
namespace Go.Proofs.YtdidplpbkfkdeaaGreatDoor.Num
set_option linter.unusedVariables false

theorem sumTo_mul (f : Nat → Int) (v : Int) : ∀ n, sumTo (fun k => f k * v) n = sumTo f n * v
  | 0 => by simp [sumTo]
  | n + 1 => by simp only [sumTo]; rw [sumTo_mul f v n]; grind
theorem sumTo_sub (f g : Nat → Int) : ∀ n, sumTo (fun k => f k - g k) n = sumTo f n - sumTo g n
  | 0 => by simp [sumTo]
  | n + 1 => by simp only [sumTo]; rw [sumTo_sub f g n]; omega
/-- x solves the equations of which row i has the coefficients m i k, k < U, and the value m i U. -/
def Sol (p : Int) (U n : Nat) (m : Nat → Nat → Int) (x : Nat → Int) : Prop := ∀ i, i < n → Cg p (sumTo (fun k => m i k * x k) U) (m i U)
def ElM (p : Int) (U n : Nat) (m : Nat → Nat → Int) : Prop := ∀ i, i < n → ∀ k, k ≤ U → El p (m i k)
def swpM (m : Nat → Nat → Int) (r a : Nat) (i : Nat) : Nat → Int := if i = r then m a else if i = a then m r else m i
def sclM (p : Int) (m : Nat → Nat → Int) (r : Nat) (v : Int) (i k : Nat) : Int := if i = r then m r k * v % p else m i k
def elmM (p : Int) (m : Nat → Nat → Int) (r c : Nat) (i k : Nat) : Int := if i = r then m i k else subF p (m i k) (m i c * m r k % p)
theorem sol_swap {p : Int} {U n r a : Nat} {m : Nat → Nat → Int} {x : Nat → Int} (hr : r < n) (ha : a < n) : Sol p U n m x ↔ Sol p U n (swpM m r a) x := by
  constructor
  · intro h i hi
    unfold swpM
    by_cases e : i = r
    · subst e; simp only [if_true]; exact h a ha
    · by_cases e2 : i = a
      · subst e2; simp only [if_neg e, if_true]; exact h r hr
      · simp only [if_neg e, if_neg e2]; exact h i hi
  · intro h i hi
    by_cases e : i = r
    · have h1 := h a ha
      unfold swpM at h1
      by_cases e2 : a = r
      · simp only [if_pos e2] at h1
        subst e; subst e2; exact h1
      · simp only [if_neg e2, if_true] at h1
        subst e; exact h1
    · by_cases e2 : i = a
      · have h1 := h r hr
        unfold swpM at h1
        simp only [if_true] at h1
        subst e2; exact h1
      · have h1 := h i hi
        unfold swpM at h1
        simp only [if_neg e, if_neg e2] at h1
        exact h1
theorem row_scale {p v : Int} {U : Nat} {a x : Nat → Int} (h : Cg p (sumTo (fun k => a k * x k) U) (a U)) : Cg p (sumTo (fun k => a k * v % p * x k) U) (a U * v % p) := by
  have h1 : Cg p (sumTo (fun k => a k * v % p * x k) U) (sumTo (fun k => a k * x k * v) U) := sumTo_cg U fun k _ => by
    have := (Cg.mod p (a k * v)).mul (Cg.refl p (x k))
    rwa [show a k * v * x k = a k * x k * v by grind] at this
  rw [sumTo_mul] at h1
  exact h1.trans ((h.mul (Cg.refl p v)).trans (Cg.mod p _).symm)
theorem sol_scale {p v d : Int} {U n r : Nat} {m : Nat → Nat → Int} {x : Nat → Int} (hr : r < n) (hv : Cg p (v * d) 1) : Sol p U n m x ↔ Sol p U n (sclM p m r v) x := by
  constructor
  · intro h i hi
    unfold sclM
    by_cases e : i = r
    · subst e; simp only [if_true]; exact row_scale (h i hi)
    · simp only [if_neg e]; exact h i hi
  · intro h i hi
    have h1 := h i hi
    unfold sclM at h1
    by_cases e : i = r
    · subst e
      simp only [if_true] at h1
      have h2 := row_scale (v := d) (a := fun k => m i k * v % p) h1
      have h3 : ∀ k, Cg p (m i k * v % p * d % p) (m i k) := fun k => by
        refine (Cg.mod p _).trans (((Cg.mod p _).mul (Cg.refl p d)).trans ?_)
        have := (Cg.refl p (m i k)).mul hv
        rwa [Int.mul_one, show m i k * (v * d) = m i k * v * d by grind] at this
      exact (sumTo_cg U fun k _ => ((h3 k).mul (Cg.refl p (x k)))).symm.trans (h2.trans (h3 U))
    · simp only [if_neg e] at h1; exact h1
theorem row_elim {p f : Int} {U : Nat} {a b x : Nat → Int} (ha : Cg p (sumTo (fun k => a k * x k) U) (a U)) (hb : Cg p (sumTo (fun k => b k * x k) U) (b U)) : Cg p (sumTo (fun k => subF p (a k) (f * b k % p) * x k) U) (subF p (a U) (f * b U % p)) := by
  have e : ∀ k, Cg p (subF p (a k) (f * b k % p)) (a k - f * b k) := fun k => (Cg.subF p _ _).trans ((Cg.refl p _).sub (Cg.mod p _))
  have h1 : Cg p (sumTo (fun k => subF p (a k) (f * b k % p) * x k) U) (sumTo (fun k => a k * x k - b k * x k * f) U) := sumTo_cg U fun k _ => by
    have := (e k).mul (Cg.refl p (x k))
    rwa [show (a k - f * b k) * x k = a k * x k - b k * x k * f by grind] at this
  rw [sumTo_sub, sumTo_mul] at h1
  refine h1.trans ((ha.sub (hb.mul (Cg.refl p f))).trans ?_)
  rw [show b U * f = f * b U by grind]
  exact (e U).symm
theorem sol_elim {p : Int} {U n r c : Nat} {m : Nat → Nat → Int} {x : Nat → Int} (hr : r < n) : Sol p U n m x ↔ Sol p U n (elmM p m r c) x := by
  constructor
  · intro h i hi
    unfold elmM
    by_cases e : i = r
    · subst e; simp only [if_true]; exact h i hi
    · simp only [if_neg e]; exact row_elim (h i hi) (h r hr)
  · intro h i hi
    have hrr := h r hr
    have h1 := h i hi
    unfold elmM at h1 hrr
    simp only [if_true] at hrr
    by_cases e : i = r
    · subst e; simp only [if_true] at h1; exact h1
    · simp only [if_neg e] at h1
      have h2 := row_elim (f := -(m i c)) (a := fun k => subF p (m i k) (m i c * m r k % p)) (b := m r) h1 hrr
      have h3 : ∀ k, Cg p (subF p (subF p (m i k) (m i c * m r k % p)) (-(m i c) * m r k % p)) (m i k) := fun k => by
        refine (Cg.subF p _ _).trans ?_
        have h4 := ((Cg.subF p (m i k) (m i c * m r k % p)).trans ((Cg.refl p (m i k)).sub (Cg.mod p (m i c * m r k)))).sub (Cg.mod p (-(m i c) * m r k))
        rwa [show m i k - m i c * m r k - -(m i c) * m r k = m i k by grind] at h4
      exact (sumTo_cg U fun k _ => ((h3 k).mul (Cg.refl p (x k)))).symm.trans (h2.trans (h3 U))

/-- Rows that are reduced up to column c: the row i < r has a 1 in column L i, and no other row has anything there; the others have nothing before c. -/
structure Ech (p : Int) (U n : Nat) (m : Nat → Nat → Int) (L : List Nat) (c : Nat) : Prop where
  el : ElM p U n m
  below : ∀ j, j < L.length → L.getD j 0 < c
  lead : ∀ i, i < n → ∀ j, j < L.length → m i (L.getD j 0) = if i = j then 1 else 0
  zero : ∀ i, L.length ≤ i → i < n → ∀ k, k < c → m i k = 0
theorem ech_start {p : Int} {U n : Nat} {m : Nat → Nat → Int} (h : ElM p U n m) : Ech p U n m [] 0 :=
  ⟨h, fun j hj => by simp at hj, fun i _ j hj => by simp at hj, fun i _ _ k hk => by omega⟩
theorem Ech.skip {p : Int} {U n : Nat} {m : Nat → Nat → Int} {L : List Nat} {c : Nat} (h : Ech p U n m L c) (hz : ∀ i, L.length ≤ i → i < n → m i c = 0) : Ech p U n m L (c + 1) :=
  ⟨h.el, fun j hj => by have := h.below j hj; omega, h.lead, fun i h1 h2 k hk => by
    by_cases e : k = c
    · subst e; exact hz i h1 h2
    · exact h.zero i h1 h2 k (by omega)⟩
theorem getD_nat_app {L : List Nat} {c j : Nat} (hj : j < L.length) : (L ++ [c]).getD j 0 = L.getD j 0 := by simp [List.getD, List.getElem?_append, hj]
theorem getD_nat_end (L : List Nat) (c : Nat) : (L ++ [c]).getD L.length 0 = c := by simp [List.getD]
theorem Ech.pivot {p : Int} (hp : PrmI p) {U n : Nat} {m : Nat → Nat → Int} {L : List Nat} {c a : Nat} {v : Int} (h : Ech p U n m L c) (hc : c < U) (ha1 : L.length ≤ a) (ha2 : a < n) (hv : El p v) (hva : Cg p (v * m a c) 1) :
    Ech p U n (elmM p (sclM p (swpM m L.length a) L.length v) L.length c) (L ++ [c]) (c + 1) := by
  have hp1 : 1 ≤ p := by have := hp.1; omega
  have hrn : L.length < n := by omega
  obtain ⟨r, hr⟩ : ∃ r, L.length = r := ⟨_, rfl⟩
  rw [hr] at ha1 hrn ⊢
  have e2 : ∀ i k, swpM m r a i k = if i = r then m a k else if i = a then m r k else m i k := fun i k => by
    unfold swpM; split
    · rfl
    · split <;> rfl
  have el2 : ∀ i, i < n → ∀ k, k ≤ U → El p (swpM m r a i k) := fun i hi k hk => by
    rw [e2]; split
    · exact h.el a ha2 k hk
    · split
      · exact h.el r hrn k hk
      · exact h.el i hi k hk
  have el3 : ∀ i, i < n → ∀ k, k ≤ U → El p (sclM p (swpM m r a) r v i k) := fun i hi k hk => by
    unfold sclM; split
    · exact el_mod hp1 _
    · exact el2 i hi k hk
  have z2 : ∀ k, (∀ i, r ≤ i → i < n → m i k = 0) → ∀ i, r ≤ i → i < n → swpM m r a i k = 0 := fun k hk i h1 h2 => by
    rw [e2]; split
    · exact hk a ha1 ha2
    · split
      · exact hk r (Nat.le_refl _) hrn
      · exact hk i h1 h2
  have z3 : ∀ k, (∀ i, r ≤ i → i < n → m i k = 0) → sclM p (swpM m r a) r v r k = 0 := fun k hk => by
    unfold sclM
    rw [if_pos rfl, z2 k hk r (Nat.le_refl _) hrn]; simp
  have one : sclM p (swpM m r a) r v r c = 1 := by
    unfold sclM
    rw [if_pos rfl, e2, if_pos rfl]
    have h1 : Cg p (m a c * v % p) 1 := (Cg.mod p _).trans (by rwa [show m a c * v = v * m a c by grind])
    exact h1.el (el_mod hp1 _) ⟨by omega, by have := hp.1; omega⟩
  have sub0 : ∀ x, El p x → subF p x 0 = x := fun x hx => by
    have : Cg p (subF p x 0) x := (Cg.subF p x 0).trans (Cg.of_eq (by omega))
    exact this.el (el_mod hp1 _) hx
  have col : ∀ k, (∀ i, r ≤ i → i < n → m i k = 0) → k ≤ U → ∀ i, i < n → i ≠ r → elmM p (sclM p (swpM m r a) r v) r c i k = swpM m r a i k := fun k hk hkU i hi hir => by
    unfold elmM
    rw [if_neg hir, z3 k hk, Int.mul_zero, Int.zero_emod, sub0 _ (el3 i hi k hkU)]
    unfold sclM
    rw [if_neg hir]
  refine ⟨fun i hi k hk => ?_, fun j hj => ?_, fun i hi j hj => ?_, fun i h1 h2 k hk => ?_⟩
  · unfold elmM; split
    · exact el3 i hi k hk
    · exact el_mod hp1 _
  · rw [List.length_append, List.length_singleton, hr] at hj
    by_cases e : j < r
    · rw [getD_nat_app (by omega)]; have := h.below j (by omega); omega
    · obtain rfl : j = L.length := by omega
      rw [getD_nat_end]; omega
  · rw [List.length_append, List.length_singleton, hr] at hj
    by_cases e : j < r
    · rw [getD_nat_app (by omega)]
      have hz : ∀ i, r ≤ i → i < n → m i (L.getD j 0) = 0 := fun i h1 h2 => by rw [h.lead i h2 j (by omega), if_neg (by omega)]
      have hb := h.below j (by omega)
      by_cases hir : i = r
      · rw [if_neg (by omega)]
        unfold elmM
        rw [if_pos hir, hir, z3 _ hz]
      · rw [col _ hz (by omega) i hi hir, e2, if_neg hir]
        by_cases hia : i = a
        · rw [if_pos hia, if_neg (by omega), hz r (Nat.le_refl _) hrn]
        · rw [if_neg hia]; exact h.lead i hi j (by omega)
    · obtain rfl : j = r := by omega
      rw [show (L ++ [c]).getD j 0 = c by rw [← hr]; exact getD_nat_end L c]
      unfold elmM
      by_cases hir : i = j
      · rw [if_pos hir, if_pos hir, hir, one]
      · rw [if_neg hir, if_neg hir, one, Int.mul_one]
        have hx := el3 i hi c (by omega)
        rw [Int.emod_eq_of_lt hx.1 hx.2]
        have : Cg p (subF p (sclM p (swpM m j a) j v i c) (sclM p (swpM m j a) j v i c)) 0 := (Cg.subF p _ _).trans (Cg.of_eq (by omega))
        exact this.el (el_mod hp1 _) (el_zero hp1)
  · rw [List.length_append, List.length_singleton, hr] at h1
    by_cases e : k = c
    · subst e
      unfold elmM
      rw [if_neg (by omega), one, Int.mul_one]
      have hx := el3 i h2 k (by omega)
      rw [Int.emod_eq_of_lt hx.1 hx.2]
      have : Cg p (subF p (sclM p (swpM m r a) r v i k) (sclM p (swpM m r a) r v i k)) 0 := (Cg.subF p _ _).trans (Cg.of_eq (by omega))
      exact this.el (el_mod hp1 _) (el_zero hp1)
    · have hz : ∀ i, r ≤ i → i < n → m i k = 0 := fun i h3 h4 => h.zero i (by omega) h4 k (by omega)
      rw [col k hz (by omega) i h2 (by omega)]
      exact z2 k hz i (by omega) h2
theorem sol_pivot {p : Int} {U n : Nat} {m : Nat → Nat → Int} {r c a : Nat} {v : Int} {x : Nat → Int} (hr : r < n) (ha : a < n) (hva : Cg p (v * m a c) 1) : Sol p U n m x ↔ Sol p U n (elmM p (sclM p (swpM m r a) r v) r c) x :=
  (sol_swap hr ha).trans ((sol_scale (d := m a c) hr hva).trans (sol_elim hr))
/-- The solution that is read off. -/
def outV (m : Nat → Nat → Int) (U : Nat) : List Nat → Nat → Nat → Int
  | [], _, _ => 0
  | c :: L, i, k => if k = c then m i U else outV m U L (i + 1) k
theorem outV_none (m : Nat → Nat → Int) (U : Nat) : ∀ (L : List Nat) (i k : Nat), (∀ j, j < L.length → L.getD j 0 ≠ k) → outV m U L i k = 0
  | [], _, _, _ => rfl
  | c :: L, i, k, h => by
    unfold outV
    rw [if_neg (fun e => h 0 (by simp) (by simp [e])), outV_none m U L (i + 1) k fun j hj => by have := h (j + 1) (by simpa using hj); simpa using this]
theorem outV_at (m : Nat → Nat → Int) (U : Nat) : ∀ (L : List Nat) (i j : Nat), j < L.length → (∀ a, a < j → L.getD a 0 ≠ L.getD j 0) → outV m U L i (L.getD j 0) = m (i + j) U
  | [], _, j, h, _ => by simp at h
  | c :: L, i, 0, h, _ => by simp [outV]
  | c :: L, i, j + 1, h, hd => by
    have h0 := hd 0 (by omega)
    have e : (c :: L).getD (j + 1) 0 = L.getD j 0 := by simp
    rw [e] at h0 ⊢
    unfold outV
    rw [if_neg (fun e2 => h0 (show (c :: L).getD 0 0 = L.getD j 0 from e2.symm)), outV_at m U L (i + 1) j (by simpa using h) fun a ha => by have := hd (a + 1) (by omega); simpa using this]
    congr 1; omega
theorem Ech.apart {p : Int} (hp : PrmI p) {U n : Nat} {m : Nat → Nat → Int} {L : List Nat} {c : Nat} (h : Ech p U n m L c) (hn : L.length ≤ n) {i j : Nat} (hi : i < L.length) (hj : j < L.length) (hne : i ≠ j) : L.getD i 0 ≠ L.getD j 0 := fun e => by
  have h1 := h.lead i (by omega) i hi
  have h2 := h.lead i (by omega) j hj
  rw [e, h2, if_neg hne, if_pos rfl] at h1
  cases h1
/-- What is left says whether there is a solution; and then this one is. -/
theorem Ech.none {p : Int} (hp : PrmI p) {U n : Nat} {m : Nat → Nat → Int} {L : List Nat} {c : Nat} (h : Ech p U n m L c) (hc : c = U ∨ L.length = n) {x : Nat → Int} (hs : Sol p U n m x) : ∀ i, L.length ≤ i → i < n → m i U = 0 := fun i h1 h2 => by
  have hp1 : 1 ≤ p := by have := hp.1; omega
  rcases hc with rfl | hc
  · have h3 := hs i h2
    have h4 : Cg p (sumTo (fun k => m i k * x k) c) 0 := by
      have := sumTo_cg (p := p) (f := fun k => m i k * x k) (g := fun _ => 0) c fun k hk => by rw [h.zero i h1 h2 k hk, Int.zero_mul]; exact Cg.refl p 0
      have e : ∀ n, sumTo (fun _ => (0 : Int)) n = 0 := fun n => by
        induction n with
        | zero => rfl
        | succ n ih => simp only [sumTo]; rw [ih]; rfl
      rwa [e] at this
    exact (h3.symm.trans h4).el (h.el i h2 c (Nat.le_refl _)) (el_zero hp1)
  · omega
theorem Ech.sol {p : Int} (hp : PrmI p) {U n : Nat} {m : Nat → Nat → Int} {L : List Nat} {c : Nat} (h : Ech p U n m L c) (hcU : c ≤ U) (hn : L.length ≤ n) (hc : c = U ∨ L.length = n) (hg : ∀ i, L.length ≤ i → i < n → m i U = 0) : Sol p U n m (outV m U L 0) := fun i hi => by
  by_cases hlt : i < L.length
  · have hb := h.below i hlt
    have h1 := sumTo_one (p := p) (f := fun k => m i k * outV m U L 0 k) (k := L.getD i 0) U fun k hk hne => by
      by_cases hex : ∃ j, j < L.length ∧ L.getD j 0 = k
      · obtain ⟨j, hj, rfl⟩ := hex
        have hij : i ≠ j := fun e => hne (by rw [e])
        show Cg p (m i (L.getD j 0) * _) 0
        rw [h.lead i hi j hj, if_neg hij, Int.zero_mul]
        exact Cg.refl p 0
      · show Cg p (_ * outV m U L 0 k) 0
        rw [outV_none m U L 0 k fun j hj e => hex ⟨j, hj, e⟩, Int.mul_zero]
        exact Cg.refl p 0
    rw [if_pos (by omega)] at h1
    rw [h.lead i hi i hlt, if_pos rfl, Int.one_mul, outV_at m U L 0 i hlt fun a ha => h.apart hp hn (by omega) hlt (by omega), Nat.zero_add] at h1
    exact h1
  · rw [hg i (by omega) hi]
    rcases hc with rfl | hc
    · have := sumTo_cg (p := p) (f := fun k => m i k * outV m c L 0 k) (g := fun _ => 0) c fun k hk => by rw [h.zero i (by omega) hi k hk, Int.zero_mul]; exact Cg.refl p 0
      have e : ∀ n, sumTo (fun _ => (0 : Int)) n = 0 := fun n => by
        induction n with
        | zero => rfl
        | succ n ih => simp only [sumTo]; rw [ih]; rfl
      rwa [e] at this
    · omega
end Go.Proofs.YtdidplpbkfkdeaaGreatDoor.Num
