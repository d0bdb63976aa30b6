
/- One in a small field: mathematics of going through all polynomials of two coefficients. -/
import Derived.Test.YtkcbbdkijlipfaaDoorQPr5
namespace Go.Proofs.YtkcbbdkijlipfaaDoor
open Go.RowKit Go.Sort
open Num
set_option linter.unusedVariables false

/-- The places 0 .. n - 1. -/
def plN (n : Nat) : List Int := (List.range n).map fun i : Nat => (i : Int)
theorem plN_len (n : Nat) : (plN n).length = n := by simp [plN]
theorem plN_succ (n : Nat) : plN n ++ [(n : Int)] = plN (n + 1) := by simp [plN, List.range_succ]
theorem plN_getD {n i : Nat} (h : i < n) : (plN n).getD i 0 = (i : Int) := by simp [plN, List.getD, h]
theorem plN_els {n : Nat} (h : n ≤ 5) : Els 5 (plN n) := fun x hx => by
  obtain ⟨i, hi, rfl⟩ := List.mem_map.1 hx
  have := List.mem_range.1 hi
  exact ⟨by omega, by omega⟩
theorem plN_nodup (n : Nat) : (plN n).Nodup := by
  rw [List.nodup_iff_pairwise_ne]
  refine List.pairwise_map.2 ?_
  exact (List.nodup_iff_pairwise_ne.1 List.nodup_range).imp fun {a b} h => by omega
/-- Whether the polynomial of number c has the value of number j. -/
def hit (ys : List Int) (c j : Nat) : Bool := decide (((c : Int) / 5 + (c : Int) % 5 * (j : Int)) % 5 = ys.getD j 0)
def gdc (ys : List Int) (c i : Nat) : Nat := ((List.range i).filter (hit ys c)).length
theorem gdc_zero (ys : List Int) (c : Nat) : gdc ys c 0 = 0 := rfl
theorem gdc_succ (ys : List Int) (c i : Nat) : gdc ys c (i + 1) = gdc ys c i + (if hit ys c i = true then 1 else 0) := by
  unfold gdc
  rw [List.range_succ, List.filter_append, List.length_append]
  by_cases h : hit ys c i = true
  · simp [h]
  · simp [h]
theorem gdc_le (ys : List Int) (c i : Nat) : gdc ys c i ≤ i := by
  unfold gdc
  exact Nat.le_trans (List.length_filter_le _ _) (by simp)
/-- The polynomials below number m that have enough of the values. -/
def fnd (ys : List Int) (n K m : Nat) : List Nat := (List.range m).filter fun c => decide (n ≤ gdc ys c n + K)
theorem fnd_zero (ys : List Int) (n K : Nat) : fnd ys n K 0 = [] := rfl
theorem fnd_yes {ys : List Int} {n K m : Nat} (h : n ≤ gdc ys m n + K) : fnd ys n K (m + 1) = fnd ys n K m ++ [m] := by
  unfold fnd; rw [List.range_succ, List.filter_append]; simp [h]
theorem fnd_no {ys : List Int} {n K m : Nat} (h : ¬ n ≤ gdc ys m n + K) : fnd ys n K (m + 1) = fnd ys n K m := by
  unfold fnd; rw [List.range_succ, List.filter_append]; simp [h]
theorem fnd_len (ys : List Int) (n K m : Nat) : (fnd ys n K m).length ≤ m := by
  unfold fnd
  exact Nat.le_trans (List.length_filter_le _ _) (by simp)
theorem fnd_lt {ys : List Int} {n K m c : Nat} (h : c ∈ fnd ys n K m) : c < m := List.mem_range.1 (List.mem_filter.1 h).1
/-- A polynomial by its number. -/
def pol (c : Nat) : List Int := [(c : Int) / 5, (c : Int) % 5]
theorem pol_E (c : Nat) (x : Int) : E (pol c) x = (c : Int) / 5 + (c : Int) % 5 * x := by
  simp [pol, E_cons, E_nil]; exact Int.mul_comm _ _
theorem pol_els {c : Nat} (h : c < 25) : Els 5 (pol c) := fun x hx => by
  simp [pol] at hx
  rcases hx with rfl | rfl <;> exact ⟨by omega, by omega⟩
theorem zip_plN {n : Nat} {ys : List Int} (hl : ys.length = n) : (plN n).zip ys = (List.range n).map fun j : Nat => ((j : Int), ys.getD j 0) := by
  apply List.ext_getElem
  · simp [plN_len, hl]
  · intro i h1 h2
    have h3 : i < ys.length := by rw [List.length_zip] at h1; omega
    simp [plN, List.getD, h3]
theorem len_parts {α : Type} (P : α → Bool) : ∀ l : List α, (l.filter fun j => !(P j)).length + (l.filter P).length = l.length
  | [] => rfl
  | x :: l => by
    have h := len_parts P l
    rw [List.filter_cons, List.filter_cons, List.length_cons]
    cases hx : P x
    · simp; omega
    · simp; omega
theorem mis_hit {n c : Nat} {f ys : List Int} (hl : ys.length = n) (hf : ∀ x, E f x = E (pol c) x) : (mis 5 f (plN n) ys).length + gdc ys c n = n := by
  rw [mis_len, zip_plN hl, List.filter_map, List.length_map]
  have h1 : ((fun z : Int × Int => !(E f z.1 % 5 == z.2)) ∘ fun j : Nat => ((j : Int), ys.getD j 0)) = fun j => !(hit ys c j) := by
    funext j
    show (!(E f (j : Int) % 5 == ys.getD j 0)) = !(decide _)
    rw [hf, pol_E]
    congr 1
  rw [h1]
  have h2 := len_parts (hit ys c) (List.range n)
  rw [List.length_range] at h2
  exact h2
theorem short2 {f : List Int} (he : Els 5 f) (hl : f.length ≤ 2) : ∃ c : Nat, c < 25 ∧ ∀ x, E f x = E (pol c) x := by
  match f, he, hl with
  | [], _, _ => exact ⟨0, by omega, fun x => by simp [pol, E_cons, E_nil]⟩
  | [a], he, _ =>
    have ha := he a (by simp)
    obtain ⟨h0, h1⟩ := ha
    obtain ⟨a', rfl⟩ := Int.eq_ofNat_of_zero_le h0
    refine ⟨5 * a', by omega, fun x => ?_⟩
    rw [pol_E, E_cons, E_nil]
    have e1 : ((5 * a' : Nat) : Int) / 5 = (a' : Int) := by omega
    have e2 : ((5 * a' : Nat) : Int) % 5 = 0 := by omega
    rw [e1, e2]; simp
  | [a, b], he, _ =>
    obtain ⟨h0, h1⟩ := he a (by simp)
    obtain ⟨h2, h3⟩ := he b (by simp)
    obtain ⟨a', rfl⟩ := Int.eq_ofNat_of_zero_le h0
    obtain ⟨b', rfl⟩ := Int.eq_ofNat_of_zero_le h2
    refine ⟨5 * a' + b', by omega, fun x => ?_⟩
    rw [pol_E, E_cons, E_cons, E_nil]
    have e1 : ((5 * a' + b' : Nat) : Int) / 5 = (a' : Int) := by omega
    have e2 : ((5 * a' + b' : Nat) : Int) % 5 = (b' : Int) := by omega
    rw [e1, e2, Int.mul_zero, Int.add_zero, Int.mul_comm]
  | a :: b :: c :: l, _, hl => exact absurd hl (by simp)
theorem vB_5 : vB 5 = true := vB_true prm_5 (by omega)
theorem only_c {n K : Nat} {ys : List Int} (hl : ys.length = n) (h5 : n ≤ 5) (hy : Els 5 ys) : oneC 5 2 (K : Int) (plN n) ys = if (n : Int) < 2 + 2 * (K : Int) then 5 else 0 := by
  unfold oneC
  rw [if_pos ⟨vB_5, by omega, by omega, by rw [plN_len, hl], by rw [plN_len]; omega, plN_els h5, hy, plN_nodup n⟩, plN_len]
theorem only_few {n K : Nat} {ys f : List Int} {c : Int} (hl : ys.length = n) (h5 : n ≤ 5) (hy : Els 5 ys) (h : OneA 5 2 (K : Int) (plN n) ys f c) (hk : n < 2 + 2 * K) : c = 5 := by
  have hc := only_c (K := K) hl h5 hy
  rw [if_pos (by omega)] at hc
  have h2 := (h.1 (by rw [hc]; decide)).2
  rw [h2, hc]
theorem only_r {n K : Nat} {ys f : List Int} {c : Int} (hl : ys.length = n) (h5 : n ≤ 5) (hy : Els 5 ys) (h : OneA 5 2 (K : Int) (plN n) ys f c) (hk : ¬ n < 2 + 2 * K) : (c = 0 ∨ c = 9) ∧ OneR 5 2 K (plN n) ys f c := by
  have hc := only_c (K := K) hl h5 hy
  rw [if_neg (by omega)] at hc
  exact h.2 hc
theorem oneB_pol {n K c : Nat} {ys : List Int} (hl : ys.length = n) (hc : c ∈ fnd ys n K 25) : OneB 5 2 K (plN n) ys (sh (pol c)) := by
  have h1 := fnd_lt hc
  have h2 : n ≤ gdc ys c n + K := by simpa using (List.mem_filter.1 hc).2
  have h3 := mis_hit (f := sh (pol c)) hl (fun x => E_sh (pol c) x)
  exact ⟨sh_els (pol_els h1), sh_sh _, by rw [sh_len]; exact dg_le _, by omega⟩
theorem only_none {n K : Nat} {ys f : List Int} {c : Int} (hl : ys.length = n) (h5 : n ≤ 5) (hy : Els 5 ys) (h : OneA 5 2 (K : Int) (plN n) ys f c) (hk : ¬ n < 2 + 2 * K) (he : fnd ys n K 25 = []) : c = 9 ∧ f = [] := by
  obtain ⟨h1, h2⟩ := only_r hl h5 hy h hk
  rcases h1 with rfl | rfl
  · exfalso
    have h3 := h2.ok rfl
    obtain ⟨c0, hc0, hE⟩ := short2 h3.els h3.len
    have h4 := mis_hit hl hE
    have h5 := h3.few
    have h6 : c0 ∈ fnd ys n K 25 := List.mem_filter.2 ⟨List.mem_range.2 hc0, by simp; omega⟩
    rw [he] at h6
    cases h6
  · exact ⟨rfl, (h2.no (by decide)).1⟩
theorem only_one {n K : Nat} {ys f : List Int} {c : Int} (hl : ys.length = n) (h5 : n ≤ 5) (hy : Els 5 ys) (h : OneA 5 2 (K : Int) (plN n) ys f c) (hk : ¬ n < 2 + 2 * K) (he : fnd ys n K 25 ≠ []) :
    ∃ c0 : Nat, c0 < 25 ∧ c = 0 ∧ fnd ys n K 25 = [c0] ∧ E f 0 % 5 = (c0 : Int) / 5 ∧ E f 1 % 5 = ((c0 : Int) / 5 + (c0 : Int) % 5) % 5 ∧ f.length ≤ 2 ∧ Els 5 f := by
  obtain ⟨h1, h2⟩ := only_r hl h5 hy h hk
  obtain ⟨c0, hc0⟩ := List.exists_mem_of_ne_nil _ he
  have hc : c = 0 := by
    rcases h1 with rfl | rfl
    · rfl
    · exact absurd (oneB_pol hl hc0) ((h2.no (by decide)).2 _)
  subst hc
  have h3 := h2.ok rfl
  have hu : ∀ d, d ∈ fnd ys n K 25 → f = sh (pol d) := fun d hd =>
    one_unique prm_5 (by rw [plN_len, hl]) (plN_nodup n) (plN_els h5) (by rw [plN_len]; omega) h3 (oneB_pol hl hd)
  have hv : ∀ d, d ∈ fnd ys n K 25 → E f 0 % 5 = (d : Int) / 5 ∧ E f 1 % 5 = ((d : Int) / 5 + (d : Int) % 5) % 5 := fun d hd => by
    have h6 := fnd_lt hd
    rw [hu d hd, E_sh, E_sh, pol_E, pol_E]
    constructor
    · rw [Int.mul_zero, Int.add_zero]; omega
    · rw [Int.mul_one]
  have hd0 : ∀ d, d ∈ fnd ys n K 25 → d = c0 := fun d hd => by
    have a1 := hv d hd
    have a2 := hv c0 hc0
    have a3 := fnd_lt hd
    have a4 := fnd_lt hc0
    omega
  have hnd : (fnd ys n K 25).Nodup := List.nodup_range.filter _
  refine ⟨c0, fnd_lt hc0, rfl, ?_, (hv c0 hc0).1, (hv c0 hc0).2, h3.len, h3.els⟩
  match hF : fnd ys n K 25, hd0, hnd with
  | [], _, _ => rw [hF] at hc0; cases hc0
  | [d], hd0, _ => rw [hd0 d (by simp)]
  | d :: d' :: l, hd0, hnd =>
    have e1 := hd0 d (by simp)
    have e2 := hd0 d' (by simp)
    subst e1
    simp [e2] at hnd
end Go.Proofs.YtkcbbdkijlipfaaDoor
