
/- Mathematics of the document's answer for Through: nothing of the program's walks. -/
import Derived.Test.YtpohhgbmdgjipaaRfI
namespace Go.Proofs.Ytpohhgbmdgjipaa
open Go.RowKit
open Num
set_option linter.unusedVariables false

/-- The polynomial that is 0 at all places but number i, after j places. -/
structure OneP (p : Int) (xs : List Int) (i j : Nat) (Z : List Int) : Prop where
  els : Els p Z
  len : Z.length ≤ j + 1
  len2 : i < j → Z.length ≤ j
  val : ∀ t, Cg p (E Z t) (PK xs i t j)
theorem oneP_start {p : Int} (hp : 2 ≤ p) (xs : List Int) (i : Nat) : OneP p xs i 0 [1] :=
  ⟨fun x hx => by rw [List.mem_singleton.1 hx]; exact ⟨by omega, by omega⟩, by simp, fun h => by omega, fun t => Cg.of_eq (by simp [E, PK])⟩
theorem oneP_skip {p : Int} {xs Z : List Int} {i j : Nat} (h : OneP p xs i j Z) (hj : j = i) : OneP p xs i (j + 1) Z :=
  ⟨h.els, by have := h.len; omega, fun _ => h.len, fun t => by rw [PK_skip hj]; exact h.val t⟩
theorem oneP_step {p b : Int} {xs Z Z' : List Int} {i j : Nat} (h : OneP p xs i j Z) (hj : j ≠ i) (hb : xs.getD j 0 = b) (hz : Prod p Z [subF p 0 b, 1] Z') : OneP p xs i (j + 1) Z' := by
  have hl : Z'.length ≤ Z.length + 1 := by have := hz.len; simpa using this
  refine ⟨hz.els, by have := h.len; omega, fun hi => by have := h.len2 (by omega); omega, fun t => ?_⟩
  rw [PK, if_neg hj, hb]
  refine (hz.pc.cg t).trans ((h.val t).mul ?_)
  have e1 : E [subF p 0 b, 1] t = subF p 0 b + t * (1 + t * 0) := rfl
  rw [e1]
  exact ((Cg.subF p 0 b).add (Cg.refl p (t * (1 + t * 0)))).trans (Cg.of_eq (by grind))

/-- What the document has gathered of k places; and, in a place, of j coefficients. -/
structure LagP (p : Int) (xs ys : List Int) (k : Nat) (l : List Int) : Prop where
  els : Els p l
  len : l.length = xs.length
  val : ∀ t, Cg p (E l t) (sumTo (fun i => wt p xs t i * ys.getD i 0) k)
structure LagQ (p : Int) (xs ys Z : List Int) (v y : Int) (k j : Nat) (l : List Int) : Prop where
  els : Els p l
  len : l.length = xs.length
  val : ∀ t, Cg p (E l t) (sumTo (fun i => wt p xs t i * ys.getD i 0) k + E (Z.take j) t * (v * y))
theorem lagP_start {p : Int} (hp : 1 ≤ p) (xs ys : List Int) : LagP p xs ys 0 (List.replicate xs.length 0) :=
  ⟨fun x hx => by rw [(List.mem_replicate.1 hx).2]; exact el_zero hp, by simp, fun t => Cg.of_eq (by rw [E_zeros]; rfl)⟩
theorem lagQ_start {p v y : Int} {xs ys Z l : List Int} {k : Nat} (h : LagP p xs ys k l) : LagQ p xs ys Z v y k 0 l :=
  ⟨h.els, h.len, fun t => (h.val t).trans (Cg.of_eq (by simp [E]))⟩
theorem lagQ_step {p v y u c : Int} {xs ys Z l : List Int} {k j : Nat} (hp : 1 ≤ p) (h : LagQ p xs ys Z v y k j l) (hj : j < l.length) (hc : Z.getD j 0 = c) (hu : u = (l.getD j 0 + c * v % p * y) % p) : LagQ p xs ys Z v y k (j + 1) (l.set j u) := by
  have hue : El p u := by rw [hu]; exact el_mod hp _
  refine ⟨fun x hx => ?_, by rw [List.length_set]; exact h.len, fun t => ?_⟩
  · rcases List.mem_or_eq_of_mem_set hx with h1 | h1
    · exact h.els x h1
    · rw [h1]; exact hue
  · have hcu : Cg p u (l.getD j 0 + c * v * y) := by
      rw [hu]
      exact (Cg.mod p _).trans ((Cg.refl p _).add ((Cg.mod p _).mul (Cg.refl p y)))
    have h1 := (Pc.set l j u _ hj hcu).cg t
    refine h1.trans ?_
    rw [E_take_succ, hc]
    refine ((h.val t).add (Cg.refl p (t ^ j * (l.getD j 0 + c * v * y - l.getD j 0)))).trans (Cg.of_eq ?_)
    grind
theorem lagP_step {p v y : Int} {xs ys Z l : List Int} {k : Nat} (hk : k < xs.length) (h : LagQ p xs ys Z v y k Z.length l) (hz : OneP p xs k xs.length Z) (hy : ys.getD k 0 = y)
    (hv : v = iv0 p (PK xs k (xs.getD k 0) xs.length % p)) : LagP p xs ys (k + 1) l := by
  refine ⟨h.els, h.len, fun t => (h.val t).trans ?_⟩
  rw [List.take_length, sumTo, hy]
  refine (Cg.refl p _).add ?_
  have h1 := hz.val t
  rw [PK_rest hk] at h1
  rw [hv, PK_rest hk]
  exact ((h1.mul (Cg.refl p (iv0 p (prodE (rest xs k) (xs.getD k 0) % p) * y))).trans (Cg.of_eq (by grind))).trans (((wt_cg p xs t k).symm).mul (Cg.refl p y))
theorem lagP_thru {p : Int} (hp : PrmI p) {xs ys l : List Int} (hn : xs.Nodup) (he : Els p xs) (h : LagP p xs ys xs.length l) : Thru p xs ys (sh l) := by
  refine ⟨sh_els h.els, sh_sh l, by rw [sh_len, ← h.len]; exact dg_le l, fun j hj => ?_⟩
  rw [E_sh]
  refine (h.val _).trans ?_
  have h1 := sumTo_one (p := p) (f := fun i => wt p xs (xs.getD j 0) i * ys.getD i 0) (k := j) xs.length fun i hi hne => by
    have h2 := (wt_zero (p := p) hj (Ne.symm hne)).mul (Cg.refl p (ys.getD i 0))
    rwa [Int.zero_mul] at h2
  rw [if_pos hj] at h1
  have h3 := (wt_one hp hn he hj).mul (Cg.refl p (ys.getD j 0))
  rw [Int.one_mul] at h3
  exact h1.trans h3
end Go.Proofs.Ytpohhgbmdgjipaa
