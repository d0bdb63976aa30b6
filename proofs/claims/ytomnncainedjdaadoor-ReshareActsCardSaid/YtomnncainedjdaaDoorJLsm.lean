
/- Sums of lists of shares, in the statements' terms. -/
import Derived.Test.YtomnncainedjdaaDoorJLaw
namespace Go.Proofs.YtomnncainedjdaaDoor
open Go.RowKit Go.Sort
open Num
set_option linter.unusedVariables false

theorem apR_row {p k n : Int} {K N : Nat} {S T : List Int} {f g : Nat → List Int} {V U : Int → List Int} (hp : planB p k n = true) (hn : n = (N : Int)) (h : SecV p K S f V) (q : SecV p K T g U) (hl : T.length = S.length) (hm : S.length ≤ 2048) (r : List (List Shr)) : sumGo p k n (rowL N V) (rowL N U :: r) = sumGo p k n (rowL N (addV p V U)) r := by
  have hk := ap_row hp hn h q hl hm
  rw [sumGo_step hk.1, hk.2]
theorem sum_two {p k n : Int} {K N : Nat} {S T : List Int} {f g : Nat → List Int} {V U : Int → List Int} (hp : planB p k n = true) (hn : n = (N : Int)) (h : SecV p K S f V) (q : SecV p K T g U) (hl : T.length = S.length) (hm : S.length ≤ 2048) : sumR p k n [rowL N V, rowL N U] = (0, rowL N (addV p V U)) := by
  obtain ⟨q1, q2, _⟩ := planB_parts hp
  show (if planB p k n = true ∧ goodB p n (rowL N V) = true then sumGo p k n (rowL N V) [rowL N U] else (1, [])) = _
  rw [if_pos ⟨hp, by rw [hn]; exact goodB_of_gd q1 q2 h.gd hm⟩, apR_row hp hn h q hl hm]
  rfl
theorem lin_zeros {p : Int} (hp : 1 ≤ p) (c : Nat) : linF p (List.replicate c 0) (List.replicate c 0) 1 = List.replicate c 0 :=
  lin_zero hp (els_zeroL hp c) rfl fun x hx => List.eq_of_mem_replicate hx
/-- Shares of zeros. -/
def Zer (p : Int) (K c : Nat) (U : Int → List Int) : Prop := ∃ g, SecV p K (List.replicate c 0) g U
theorem Zer.add {p : Int} (hp : 1 ≤ p) {K c : Nat} {U V : Int → List Int} (h : Zer p K c U) (q : Zer p K c V) : Zer p K c (addV p U V) := by
  obtain ⟨f, hf⟩ := h
  obtain ⟨g, hg⟩ := q
  have := hf.add hp hg rfl
  rw [lin_zeros hp] at this
  exact ⟨_, this⟩
theorem sumGo_many {p k n : Int} {K N c : Nat} (hp : planB p k n = true) (hn : n = (N : Int)) (hc : c ≤ 2048) : ∀ (Us : List (Int → List Int)) (V : Int → List Int), Zer p K c V → (∀ U ∈ Us, Zer p K c U) → ∃ U', sumGo p k n (rowL N V) (Us.map (rowL N)) = (0, rowL N U') ∧ Zer p K c U'
  | [], V, h, _ => ⟨V, rfl, h⟩
  | U :: Us, V, h, hu => by
    have hp1 : 1 ≤ p := by have := (planB_parts hp).1.1; omega
    obtain ⟨f, hf⟩ := id h
    obtain ⟨g, hg⟩ := hu U (List.mem_cons_self ..)
    rw [List.map_cons, apR_row hp hn hf hg rfl (by rw [List.length_replicate]; exact hc)]
    exact sumGo_many hp hn hc Us _ (h.add hp1 ⟨g, hg⟩) fun W hW => hu W (List.mem_cons_of_mem _ hW)
theorem sum_many {p k n : Int} {K N c : Nat} (hp : planB p k n = true) (hn : n = (N : Int)) (hc : c ≤ 2048) (Us : List (Int → List Int)) (h0 : Us ≠ []) (hu : ∀ U ∈ Us, Zer p K c U) : ∃ U', sumR p k n (Us.map (rowL N)) = (0, rowL N U') ∧ Zer p K c U' := by
  obtain ⟨q1, q2, _⟩ := planB_parts hp
  cases Us with
  | nil => exact absurd rfl h0
  | cons V Us =>
    obtain ⟨f, hf⟩ := hu V (List.mem_cons_self ..)
    obtain ⟨U', h1, h2⟩ := sumGo_many (K := K) hp hn hc Us V ⟨f, hf⟩ fun W hW => hu W (List.mem_cons_of_mem _ hW)
    refine ⟨U', ?_, h2⟩
    show (if planB p k n = true ∧ goodB p n (rowL N V) = true then sumGo p k n (rowL N V) (Us.map (rowL N)) else (1, [])) = _
    rw [if_pos ⟨hp, by rw [hn]; exact goodB_of_gd q1 q2 hf.gd (by rw [List.length_replicate]; exact hc)⟩]
    exact h1
theorem lists_two {W : World} {va vb : Value} {A B : List Shr} {t : TypeId} (ha : Shares W va A) (hb : Shares W vb B) {q : Nat} (hq : W.heap.size = q) : ListsS (W.alloc (.cells #[va, vb] t)) (.slice (some ⟨q, 0, none⟩) 2 2) [A, B] := by
  subst hq
  have hal : Below W.heap.size W (W.alloc (.cells #[va, vb] t)) := (Below.refl _ _).alloc (Nat.le_refl _) _
  refine ⟨_, 2, rfl, by simp, by simp, by omega, fun _ => ⟨W.heap.size, 0, rfl, fun i hi => ?_⟩⟩
  match i, hi with
  | 0, _ => exact ⟨va, by rw [cell_new]; rfl, ha.below (Nat.le_refl _) hal⟩
  | 1, _ => exact ⟨vb, by rw [cell_new]; rfl, hb.below (Nat.le_refl _) hal⟩
section
variable {w0 W : World} {b gp : Nat} {s : Value} {l : List Int} {p : Int} {K N : Nat} {G : List (Value × List Int)} {M : List (Value × List Shr)}
theorem Lw.sameS (h : Lw w0 W b gp s l p ((K : Int) + 1) (N : Int) G M) {v z : Value} {L : List Shr} (hv : (v, L) ∈ M) (hz : (z, L) ∈ M) :
    Calls Tryd.prog 21 #[v, z] W fun e w' => e = .returned (.bool true) ∧ Lw w0 w' b gp s l p ((K : Int) + 1) (N : Int) G M :=
  (sameS_yes v z L W (h.getM hv).shares (h.getM hz).shares).mono fun e w' ⟨h1, h2⟩ => ⟨h1, h.below h2⟩
end
end Go.Proofs.YtomnncainedjdaaDoor
