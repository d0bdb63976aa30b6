
/- The walk of ShareExplains, upon the contracts of both sides' Explain. -/
import Derived.Test.YtgenollnnfljkaaDoorHCbl
namespace Go.Proofs.YtgenollnnfljkaaDoor
open Go.RowKit Go.Sort
open Num
set_option linter.unusedVariables false

theorem SharesN.bge {w : World} {base b off n c : Nat} {L : List Shr} (h : SharesN w base (.slice (some ⟨b, off, none⟩) n c) L) (hn : 0 < n) : base ≤ b := by
  obtain ⟨a, c', hv, _, _, _, hx⟩ := h
  simp only [Value.slice.injEq] at hv
  obtain ⟨rfl, rfl, rfl⟩ := hv
  obtain ⟨b', off', e, hge, _⟩ := hx (fun e => by rw [e] at hn; simp at hn)
  simp only [Option.some.injEq, Addr.mk.injEq] at e
  obtain ⟨rfl, _⟩ := e
  exact hge
def lst4 (a b c d : Value) : Nat → Value
  | 0 => a | 1 => b | 2 => c | _ => d
/-- What stands when the lists are laid. -/
structure XpS (w1 W : World) (g gp A : Nat) (s : Value) (l : List Int) (p k n : Int) (v : Value) (Y : List Int) (V : Nat → Value) : Prop where
  st : StL w1 W g gp s l p k n
  ys : Gath W (g + 1) v Y
  ar : ∀ j, j < 4 → W.cell? ⟨A, j, none⟩ = some (V j)
  la : g < A
  sa : A < W.heap.size
  ls : ∀ j, j < 4 → LstK w1 W g (V j)
theorem XpS.but {w1 W W' : World} {g gp A : Nat} {s : Value} {l : List Int} {p k n : Int} {v : Value} {Y : List Int} {V : Nat → Value} (h : XpS w1 W g gp A s l p k n v Y V) (b : But g W W') (hd : DiceAt W' g s l) : XpS w1 W' g gp A s l p k n v Y V := by
  have h2 := h.la
  refine ⟨h.st.but b hd, h.ys.but b (Nat.lt_succ_self g), fun j hj => ?_, h.la, Nat.lt_of_lt_of_le h.sa b.size, fun j hj => (h.ls j hj).but b⟩
  rw [b.cell (p := ⟨A, j, none⟩) h.sa (by show A ≠ g; omega)]
  exact h.ar j hj
theorem region_oneL {P : Program} {id : Nat} {ops : Array Oper} {d : Bool} {Q : Exit → Act → World → Prop} {a : Act} {w : World} (R : Option Addr → Nat → Nat → Nat → World → Prop) (A : Option Addr → Nat → Nat → Nat → Act) (hr : (Code.region id ops d).wp P (fun e a' W => e = .normal ∧ ∃ x n c m, a' = A x n c m ∧ R x n c m W) a w)
    (h : ∀ x n c m W, R x n c m W → Q .normal (A x n c m) W) : (Code.region id ops d).wp P Q a w :=
  Code.wp_mono (fun _ _ _ ⟨h1, x, n, c, m, h2, h3⟩ => by subst h1; subst h2; exact h x n c m _ h3) hr
/-- What the document's Explain is asked: still to be shown. -/
def ExpP2 : Prop := ∀ (p k n : Int) (vk vs : Value) (L : List Shr) (S : List Int) (w : World), (Lit.int .i64 p).wf = true → Shares w vk L → Ints w vs S → S.length ≤ 1000 →
  Calls Tryd.prog 31 #[planV p k n, vk, vs] w fun e w' => ∃ v, e = .returned (.tuple #[v, .int .i64 (expE p k n L S)]) ∧ SharesN w' w.heap.size v (expR p k n L S) ∧ Below w.heap.size w w'
end Go.Proofs.YtgenollnnfljkaaDoor
