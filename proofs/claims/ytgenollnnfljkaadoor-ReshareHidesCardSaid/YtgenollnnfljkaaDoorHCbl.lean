
/- The walk of ShareCombines: its beginning. -/
import Derived.Test.YtgenollnnfljkaaDoorHOdd
import Derived.Test.YtgenollnnfljkaaDoorHDlt
import Derived.Test.YtgenollnnfljkaaDoorHHLaw
namespace Go.Proofs.YtgenollnnfljkaaDoor
open Go.RowKit Go.Sort
open Num
set_option linter.unusedVariables false

/-- A list of shares that a statement holds: from before the dice, or made since. -/
def LstX (w1 W : World) (g : Nat) (v : Value) (X : List Shr) : Prop := Shares w1 v X ∨ SharesN W (g + 1) v X
theorem LstX.but {w1 W W' : World} {g : Nat} {v : Value} {X : List Shr} (h : LstX w1 W g v X) (k : But g W W') : LstX w1 W' g v X := by
  rcases h with h1 | h1
  · exact .inl h1
  · exact .inr (h1.but k (Nat.lt_succ_self g))
theorem LstX.shares {w1 W : World} {g : Nat} {v : Value} {X : List Shr} (h : LstX w1 W g v X) (b : Below g w1 W) (hg : w1.heap.size ≤ g) : Shares W v X := by
  rcases h with h1 | h1
  · exact h1.below hg b
  · exact h1.shares
def LstK (w1 W : World) (g : Nat) (v : Value) : Prop := ∃ X : List Shr, LstX w1 W g v X ∧ X.length ≤ 100 ∧ ∀ x ∈ X, x.2.length ≤ 100001
theorem LstK.but {w1 W W' : World} {g : Nat} {v : Value} (h : LstK w1 W g v) (k : But g W W') : LstK w1 W' g v := by
  obtain ⟨X, h1, h2, h3⟩ := h
  exact ⟨X, h1.but k, h2, h3⟩
theorem LstK.ofN {w1 W : World} {g B : Nat} {v : Value} {X : List Shr} (h : SharesN W B v X) (hB : g + 1 ≤ B) (h2 : X.length ≤ 100) (h3 : ∀ x ∈ X, x.2.length ≤ 100001) : LstK w1 W g v := ⟨X, .inr (h.mono hB), h2, h3⟩
theorem shares_one {W : World} {ad : Nat} {h : Int} {v : Value} {l : List Int} (c0 : W.cell? ⟨ad, 0, none⟩ = some (.int .i64 h)) (c1 : W.cell? ⟨ad, 1, none⟩ = some v) (hI : Ints W v l) : Shares W (.slice (some ⟨ad, 0, none⟩) 1 1) [(h, l)] := by
  refine ⟨_, 1, rfl, by simp, by simp, by omega, fun _ => ⟨ad, 0, rfl, fun i hi => ?_⟩⟩
  obtain rfl : i = 0 := by simpa using hi
  exact ⟨v, c0, c1, hI⟩
theorem ShAt.belowB {w w' : World} {g B : Nat} {h : Int} {v : Value} (hs : ShAt w g h v) (b : Below B w w') (hB : g < B) : ShAt w' g h v := by
  obtain ⟨t, hs⟩ := hs
  exact ⟨t, by rw [b.block g hB]; exact hs⟩
theorem addR_len (p k n : Int) (a b : Shr) : (addR p k n a b).2.length ≤ a.2.length + b.2.length := by
  unfold addR
  split
  · simp only; rw [linF_len]; omega
  · simp
theorem same_lits (W : World) {x y : Nat} {h : Int} {v v' : Value} {l : List Int} (a : ShAt W x h v) (ai : Ints W v l) (b : ShAt W y h v') (bi : Ints W v' l) :
    Calls Tryd.prog 21 #[.slice (some ⟨x, 0, none⟩) 1 1, .slice (some ⟨y, 0, none⟩) 1 1] W fun e w' => e = .returned (.bool true) ∧ Below W.heap.size W w' :=
  sameS_yes _ _ [(h, l)] W (shares_one a.c0 a.c1 ai) (shares_one b.c0 b.c1 bi)
theorem ShAt.allocB {w : World} {g : Nat} {h : Int} {v : Value} (hs : ShAt w g h v) (o : Obj) : ShAt (w.alloc o) g h v :=
  hs.belowB ((Below.refl w.heap.size w).alloc (Nat.le_refl _) o) (by obtain ⟨t, hs⟩ := hs; exact block_lt hs)
theorem Ints.allocB {w : World} {v : Value} {l : List Int} (h : Ints w v l) (o : Obj) : Ints (w.alloc o) v l :=
  h.below (Nat.le_refl _) ((Below.refl w.heap.size w).alloc (Nat.le_refl _) o)
theorem shAt_new1 (w : World) (o : Obj) (h : Int) (v : Value) (t : TypeId) : ShAt ((w.alloc o).alloc (.cells #[.int .i64 h, v] t)) (w.heap.size + 1) h v := by
  have h1 := shAt_new (w.alloc o) h v t
  rwa [show (w.alloc o).heap.size = w.heap.size + 1 by simp] at h1
/-- What stands when the lists are laid. -/
structure CbS (w1 W : World) (g gp go A : Nat) (s : Value) (l : List Int) (p k n k2 : Int) (v : Value) (D : List Shr) (V : Nat → Value) : Prop where
  st : StL w1 W g gp s l p k n
  ot : PlanR W go p k2 n
  lt : g < go
  sh : SharesN W (g + 1) v D
  ar : ∀ j, j < 5 → W.cell? ⟨A, j, none⟩ = some (V j)
  la : g < A
  sa : A < W.heap.size
  ls : ∀ j, j < 5 → LstK w1 W g (V j)
theorem CbS.but {w1 W W' : World} {g gp go A : Nat} {s : Value} {l : List Int} {p k n k2 : Int} {v : Value} {D : List Shr} {V : Nat → Value} (h : CbS w1 W g gp go A s l p k n k2 v D V) (b : But g W W') (hd : DiceAt W' g s l) : CbS w1 W' g gp go A s l p k n k2 v D V := by
  have h1 := h.lt
  have h2 := h.la
  refine ⟨h.st.but b hd, h.ot.but b (by omega), h.lt, h.sh.but b (Nat.lt_succ_self g), fun j hj => ?_, h.la, Nat.lt_of_lt_of_le h.sa b.size, fun j hj => (h.ls j hj).but b⟩
  rw [b.cell (p := ⟨A, j, none⟩) h.sa (by show A ≠ g; omega)]
  exact h.ar j hj
def lst5 (a b c d e : Value) : Nat → Value
  | 0 => a | 1 => b | 2 => c | 3 => d | _ => e
theorem take_bound {L D : List Shr} {m M : Nat} (hp : L.Perm D) (h : ∀ x ∈ D, x.2.length ≤ M) : ∀ x ∈ L.take m, x.2.length ≤ M := fun x hx => h x (hp.mem_iff.1 (List.mem_of_mem_take hx))
theorem take_len {L D : List Shr} {m : Nat} (hm : m ≤ D.length) : (L.take m).length ≤ D.length := by rw [List.length_take]; omega
end Go.Proofs.YtgenollnnfljkaaDoor
