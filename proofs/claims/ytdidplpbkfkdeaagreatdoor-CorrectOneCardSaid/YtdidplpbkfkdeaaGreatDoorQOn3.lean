
/- The document's One: the rows of its equations, what it returns. -/
import Derived.Test.YtdidplpbkfkdeaaGreatDoorQOn2
import Derived.Test.YtdidplpbkfkdeaaGreatDoorQOn1
import Derived.Test.YtdidplpbkfkdeaaGreatDoorRfD
namespace Go.Proofs.YtdidplpbkfkdeaaGreatDoor
open Go.RowKit Go.Sort
open Num
set_option linter.unusedVariables false

theorem els_snoc7 {p : Int} {R : List Int} {z : Int} (hR : Els p R) (hz : El p z) : Els p (R ++ [z]) := fun u hu => by
  rcases List.mem_append.1 hu with h | h
  · exact hR u h
  · rw [List.mem_singleton.1 h]; exact hz
theorem snoc_end (R : List Int) (z : Int) {n : Nat} (h : R.length = n) : (R ++ [z]).getD n 0 = z := by subst h; simp [List.getD]
theorem snoc_lt {R : List Int} (z : Int) {i : Nat} (h : i < R.length) : (R ++ [z]).getD i 0 = R.getD i 0 := append_getD_lt h
/-- The first part of a row: powers. -/
structure RowQ (p x : Int) (n : Nat) (R : List Int) (pw : Int) : Prop where
  len : R.length = n
  els : Els p R
  q : ∀ c, c < n → Cg p (R.getD c 0) (x ^ c)
  pe : El p pw
  pc : Cg p pw (x ^ n)
theorem rowQ_start {p : Int} (hp : 2 ≤ p) (x : Int) : RowQ p x 0 [] 1 :=
  ⟨rfl, fun u hu => by simp at hu, fun c h => by omega, ⟨by omega, by omega⟩, Cg.of_eq (by simp)⟩
theorem RowQ.step {p x : Int} (hp : 1 ≤ p) {n : Nat} {R : List Int} {pw : Int} (h : RowQ p x n R pw) : RowQ p x (n + 1) (R ++ [pw]) (pw * x % p) :=
  ⟨by simp [h.len], els_snoc7 h.els h.pe, fun c hc => by
    by_cases e : c = n
    · rw [e, snoc_end _ _ h.len]; exact h.pc
    · rw [snoc_lt _ (by rw [h.len]; omega)]; exact h.q c (by omega), el_mod hp _,
   (Cg.mod p _).trans (by rw [Int.pow_succ]; exact h.pc.mul (Cg.refl p x))⟩
/-- .. and the second part. -/
structure RowE (p x y : Int) (m n : Nat) (R : List Int) (pw : Int) : Prop where
  len : R.length = m + n
  els : Els p R
  q : ∀ c, c < m → Cg p (R.getD c 0) (x ^ c)
  e : ∀ c, c < n → Cg p (R.getD (m + c) 0) (-(x ^ c * y))
  pe : El p pw
  pc : Cg p pw (x ^ n)
theorem rowE_start {p x : Int} (y : Int) {m : Nat} {R : List Int} {pw : Int} (hp : 2 ≤ p) (h : RowQ p x m R pw) : RowE p x y m 0 R 1 :=
  ⟨h.len, h.els, h.q, fun c h => by omega, ⟨by omega, by omega⟩, Cg.of_eq (by simp)⟩
theorem RowE.step {p x y : Int} (hp : 1 ≤ p) {m n : Nat} {R : List Int} {pw : Int} (h : RowE p x y m n R pw) : RowE p x y m (n + 1) (R ++ [subF p 0 (pw * y % p)]) (pw * x % p) :=
  ⟨by simp [h.len]; omega, els_snoc7 h.els (el_sub hp _ _), fun c hc => by rw [snoc_lt _ (by rw [h.len]; omega)]; exact h.q c hc, fun c hc => by
    by_cases e : c = n
    · rw [e, snoc_end _ _ h.len]
      refine (Cg.subF p _ _).trans (((Cg.refl p 0).sub ((Cg.mod p _).trans (h.pc.mul (Cg.refl p y)))).trans (Cg.of_eq (by omega)))
    · rw [snoc_lt _ (by rw [h.len]; omega)]; exact h.e c (by omega), el_mod hp _,
   (Cg.mod p _).trans (by rw [Int.pow_succ]; exact h.pc.mul (Cg.refl p x))⟩
/-- A row. -/
structure RowOk (p x y : Int) (m t : Nat) (R : List Int) : Prop where
  len : R.length = m + t + 1
  els : Els p R
  q : ∀ c, c < m → Cg p (R.getD c 0) (x ^ c)
  e : ∀ c, c < t → Cg p (R.getD (m + c) 0) (-(x ^ c * y))
  v : Cg p (R.getD (m + t) 0) (x ^ t * y)
theorem RowE.done {p x y : Int} (hp : 1 ≤ p) {m n : Nat} {R : List Int} {pw : Int} (h : RowE p x y m n R pw) : RowOk p x y m n (R ++ [pw * y % p]) :=
  ⟨by simp [h.len], els_snoc7 h.els (el_mod hp _), fun c hc => by rw [snoc_lt _ (by rw [h.len]; omega)]; exact h.q c hc, fun c hc => by rw [snoc_lt _ (by rw [h.len]; omega)]; exact h.e c hc,
   by rw [snoc_end _ _ h.len]; exact (Cg.mod p _).trans (h.pc.mul (Cg.refl p y))⟩
/-- All rows so far. -/
structure RowsOk (p : Int) (k t i : Nat) (xs ys : List Int) (RR : List (List Int)) : Prop where
  len : RR.length = i
  row : ∀ j, j < i → RowOk p (xs.getD j 0) (ys.getD j 0) (k + t) t (RR.getD j [])
theorem rowsOk_nil (p : Int) (k t : Nat) (xs ys : List Int) : RowsOk p k t 0 xs ys [] := ⟨rfl, fun j h => by omega⟩
theorem RowsOk.step {p : Int} {k t i : Nat} {xs ys : List Int} {RR : List (List Int)} {R : List Int} (h : RowsOk p k t i xs ys RR) (hr : RowOk p (xs.getD i 0) (ys.getD i 0) (k + t) t R) : RowsOk p k t (i + 1) xs ys (RR ++ [R]) :=
  ⟨by simp [h.len], fun j hj => by
    by_cases e : j = i
    · have : (RR ++ [R]).getD i [] = R := by rw [← h.len]; simp [List.getD]
      rw [e, this]; exact hr
    · have h2 : j < RR.length := by rw [h.len]; omega
      have : (RR ++ [R]).getD j [] = RR.getD j [] := by simp [List.getD, List.getElem?_append, h2]
      rw [this]; exact h.row j (by omega)⟩
theorem RowsOk.bw {p : Int} {k t n : Nat} {xs ys : List Int} {RR : List (List Int)} (h : RowsOk p k t n xs ys RR) : BwM p k t n xs ys (fun i c => (RR.getD i []).getD c 0) :=
  ⟨fun i hi c hc => (h.row i hi).q c hc, fun i hi c hc => (h.row i hi).e c hc, fun i hi => (h.row i hi).v⟩
theorem RowsOk.elm {p : Int} (hp : 1 ≤ p) {k t n : Nat} {xs ys : List Int} {RR : List (List Int)} (h : RowsOk p k t n xs ys RR) : ElM p (k + t + t) n (fun i c => (RR.getD i []).getD c 0) := fun i hi c hc => els_getD hp (h.row i hi).els c
/-- What One returns, and where. -/
def OneW (p need lies : Int) (xs ys : List Int) (w : World) (e : Ending) (w' : World) : Prop := ∃ v f c, e = .returned (.tuple #[v, .int .i64 c]) ∧ OneA p need lies xs ys f c ∧ Ints w' v f ∧ Below w.heap.size w w'
section
variable {p need lies : Int} {xs ys : List Int} {w w' : World}
theorem oneW_bad {c : Int} (h : oneC p need lies xs ys = c) (hc : c ≠ 0) (hb : Below w.heap.size w w') : OneW p need lies xs ys w (.returned (.tuple #[.slice none 0 0, .int .i64 c])) w' :=
  ⟨_, [], c, rfl, ⟨fun _ => ⟨rfl, h.symm⟩, fun h0 => absurd (h.symm.trans h0) hc⟩, ints_zero _ _ _, hb⟩
theorem oneW_lies (h : oneC p need lies xs ys = 0) (hno : ∀ g, ¬ OneB p need.toNat lies.toNat xs ys g) (hb : Below w.heap.size w w') : OneW p need lies xs ys w (.returned (.tuple #[.slice none 0 0, .int .i64 9])) w' :=
  ⟨_, [], 9, rfl, ⟨fun h0 => absurd h h0, fun _ => ⟨.inr rfl, ⟨fun h0 => by omega, fun _ => ⟨rfl, hno⟩⟩⟩⟩, ints_zero _ _ _, hb⟩
theorem oneW_ok {f : List Int} {v : Value} (h : oneC p need lies xs ys = 0) (hB : OneB p need.toNat lies.toNat xs ys f) (hI : Ints w' v f) (hb : Below w.heap.size w w') : OneW p need lies xs ys w (.returned (.tuple #[v, .int .i64 0])) w' :=
  ⟨_, f, 0, rfl, ⟨fun h0 => absurd h h0, fun _ => ⟨.inl rfl, ⟨fun _ => hB, fun h0 => absurd rfl h0⟩⟩⟩, hI, hb⟩
end
end Go.Proofs.YtdidplpbkfkdeaaGreatDoor
