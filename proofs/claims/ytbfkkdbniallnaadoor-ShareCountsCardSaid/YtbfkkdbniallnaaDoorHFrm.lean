
/- What the frames of layer 6's statements share: plans and slices that come in. -/
import Derived.Test.YtbfkkdbniallnaaDoorFrame
import Derived.Test.YtbfkkdbniallnaaDoorWf
import Derived.Test.YtbfkkdbniallnaaDoorHShr
import Derived.Lib.SmallJoins
namespace Go.Proofs.YtbfkkdbniallnaaDoor
open Go.ChangeShapes Go.WideShapes Go.ChangeAt Go.RowKit Go.Joins
set_option linter.unusedVariables false

theorem cellsPlan : Tryd.prog.cellsOf 24 = 3 := by kernel_rfl
theorem shape_lt {W : World} {b : Nat} {x : TypeId × Nat} (h : W.shape? b = some x) : b < W.heap.size := by
  unfold World.shape? at h
  by_cases hb : b < W.heap.size
  · exact hb
  · rw [Array.getElem?_eq_none (by omega)] at h; simp at h
set_option maxRecDepth 100000 in
/-- What is known of the room of a slice that came in. -/
theorem okWide_room {P : Program} {W : World} {base : Nat} {t e : TypeId} {a : Option Addr} {len cap : Nat} (ht : P.underlying t = some (.slice e)) (h : Value.okWide P W .any base t (.slice a len cap)) :
    len ≤ cap ∧ cap ≤ 9223372036854775807 ∧ ∀ q, (Value.slice a len cap).ownBlock = some q → q < W.heap.size := by
  simp only [Value.okWide, ht, Cell.okWide, Cell.ok] at h
  cases a with
  | none =>
    split at h <;> simp_all [Value.ownBlock]
  | some ad =>
    split at h <;> simp_all [Value.ownBlock]
    all_goals
      obtain ⟨h1, h2, _, _, row, cells, hs, _⟩ := h
      exact ⟨by omega, shape_lt hs⟩
set_option maxRecDepth 100000 in
theorem slc_open {W : World} {base : Nat} {t e : TypeId} {a : Option Addr} {len cap : Nat} {l : List Int} (ht : Tryd.prog.underlying t = some (.slice e)) (h : Value.okWide Tryd.prog W .any base t (.slice a len cap)) (hI : Ints W (.slice a len cap) l) :
    Slc W (.slice a len cap) l ∧ ∀ q, (Value.slice a len cap).ownBlock = some q → q < W.heap.size := by
  obtain ⟨h1, h2, h3⟩ := okWide_room ht h
  refine ⟨?_, h3⟩
  obtain ⟨a', c', e1⟩ := hI.shape
  simp only [Value.slice.injEq] at e1
  obtain ⟨rfl, rfl, rfl⟩ := e1
  exact ⟨a, cap, rfl, h1, h2, hI⟩
set_option maxRecDepth 100000 in
theorem plan_open {H : Type} {enc : TypeId × Value → H} {W : World} {base : Nat} {v : Value} {d : DataW H} {p : List MemPlace} (hv : Value.okWide Tryd.prog W .any base 24 v) (h : DataW.Trod enc Tryd.prog W 0 (fun _ => true) true 24 v d p) :
    ∃ x y z : Int, v = planV x y z ∧ d = .agg [.lit (.int .i64 x), .lit (.int .i64 y), .lit (.int .i64 z)] ∧ p = [] ∧ (Lit.int .i64 x).wf = true ∧ (Lit.int .i64 y).wf = true ∧ (Lit.int .i64 z).wf = true := by
  obtain ⟨c0, c1, c2, y0, y1, y2, m, rfl, rfl, rfl, hy0, hy1, hy2⟩ := open_agg3 Tryd.underlying24 (by kernel_rfl) cellsPlan hv h
  obtain ⟨a, e0, rfl, wa⟩ := DataW.trod_int Tryd.underlying3 hy0
  obtain ⟨b, e1, rfl, wb⟩ := DataW.trod_int Tryd.underlying3 hy1
  obtain ⟨c, e2, rfl, wc⟩ := DataW.trod_int Tryd.underlying3 hy2
  simp at e0 e1 e2
  subst e0 e1 e2
  exact ⟨a, b, c, rfl, rfl, rfl, wa, wb, wc⟩
set_option maxRecDepth 100000 in
theorem plan_shut {H : Type} {enc : TypeId × Value → H} {W : World} {sp : Nat → Bool} {x y z : Int} (wx : (Lit.int .i64 x).wf = true) (wy : (Lit.int .i64 y).wf = true) (wz : (Lit.int .i64 z).wf = true) :
    DataW.Trod enc Tryd.prog W 0 sp true 24 (planV x y z) (.agg [.lit (.int .i64 x), .lit (.int .i64 y), .lit (.int .i64 z)]) [] :=
  shut_agg3 (y0 := (.lit (.int .i64 x), [])) (y1 := (.lit (.int .i64 y), [])) (y2 := (.lit (.int .i64 z), [])) Tryd.underlying24 (by kernel_rfl) cellsPlan ⟨1, by simp [DataW.trod, Tryd.underlying3, wx]⟩ ⟨1, by simp [DataW.trod, Tryd.underlying3, wy]⟩ ⟨1, by simp [DataW.trod, Tryd.underlying3, wz]⟩
end Go.Proofs.YtbfkkdbniallnaaDoor
