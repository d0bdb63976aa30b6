
/- Lists of numbers written: the document's PutInts. -/
import Derived.Test.YtadhmmklhhaagaaDoorVTxt
import Derived.Test.YtadhmmklhhaagaaDoorWf
namespace Go.Proofs.YtadhmmklhhaagaaDoor
open Go.RowKit
set_option linter.unusedVariables false

theorem Ints.at' {w : World} {a : Option Addr} {n c : Nat} {l : List Int} (h : Ints w (.slice a n c) l) {k : Nat} (hk : k < n) : ∃ b off, a = some ⟨b, off, none⟩ ∧ w.cell? ⟨b, off + k, none⟩ = some (.int .i64 (l.getD k 0)) := by
  obtain ⟨a', c', hv, _, hc⟩ := h
  simp only [Value.slice.injEq] at hv
  obtain ⟨rfl, rfl, _⟩ := hv
  obtain ⟨b, off, ha, hx⟩ := hc (fun e => by subst e; simp at hk)
  exact ⟨b, off, ha, hx k hk⟩
/-- Numbers as they are written, one after the other. -/
def gnums (l : List Int) : List UInt8 := l.flatMap fun x => Vi.grp (Vi.zz x)
theorem gnums_next (l : List Int) (k : Nat) (hk : k < l.length) : gnums (l.take k) ++ Vi.grp (Vi.zz (l.getD k 0)) = gnums (l.take (k + 1)) := by
  unfold gnums
  rw [List.take_add_one, List.flatMap_append, List.getElem?_eq_getElem hk]
  simp [List.getElem?_eq_getElem hk]
theorem gnums_len (l : List Int) (h : ∀ x ∈ l, in64 x) : (gnums l).length ≤ 10 * l.length := by
  induction l with
  | nil => simp [gnums]
  | cons x r ih =>
    have h1 := ih (fun y hy => h y (List.mem_cons_of_mem _ hy))
    have h2 := Vi.grp_len10 (Vi.zz_lt x (h x (List.mem_cons_self ..)))
    unfold gnums at h1 ⊢
    rw [List.flatMap_cons, List.length_append, List.length_cons]
    omega

end Go.Proofs.YtadhmmklhhaagaaDoor
