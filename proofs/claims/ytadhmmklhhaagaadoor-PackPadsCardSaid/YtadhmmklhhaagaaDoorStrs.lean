
/- Slices of strings: what they read as, and such that came in. -/
import Derived.Test.YtadhmmklhhaagaaDoorFrame
import Derived.Lib.Strings
import Derived.SliceStrings
namespace Go.Proofs.YtadhmmklhhaagaaDoor
open Go.RowKit
set_option linter.unusedVariables false

theorem bytes_ext {X Y : ByteArray} (h : X.data.toList = Y.data.toList) : X = Y := by
  cases X; cases Y
  simp at h
  subst h
  rfl
theorem beq_dec (x y : ByteArray) : (x.toList == y.toList) = decide (x = y) := by
  rw [ByteArray.toList_eq, ByteArray.toList_eq]
  by_cases h : x = y
  · subst h; simp
  · rw [decide_eq_false h]
    simp only [beq_eq_false_iff_ne]
    exact fun e => h (bytes_ext e)
/-- A slice that reads as a list of strings. -/
def Strs (w : World) (s : Value) (l : List ByteArray) : Prop :=
  ∃ a c, s = .slice a l.length c ∧ l.length ≤ 140737488355328 ∧ (∀ x ∈ l, x.size ≤ 140737488355328) ∧
    (l ≠ [] → ∃ b off, a = some ⟨b, off, none⟩ ∧ ∀ i, i < l.length → w.cell? ⟨b, off + i, none⟩ = some (.string (l.getD i ByteArray.empty)))
theorem Strs.below {w w' : World} {s : Value} {l : List ByteArray} (h : Strs w s l) {B : Nat} (hB : w.heap.size ≤ B) (b : Below B w w') : Strs w' s l := by
  obtain ⟨a, c, h1, h2, h3, h4⟩ := h
  refine ⟨a, c, h1, h2, h3, fun hl => ?_⟩
  obtain ⟨b', off, ha, hc⟩ := h4 hl
  refine ⟨b', off, ha, fun i hi => ?_⟩
  have h := hc i hi
  have hlt : b' < w.heap.size := cell_lt h
  rw [b.cell (p := ⟨b', off + i, none⟩) (by show b' < B; omega)]
  exact h
theorem Strs.at {w : World} {a : Option Addr} {n c : Nat} {l : List ByteArray} (h : Strs w (.slice a n c) l) {k : Nat} (hk : k < n) : ∃ b off, a = some ⟨b, off, none⟩ ∧ w.cell? ⟨b, off + k, none⟩ = some (.string (l.getD k ByteArray.empty)) := by
  obtain ⟨a', c', hv, _, _, hc⟩ := h
  simp only [Value.slice.injEq] at hv
  obtain ⟨rfl, rfl, _⟩ := hv
  obtain ⟨b, off, ha, hx⟩ := hc (fun e => by subst e; simp at hk)
  exact ⟨b, off, ha, hx k hk⟩
open Go.ChangeShapes Go.WideShapes

theorem cellsStr : Tryd.prog.cellsOf 9 = 1 := by kernel_rfl
theorem bytesStr : Tryd.prog.bytesOf 9 = 16 := by kernel_rfl
theorem weights_strs {H : Type} (P : Program) (e : TypeId) (l : List ByteArray) (x : ByteArray) (hx : x ∈ l) : x.data.toList.length ∈ DataW.weightsAll P e (Go.ChangeShapes.strs l : List (DataW H)) := by
  induction l with
  | nil => cases hx
  | cons y r ih =>
    unfold Go.ChangeShapes.strs at ih ⊢
    rw [List.map_cons, DataW.weightsAll, List.mem_append]
    rcases List.mem_cons.1 hx with rfl | h
    · left
      simp [DataW.weights]
    · right
      exact ih h
/-- A slice of strings that came in. -/
theorem strs_open {H : Type} {enc : TypeId × Value → H} {W : World} {fuel : Nat} {a : Option Addr} {len cap : Nat} {d : DataW H} {m : List MemPlace} {ts : List TypeId} {ds : List (DataW H)}
    (hf : DataW.trod enc Tryd.prog W 0 (fun _ => true) true fuel 30 (Value.slice a len cap).cells.toList = some (d, m))
    (hsz : (DataW.weightsEach Tryd.prog ts ds).all (· ≤ reachBytes) = true) (j : Nat) (ht : ts[j]? = some 30) (hd : ds[j]? = some d) : ∃ l, Strs W (.slice a len cap) l := by
  rcases open_strings Tryd.underlying30 Tryd.underlying9 cellsStr hf with ⟨hcs, _⟩ | ⟨x, n, c, ss, hcs, _, hl, hm, hz, hx, hcell, _⟩
  · simp [Value.cells] at hcs
    obtain ⟨rfl, rfl, rfl⟩ := hcs
    exact ⟨[], none, 0, rfl, by simp, (fun x hx => by cases hx), fun h => absurd rfl h⟩
  · simp [Value.cells] at hcs
    obtain ⟨rfl, rfl, rfl⟩ := hcs
    simp only [Prod.mk.injEq] at hx
    obtain ⟨rfl, _⟩ := hx
    have hr := sized_slice hsz ht hd Tryd.underlying30
    rw [bytesStr] at hr
    simp only [if_true] at hz
    have hlen : (ss.take len).length = len := by rw [List.length_take]; omega
    have hb : len ≤ 140737488355328 := by
      simp only [Go.ChangeShapes.strs, List.length_map, List.length_take, List.length_drop] at hr
      have := reachBytes_lt
      omega
    have hsmall : ∀ y ∈ ss.take len, y.size ≤ 140737488355328 := fun y hy => by
      have h1 := List.all_eq_true.1 hsz _ (DataW.weights_mem_each ht hd y.data.toList.length (by
        rw [DataW.weights, Tryd.underlying30]
        exact List.mem_cons_of_mem _ (List.mem_append_left _ (weights_strs _ _ _ _ hy))))
      have h2 : y.data.toList.length ≤ reachBytes := by simpa using h1
      have := reachBytes_lt
      rw [Lib.size_eq]
      omega
    refine ⟨ss.take len, some x, cap, by rw [hlen], by omega, hsmall, fun hne => ?_⟩
    have h0 : 0 < len := by
      by_cases h : 0 < len
      · exact h
      · obtain rfl : len = 0 := by omega
        simp at hne
    obtain ⟨b, off, spot⟩ := x
    have hc0 := hcell 0 (by omega)
    have hspot : spot = none := by simpa [Addr.add] using World.cell?_spot hc0
    subst hspot
    refine ⟨b, off, rfl, fun i hi => ?_⟩
    have hci := hcell i (by omega)
    have e : (ss.take len).getD i ByteArray.empty = ss.getD i ByteArray.empty := by
      simp only [List.getD]
      rw [List.getElem?_take_of_lt (by omega)]
    rw [e]
    have ea : (⟨b, off, none⟩ : Addr).add i = ⟨b, off + i, none⟩ := by unfold Addr.add; split <;> simp_all
    rwa [ea] at hci
end Go.Proofs.YtadhmmklhhaagaaDoor
