
/- Rules written out; the example of chapter 12. -/
import Derived.Test.YtmegmgcfnihhiaaDoorUSe
namespace Go.Proofs.YtmegmgcfnihhiaaDoor
open Go.RowKit Go.Shelf
set_option linter.unusedVariables false
set_option linter.unusedSimpArgs false

def cellsR (r : Rul) : List Value := [.string ⟨r.f.toArray⟩, .string ⟨r.t.toArray⟩, .int .i64 r.p]
def flatR (R : List Rul) : List Value := R.flatMap cellsR
theorem flatR_at : ∀ (R : List Rul) (j : Nat), j < R.length → (flatR R)[j * 3]? = some (.string ⟨(R.getD j noRul).f.toArray⟩) ∧ (flatR R)[j * 3 + 1]? = some (.string ⟨(R.getD j noRul).t.toArray⟩) ∧ (flatR R)[j * 3 + 2]? = some (.int .i64 (R.getD j noRul).p)
  | [], j, h => by simp at h
  | r :: R, 0, _ => ⟨rfl, rfl, rfl⟩
  | r :: R, j + 1, h => by
    have ih := flatR_at R j (by simpa using h)
    have e : ∀ d, (flatR (r :: R))[(j + 1) * 3 + d]? = (flatR R)[j * 3 + d]? := fun d => by
      show (cellsR r ++ flatR R)[(j + 1) * 3 + d]? = _
      rw [List.getElem?_append_right (by simp [cellsR]; omega)]
      congr 1
      simp [cellsR]
      omega
    have e0 := e 0
    simp only [Nat.add_zero] at e0
    rw [e0, e 1, e 2]
    simpa using ih
theorem flatR_len (R : List Rul) : (flatR R).length = R.length * 3 := by
  induction R with
  | nil => rfl
  | cons r R ih =>
    show (cellsR r ++ flatR R).length = _
    rw [List.length_append, ih, List.length_cons]
    simp [cellsR]
    omega
theorem rules_new (w : World) (R : List Rul) (t : TypeId) (c : Nat) (h1 : R.length ≤ 1000) (h2 : R.length ≤ c) (h3 : c ≤ 9223372036854775807) : RulesW (w.alloc (.cells (flatR R).toArray t)) (.slice (some ⟨w.heap.size, 0, none⟩) R.length c) R := by
  refine ⟨_, c, rfl, h1, h2, h3, fun _ => ⟨w.heap.size, 0, rfl, by simp, fun j hj => ?_⟩⟩
  obtain ⟨e0, e1, e2⟩ := flatR_at R j hj
  refine ⟨?_, ?_, ?_⟩
  · rw [cell_new, Nat.zero_add]; simpa using e0
  · rw [cell_new, Nat.zero_add]; simpa using e1
  · rw [cell_new, Nat.zero_add]; simpa using e2

def awkR : List Rul := [⟨[112, 104], [102], 0⟩, ⟨[106, 114], [], 3⟩]
theorem awk_ends : Ends awkR [106, 111, 115, 101, 112, 104, 32, 106, 114] [106, 111, 115, 101, 102] := by
  have h1 : firstO awkR [106, 111, 115, 101, 112, 104, 32, 106, 114] 0 = some (4, 0) := by decide +kernel
  have h2 : firstO awkR [106, 111, 115, 101, 102, 32, 106, 114] 0 = some (6, 1) := by decide +kernel
  have h3 : firstO awkR [106, 111, 115, 101, 102] 0 = none := by decide +kernel
  refine .step h1 ?_
  rw [show stepL (awkR.getD 0 noRul) [106, 111, 115, 101, 112, 104, 32, 106, 114] 4 = [106, 111, 115, 101, 102, 32, 106, 114] from by decide +kernel]
  refine .step h2 ?_
  rw [show stepL (awkR.getD 1 noRul) [106, 111, 115, 101, 102, 32, 106, 114] 6 = [106, 111, 115, 101, 102] from by decide +kernel]
  exact .stop h3
theorem awk_fold : foldL [74, 111, 115, 101, 112, 104, 32, 74, 114] = [106, 111, 115, 101, 112, 104, 32, 106, 114] := by decide +kernel
theorem awk_valid : validRs awkR = true := by decide +kernel

set_option maxRecDepth 100000 in
set_option maxHeartbeats 4000000 in
theorem awake12_any (w : World) (T : Tbw w) :
    Calls Tryd.prog 20 #[] w fun e w' => e = .returned (.bool true) ∧ Below w.heap.size w w' := by
  obtain ⟨w1, hw1⟩ : ∃ w1, w.alloc (.cells #[.string ⟨#[112, 104]⟩, .string ⟨#[102]⟩, .int .i64 0, .string ⟨#[106, 114]⟩, .string ⟨#[]⟩, .int .i64 3] 38) = w1 := ⟨_, rfl⟩
  obtain ⟨g, hg⟩ : ∃ g, w.heap.size = g := ⟨_, rfl⟩
  have hb1 : Below g w w1 := by rw [← hw1, ← hg]; exact (Below.refl _ _).alloc (Nat.le_refl _) _
  have hr : RulesW w1 (.slice (some ⟨g, 0, none⟩) 2 2) awkR := by
    have h := rules_new w awkR 38 2 (by decide) (by decide) (by decide)
    rw [← hw1, ← hg]
    exact h
  have hA := apply_any ⟨#[74, 111, 115, 101, 112, 104, 32, 74, 114]⟩ _ awkR w1 (T.below (by rw [hg]; exact hb1)) (mild_of awk_valid) hr (by decide)
  rw [awk_valid] at hA
  have HB1 := Lib.hid hb1
  have hgl : g ≤ w1.heap.size := Nat.le_trans (Nat.le_of_eq hg.symm) hb1.size
  have HA : Hid (Calls Tryd.prog 18 #[.slice (some ⟨g, 0, none⟩) 2 2, .string ⟨#[74, 111, 115, 101, 112, 104, 32, 74, 114]⟩] w1 fun e w' => e = .returned (.tuple #[.string ⟨#[106, 111, 115, 101, 102]⟩, .int .i64 0]) ∧ Below g w w') := hA.mono (by
    rintro e w' ⟨T, c, rfl, h, hb⟩
    rw [if_neg (by simp), if_neg (by decide), show (⟨#[74, 111, 115, 101, 112, 104, 32, 74, 114]⟩ : ByteArray).data.toList = [74, 111, 115, 101, 112, 104, 32, 74, 114] from rfl, awk_fold] at h
    obtain ⟨h1, rfl⟩ := h
    obtain rfl := h1.det awk_ends
    exact ⟨rfl, HB1.out.trans (hb.mono hgl)⟩)
  rw [hg]
  clear hA hr hb1 hgl T
  go_enter Tryd.func20, Tryd.ntmps20
  go_wp2_with fail
  try rw [hw1]
  try rw [hg]
  refine HA.out.mono ?_
  rintro e w2 ⟨rfl, hb⟩
  have HB2 := Lib.hid hb
  clear hb
  go_wp2
  go_ret
  exact ⟨rfl, HB2.out⟩
end Go.Proofs.YtmegmgcfnihhiaaDoor
