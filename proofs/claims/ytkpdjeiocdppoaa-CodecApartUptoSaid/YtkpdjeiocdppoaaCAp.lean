
/- What comparing two encodings comes to. -/
import Derived.Test.YtkpdjeiocdppoaaCAwk
import Derived.Test.YtkpdjeiocdppoaaCPts
import Derived.Test.YtkpdjeiocdppoaaVMa
namespace Go.Proofs.Ytkpdjeiocdppoaa
open Go.RowKit
set_option linter.unusedVariables false

section
variable {α : Type} [DecidableEq α]
/-- Whether two lists have the same length and the same first k places. -/
def sm (a b : List α) (k : Nat) : Bool := decide (a.length = b.length ∧ a.take k = b.take k)
theorem sm_zero (a b : List α) : sm a b 0 = decide (a.length = b.length) := by simp [sm]
theorem sm_false {a b : List α} {k : Nat} (h : sm a b k = false) : sm a b (k + 1) = false := by
  unfold sm at h ⊢
  rw [decide_eq_false_iff_not] at h ⊢
  rintro ⟨h1, h2⟩
  refine h ⟨h1, ?_⟩
  have h3 := congrArg (List.take k) h2
  simpa [List.take_take, Nat.min_eq_left (Nat.le_succ k)] using h3
theorem sm_true {a b : List α} {k : Nat} (d : α) (h : sm a b k = true) (hk : k < a.length) : k < b.length ∧ sm a b (k + 1) = decide (a.getD k d = b.getD k d) := by
  unfold sm at h ⊢
  rw [decide_eq_true_eq] at h
  obtain ⟨h1, h2⟩ := h
  have hb : k < b.length := by omega
  refine ⟨hb, ?_⟩
  apply decide_eq_decide.2
  rw [List.take_add_one, List.take_add_one, h2, List.getElem?_eq_getElem hk, List.getElem?_eq_getElem hb]
  constructor
  · rintro ⟨_, h⟩
    have h3 := List.append_cancel_left h
    simpa [List.getD, hk, hb] using h3
  · intro h
    refine ⟨h1, ?_⟩
    have h3 : a[k] = b[k] := by simpa [List.getD, hk, hb] using h
    rw [h3]
theorem sm_end (a b : List α) : sm a b a.length = decide (a = b) := by
  unfold sm
  apply decide_eq_decide.2
  constructor
  · rintro ⟨h1, h2⟩
    rw [List.take_of_length_le (Nat.le_refl _), h1, List.take_of_length_le (Nat.le_refl _)] at h2
    exact h2
  · rintro rfl
    exact ⟨rfl, rfl⟩
end
theorem bytes_ext {X Y : ByteArray} (h : X.data.toList = Y.data.toList) : X = Y := by
  cases X; cases Y
  simp at h
  subst h
  rfl
theorem beq_dec (x y : ByteArray) : (x.toList == y.toList) = decide (x = y) := by
  rw [ByteArray.toList_eq, ByteArray.toList_eq]
  by_cases h : x = y
  · subst h; simp
  · rw [decide_eq_false h]
    simp only [beq_eq_false_iff_ne]
    exact fun e => h (bytes_ext e)
theorem take_size (X Y : ByteArray) : (Y.extract 0 X.size).data.toList = Y.data.toList.take X.data.toList.length := by
  have h := cut_toList Y 0 X.size
  rw [Nat.zero_add] at h
  rw [← h, List.drop_zero, Lib.size_eq]
/-- What comparing two encodings comes to. -/
structure Cmp (X Y : ByteArray) (e : Bool) : Prop where
  deq : decide (X = Y) = e
  beg : ((X.size : Int) ≤ (Y.size : Int) ∧ decide (Y.extract 0 X.size = X) = e) ∨ (¬ (X.size : Int) ≤ (Y.size : Int) ∧ e = false)
theorem cmp_of {X Y : ByteArray} {e : Bool} (h1 : X = Y → e = true) (h2 : ∀ z, Y.data.toList = X.data.toList ++ z → e = true) (h3 : e = true → X = Y) : Cmp X Y e := by
  have hXY : X = Y ↔ e = true := ⟨h1, h3⟩
  have hb : Y.extract 0 X.size = X ↔ e = true := by
    constructor
    · intro h
      refine h2 (Y.data.toList.drop X.data.toList.length) ?_
      have h4 := congrArg (fun Z : ByteArray => Z.data.toList) h
      have h4 : (Y.extract 0 X.size).data.toList = X.data.toList := h4
      rw [take_size] at h4
      have h5 := List.take_append_drop X.data.toList.length Y.data.toList
      rw [h4] at h5
      exact h5.symm
    · intro he
      have := h3 he
      subst this
      apply bytes_ext
      rw [take_size]
      exact List.take_of_length_le (Nat.le_refl _)
  refine ⟨?_, ?_⟩
  · cases e with
    | true => simpa using hXY
    | false => simpa using hXY
  · by_cases hs : (X.size : Int) ≤ (Y.size : Int)
    · refine .inl ⟨hs, ?_⟩
      cases e with
      | true => simpa using hb
      | false => simpa using hb
    · refine .inr ⟨hs, ?_⟩
      cases e with
      | false => rfl
      | true =>
        have := h3 rfl
        subst this
        exact absurd (Int.le_refl _) hs
theorem cmp_ints {X Y : ByteArray} {a b : List Int} (hX : X.data.toList = Vi.grp (Vi.zz (a.length : Int)) ++ gnums a) (hY : Y.data.toList = Vi.grp (Vi.zz (b.length : Int)) ++ gnums b) (ha : ∀ x ∈ a, in64 x) (hb : ∀ x ∈ b, in64 x) (la : a.length ≤ 2048) (lb : b.length ≤ 2048) : Cmp X Y (decide (a = b)) := by
  have key : ∀ z, Y.data.toList = X.data.toList ++ z → a = b := fun z h => gints_apart a b ha hb la lb z (by rw [← hX, ← hY]; exact h)
  refine cmp_of (fun h => ?_) (fun z h => decide_eq_true (key z h)) (fun h => ?_)
  · exact decide_eq_true (key [] (by rw [h, List.append_nil]))
  · have e := of_decide_eq_true h
    subst e
    exact bytes_ext (hX.trans hY.symm)
theorem cmp_texts {X Y : ByteArray} {a b : List ByteArray} (hX : X.data.toList = Vi.grp (Vi.zz (a.length : Int)) ++ gtxts a) (hY : Y.data.toList = Vi.grp (Vi.zz (b.length : Int)) ++ gtxts b) (ha : ∀ x ∈ a, x.size ≤ 1000000000) (hb : ∀ x ∈ b, x.size ≤ 1000000000) (la : a.length ≤ 256) (lb : b.length ≤ 256) : Cmp X Y (decide (a = b)) := by
  have key : ∀ z, Y.data.toList = X.data.toList ++ z → a = b := fun z h => gtexts_apart a b ha hb la lb z (by rw [← hX, ← hY]; exact h)
  refine cmp_of (fun h => ?_) (fun z h => decide_eq_true (key z h)) (fun h => ?_)
  · exact decide_eq_true (key [] (by rw [h, List.append_nil]))
  · have e := of_decide_eq_true h
    subst e
    exact bytes_ext (hX.trans hY.symm)
end Go.Proofs.Ytkpdjeiocdppoaa
