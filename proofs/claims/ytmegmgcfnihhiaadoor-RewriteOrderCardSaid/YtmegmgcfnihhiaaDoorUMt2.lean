
/- Mathematics of layer 12: steps make a text lighter, keep it folded, and leave what is far to the left alone. -/
import Derived.Test.YtmegmgcfnihhiaaDoorUMth
namespace Go.Proofs.YtmegmgcfnihhiaaDoor
open Go
set_option linter.unusedVariables false
set_option linter.unusedSimpArgs false

theorem validT_parts {l : List UInt8} (h : validT l = true) : (∀ b ∈ l, plB b = true) ∧ l.length ≤ 256 := by
  simp only [validT, Bool.and_eq_true, List.all_eq_true, decide_eq_true_eq] at h
  exact h
structure RulOk (r : Rul) : Prop where
  ne : r.f ≠ []
  fp : ∀ b ∈ r.f, plB b = true
  fl : r.f.length ≤ 256
  tp : ∀ b ∈ r.t, plB b = true
  tl : r.t.length ≤ 256
  lo : 0 ≤ r.p
  hi : r.p ≤ 3
  sh : shortB r = true
theorem validR_parts {r : Rul} (h : validR r = true) : RulOk r := by
  simp only [validR, Bool.and_eq_true, Bool.not_eq_true', decide_eq_true_eq, decide_eq_false_iff_not] at h
  obtain ⟨⟨⟨⟨⟨h1, h2⟩, h3⟩, h4⟩, h5⟩, h6⟩ := h
  exact ⟨h1, (validT_parts h2).1, (validT_parts h2).2, (validT_parts h3).1, (validT_parts h3).2, h4, h5, h6⟩
theorem validRs_at {R : List Rul} (h : validRs R = true) {k : Nat} (hk : k < R.length) : RulOk (R.getD k noRul) := by
  simp only [validRs, Bool.and_eq_true, List.all_eq_true, decide_eq_true_eq] at h
  have e : R.getD k noRul = R[k] := by simp [List.getD, hk]
  rw [e]
  exact validR_parts (h.2 _ (List.getElem_mem hk))
theorem RulOk.less {r : Rul} (h : RulOk r) : wt r.t < wt r.f := by
  have hs := h.sh
  unfold shortB at hs
  by_cases h1 : r.f.length = 1 ∧ r.t.length = 1
  · rw [if_pos h1] at hs
    obtain ⟨x, hx⟩ := List.length_eq_one_iff.1 h1.1
    obtain ⟨y, hy⟩ := List.length_eq_one_iff.1 h1.2
    rw [hx, hy] at hs ⊢
    simp [Op.bytesLess] at hs
    rw [wt_cons, wt_cons, wt_nil]
    have : y.toNat < x.toNat := by simpa [UInt8.lt_iff_toNat_lt] using hs
    omega
  · rw [if_neg h1] at hs
    have hl : r.t.length + 1 ≤ r.f.length := Nat.succ_le_of_lt (by simpa using hs)
    have a1 := (wt_len r.t).2
    have a2 := (wt_len r.f).1
    have a3 := h.tl
    have a4 : (r.t.length + 1) * 1000000 ≤ r.f.length * 1000000 := Nat.mul_le_mul_right _ hl
    have a5 : r.t.length * 1000255 < (r.t.length + 1) * 1000000 := by
      generalize r.t.length = n at a3
      omega
    exact Nat.lt_of_le_of_lt a1 (Nat.lt_of_lt_of_le a5 (Nat.le_trans a4 a2))
theorem stand_split {r : Rul} {s : List UInt8} {i : Nat} (h : standB r s i = true) : ∃ z, s.drop i = r.f ++ z := by
  simp only [standB, Lib.hasPrefix, Bool.and_eq_true, List.isPrefixOf_iff_prefix] at h
  obtain ⟨z, hz⟩ := h.1
  exact ⟨z, hz.symm⟩
theorem stand_parts {r : Rul} {s : List UInt8} {i : Nat} (h : standB r s i = true) (hi : i ≤ s.length) : s = s.take i ++ (r.f ++ s.drop (i + r.f.length)) ∧ i + r.f.length ≤ s.length := by
  obtain ⟨z, hz⟩ := stand_split h
  have h2 : s.drop (i + r.f.length) = z := by
    rw [← List.drop_drop, hz, List.drop_left]
  have h3 := congrArg List.length hz
  rw [List.length_drop, List.length_append] at h3
  refine ⟨?_, by omega⟩
  rw [h2, ← hz, List.take_append_drop]
theorem repl_wt {r : Rul} {s : List UInt8} {i : Nat} (hr : RulOk r) (h : standB r s i = true) (hi : i ≤ s.length) : wt (replL r s i) < wt s := by
  obtain ⟨h1, _⟩ := stand_parts h hi
  have h2 := congrArg wt h1
  rw [wt_app, wt_app] at h2
  have h3 := hr.less
  unfold replL
  rw [wt_app, wt_app]
  omega
theorem repl_pl {r : Rul} {s : List UInt8} (hr : RulOk r) (hs : ∀ b ∈ s, plB b = true) (i : Nat) : ∀ b ∈ replL r s i, plB b = true := fun b hb => by
  unfold replL at hb
  rcases List.mem_append.1 hb with h | h
  · rcases List.mem_append.1 h with h | h
    · exact hs b (List.mem_of_mem_take h)
    · exact hr.tp b h
  · exact hs b (List.mem_of_mem_drop h)
theorem step_pl {r : Rul} {s : List UInt8} (hr : RulOk r) (hs : ∀ b ∈ s, plB b = true) (i : Nat) : ∀ b ∈ stepL r s i, plB b = true := by
  unfold stepL
  split
  · exact fold_ok _
  · exact repl_pl hr hs i
theorem step_wt {r : Rul} {s : List UInt8} {i : Nat} (hr : RulOk r) (hs : ∀ b ∈ s, plB b = true) (h : standB r s i = true) (hi : i ≤ s.length) : wt (stepL r s i) < wt s := by
  have h1 := repl_wt hr h hi
  unfold stepL
  split
  · have h2 := fold_wt (repl_pl hr hs i)
    omega
  · exact h1
/-! folded texts -/
def Fd (s : List UInt8) : Prop := s = [] ∨ sgl true s = true
theorem fd_fold (l : List UInt8) : Fd (foldL l) := by
  by_cases h : foldL l = []
  · exact .inl h
  · exact .inr (sgl_fold l h)
theorem sgl_mono : ∀ {B : List UInt8} {p : Bool}, sgl p B = true → sgl false B = true
  | _, false, h => h
  | [], true, h => by simp [sgl] at h
  | b :: B, true, h => by
    cases e : (b == 32) with
    | true => simp [sgl, e] at h
    | false => simpa [sgl, e] using h
theorem sgl_drop : ∀ {x B : List UInt8} {p : Bool}, sgl p (x ++ B) = true → sgl false B = true
  | [], B, p, h => sgl_mono h
  | b :: x, B, p, h => by
    cases e : (b == 32) with
    | true =>
      have h2 : p = false ∧ sgl true (x ++ B) = true := by simpa [sgl, e] using h
      exact sgl_drop h2.2
    | false =>
      have h2 : sgl false (x ++ B) = true := by simpa [sgl, e] using h
      exact sgl_drop h2
theorem sgl_app {Y Z : List UInt8} (hq : ∀ q, sgl q Y = true → sgl q Z = true) : ∀ {A : List UInt8} {p : Bool}, sgl p (A ++ Y) = true → sgl p (A ++ Z) = true
  | [], p, h => hq p h
  | b :: A, p, h => by
    cases e : (b == 32) with
    | true =>
      have h2 : p = false ∧ sgl true (A ++ Y) = true := by simpa [sgl, e] using h
      have := sgl_app hq h2.2
      simp [sgl, e, h2.1, this]
    | false =>
      have h2 : sgl false (A ++ Y) = true := by simpa [sgl, e] using h
      have := sgl_app hq h2
      simp [sgl, e, this]
theorem index_none : ∀ (l : List UInt8) (c : UInt8), ¬ (0 ≤ Lib.indexByte l c) → c ∉ l
  | [], c, _ => by simp
  | b :: l, c, h => by
    have ih := index_none l c
    unfold Lib.indexByte at h
    by_cases e : b = c
    · simp [e] at h
    · have e2 : (b == c) = false := by simpa using e
      rw [e2, if_neg (by simp)] at h
      intro hm
      rcases List.mem_cons.1 hm with h1 | h1
      · exact e h1.symm
      · refine ih ?_ h1
        intro h2
        refine h ?_
        have h3 : (Lib.indexByte l c == -1) = false := by simp only [beq_eq_false_iff_ne]; omega
        rw [h3, if_neg (by simp)]
        omega
theorem step_fd {r : Rul} {s : List UInt8} {i : Nat} (hr : RulOk r) (hs : Fd s) (h : standB r s i = true) (hi : i ≤ s.length) : Fd (stepL r s i) := by
  obtain ⟨h1, h2⟩ := stand_parts h hi
  unfold stepL
  by_cases ha : againB r = true
  · rw [if_pos ha]
    exact fd_fold _
  · rw [if_neg ha]
    have hn : r.t ≠ [] ∧ ¬ (0 ≤ Lib.indexByte r.t 32) := by simpa [againB] using ha
    have hw : ∀ b ∈ r.t, letB b = true := fun b hb => by
      have h3 := hr.tp b hb
      unfold plB at h3
      have h4 : b ≠ 32 := fun e => index_none _ _ hn.2 (e ▸ hb)
      simpa [h4] using h3
    rcases hs with hs | hs
    · exfalso
      have hz : r.f.length = 0 := by rw [hs] at h2; simp at h2; exact h2.2 ▸ rfl
      exact hr.ne (List.eq_nil_of_length_eq_zero hz)
    · refine .inr ?_
      unfold replL
      rw [List.append_assoc]
      rw [h1] at hs
      refine sgl_app (fun q hq => ?_) hs
      rw [sgl_word r.t _ q hw hn.1]
      exact sgl_drop hq
/-! what stands far to the left stays -/
theorem pre_app : ∀ (f X Y : List UInt8), f.length ≤ X.length → List.isPrefixOf f (X ++ Y) = List.isPrefixOf f X
  | [], X, Y, _ => by simp
  | b :: f, [], Y, h => by simp at h
  | b :: f, x :: X, Y, h => by
    simp only [List.cons_append, List.isPrefixOf]
    rw [pre_app f X Y (by simpa using h)]
theorem stand_local {r : Rul} {s : List UInt8} {m i : Nat} (rest : List UInt8) (hm : m ≤ s.length) (hi : i + r.f.length + 1 ≤ m) : standB r (s.take m ++ rest) i = standB r s i := by
  have hl : (s.take m).length = m := by rw [List.length_take]; omega
  have hs : s = s.take m ++ s.drop m := (List.take_append_drop m s).symm
  have e1 : Lib.hasPrefix ((s.take m ++ rest).drop i) r.f = Lib.hasPrefix (s.drop i) r.f := by
    conv => rhs; rw [hs]
    rw [List.drop_append_of_le_length (by omega), List.drop_append_of_le_length (by omega)]
    unfold Lib.hasPrefix
    rw [pre_app _ _ _ (by rw [List.length_drop]; omega), pre_app _ _ _ (by rw [List.length_drop]; omega)]
  have e2 : ∀ j, j < m → (s.take m ++ rest).getD j 0 = s.getD j 0 := fun j hj => by
    conv => rhs; rw [hs]
    rw [getD_app _ _ (by omega), getD_app _ _ (by omega)]
  have e3 : decide (i + r.f.length = (s.take m ++ rest).length) = false := decide_eq_false (by rw [List.length_append]; omega)
  have e4 : decide (i + r.f.length = s.length) = false := decide_eq_false (by omega)
  unfold standB
  rw [e1]
  unfold placeB
  rw [e3, e4, e2 (i - 1) (by omega), e2 (i + r.f.length) (by omega)]
theorem step_keeps {r : Rul} {s : List UInt8} {i : Nat} (hr : RulOk r) (hp : ∀ b ∈ s, plB b = true) (hs : Fd s) (hi : i < s.length) : ∃ rest, stepL r s i = s.take (i - 1) ++ rest := by
  unfold stepL
  split
  · rw [fold_sq (repl_pl hr hp i)]
    unfold replL
    rw [List.append_assoc]
    rcases hs with hs | hs
    · rw [hs] at hi; simp at hi
    · exact sq_cut i s _ true hs (by omega)
  · unfold replL
    refine ⟨(s.take i).drop (i - 1) ++ (r.t ++ s.drop (i + r.f.length)), ?_⟩
    rw [← List.append_assoc]
    have e : s.take (i - 1) = (s.take i).take (i - 1) := by rw [List.take_take, Nat.min_eq_left (by omega)]
    rw [e, List.take_append_drop, List.append_assoc]
/-- After a step the search may begin a little to the left. -/
theorem restart {R : List Rul} {s : List UInt8} {i k L : Nat} (hR : validRs R = true) (hp : ∀ b ∈ s, plB b = true) (hs : Fd s) (h : firstO R s 0 = some (i, k)) (hL : ∀ j, j < R.length → (R.getD j noRul).f.length ≤ L) :
    firstO R (stepL (R.getD k noRul) s i) (i - 1 - L) = firstO R (stepL (R.getD k noRul) s i) 0 := by
  obtain ⟨_, h2, h3, h4, h5⟩ := first_some h
  obtain ⟨rest, hr⟩ := step_keeps (validRs_at hR h3) hp hs h2
  rw [hr]
  have hl : (s.take (i - 1)).length = i - 1 := by rw [List.length_take]; omega
  refine first_skip (by rw [List.length_append]; omega) fun i' k' hi' hk' => ?_
  have := hL k' hk'
  rw [stand_local rest (by omega) (by omega)]
  exact h5 i' k' (Nat.zero_le _) (by omega) hk'
/-- What rules make of a folded text in the end. -/
inductive Ends (R : List Rul) : List UInt8 → List UInt8 → Prop
  | stop {s : List UInt8} : firstO R s 0 = none → Ends R s s
  | step {s t : List UInt8} {i k : Nat} : firstO R s 0 = some (i, k) → Ends R (stepL (R.getD k noRul) s i) t → Ends R s t
theorem Ends.det {R : List Rul} {s t t' : List UInt8} (h : Ends R s t) (h' : Ends R s t') : t = t' := by
  induction h with
  | stop h0 =>
    cases h' with
    | stop _ => rfl
    | step h1 _ => rw [h0] at h1; cases h1
  | step h0 _ ih =>
    cases h' with
    | stop h1 => rw [h0] at h1; cases h1
    | step h1 h2 =>
      rw [h0] at h1
      cases h1
      exact ih h2
theorem wt_short {s : List UInt8} {n : Nat} (h : wt s ≤ n * 1000255) (hn : n ≤ 3000) : s.length ≤ n := by
  have h1 := (wt_len s).1
  by_cases e : s.length ≤ n
  · exact e
  · exfalso
    have h2 : (n + 1) * 1000000 ≤ s.length * 1000000 := Nat.mul_le_mul_right _ (by omega)
    have h3 : n * 1000255 < (n + 1) * 1000000 := by
      clear h h1 h2 e
      omega
    exact absurd (Nat.lt_of_le_of_lt h h3) (Nat.not_lt.2 (Nat.le_trans h2 h1))
end Go.Proofs.YtmegmgcfnihhiaaDoor
