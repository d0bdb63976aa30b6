
/- Mathematics of folding: what a code point becomes, words, folded texts. -/
import Derived.Test.YtmegmgcfnihhiaaDoorOMth
import Derived.Lib.Join
namespace Go.Proofs.YtmegmgcfnihhiaaDoor
open Go
set_option linter.unusedVariables false
set_option linter.unusedSimpArgs false

def letR (r : Nat) : Bool := (decide (97 ≤ r) && decide (r ≤ 122)) || (decide (48 ≤ r) && decide (r ≤ 57))
def lowR (r : Nat) : Nat := if (65 ≤ r ∧ r ≤ 90) ∨ (192 ≤ r ∧ r ≤ 221) then r + 32 else r
/-- The letters with marks, and what stands between them, from 223 to 255. -/
def markT : Nat → List UInt8
  | 0 => [115, 115] | 1 => [97] | 2 => [97] | 3 => [97] | 4 => [97] | 5 => [97, 101] | 6 => [97, 97] | 7 => [97, 101] | 8 => [99] | 9 => [101] | 10 => [101] | 11 => [101] | 12 => [101]
  | 13 => [105] | 14 => [105] | 15 => [105] | 16 => [105] | 17 => [32] | 18 => [110] | 19 => [111] | 20 => [111] | 21 => [111] | 22 => [111] | 23 => [111, 101] | 24 => [32] | 25 => [111, 101]
  | 26 => [117] | 27 => [117] | 28 => [117] | 29 => [117, 101] | 30 => [121] | 31 => [32] | 32 => [121] | _ => [32]
/-- What a code point becomes, when capitals are small. -/
def smallT (q : Nat) : List UInt8 := if letR q = true then [q.toUInt8] else if 223 ≤ q ∧ q ≤ 255 then markT (q - 223) else if q = 39 ∨ q = 8217 ∨ q = 46 then [] else [32]
def spR (r : Nat) : List UInt8 := smallT (lowR r)
def letB (b : UInt8) : Bool := letR b.toNat
def plB (b : UInt8) : Bool := letB b || b == 32
theorem lowR_max {r : Nat} (h : r ≤ 1114111) : lowR r ≤ 1114143 := by unfold lowR; split <;> omega
theorem u8_of {b : UInt8} : b.toNat.toUInt8 = b := by
  apply UInt8.toNat_inj.1
  simp
theorem markT_ok : ∀ n : Fin 33, (markT n.val).all plB = true := by decide +kernel
theorem spR_ok (r : Nat) : (spR r).all plB = true := by
  unfold spR smallT
  split
  · rename_i h
    have hlt : lowR r < 256 := by
      unfold letR at h
      simp only [Bool.or_eq_true, Bool.and_eq_true, decide_eq_true_eq] at h
      omega
    have e : (lowR r).toUInt8.toNat = lowR r := by simp; omega
    simp only [List.all_cons, List.all_nil, Bool.and_true, plB, letB, e, h, Bool.true_or]
  · split
    · rename_i h
      exact markT_ok ⟨lowR r - 223, by omega⟩
    · split <;> decide
theorem spR_ascii : ∀ n : Fin 256, plB n.val.toUInt8 = true → spR n.val = [n.val.toUInt8] := by decide +kernel
theorem spR_byte (b : UInt8) (h : plB b = true) : spR b.toNat = [b] := by
  have := spR_ascii ⟨b.toNat, b.toNat_lt⟩
  simp only [u8_of] at this
  exact this h
theorem plB_lt {b : UInt8} (h : plB b = true) : b.toNat < 128 := by
  unfold plB letB letR at h
  simp only [Bool.or_eq_true, Bool.and_eq_true, decide_eq_true_eq, beq_iff_eq] at h
  rcases h with h | h
  · omega
  · subst h; decide
theorem isSp_ok {b : UInt8} (h : plB b = true) : Lib.isSp b = (b == 32) := by
  have key : ∀ n : Fin 256, plB n.val.toUInt8 = true → Lib.isSp n.val.toUInt8 = (n.val.toUInt8 == 32) := by decide +kernel
  have := key ⟨b.toNat, b.toNat_lt⟩
  simp only [u8_of] at this
  exact this h

def spellL (l : List UInt8) : List UInt8 := (runes l).flatMap spR
def wordsL (l : List UInt8) : List (List UInt8) := Lib.fields (spellL l)
def foldL (l : List UInt8) : List UInt8 := Lib.join (wordsL l) [32]
theorem flat_ok (A : List Nat) : ∀ b ∈ A.flatMap spR, plB b = true := fun b hb => by
  obtain ⟨r, _, h⟩ := List.mem_flatMap.1 hb
  exact List.all_eq_true.1 (spR_ok r) b h
theorem spellL_ok (l : List UInt8) : ∀ b ∈ spellL l, plB b = true := flat_ok _
theorem cl_ok : ∀ (x : List UInt8), (∀ b ∈ x, plB b = true) → Cl x (x.map (·.toNat))
  | [], _ => cl_nil
  | b :: t, h => Cl.app (a := [b]) (b := t) (A := [b.toNat]) (cl_ascii b (plB_lt (h b (by simp)))) (cl_ok t fun c hc => h c (by simp [hc]))
theorem spell_self (x : List UInt8) (h : ∀ b ∈ x, plB b = true) : spellL x = x := by
  unfold spellL
  rw [(cl_ok x h).runes]
  induction x with
  | nil => rfl
  | cons b t ih =>
    rw [List.map_cons, List.flatMap_cons, spR_byte b (h b (by simp)), ih fun c hc => h c (by simp [hc])]
    rfl
/-! words -/
theorem fieldsGo_space (t : List UInt8) : ∀ (s cur : List UInt8), Lib.fieldsGo cur (s ++ 32 :: t) = Lib.fieldsGo cur s ++ Lib.fieldsGo [] t
  | [], cur => by
    have hs : Lib.isSp 32 = true := by decide
    rw [List.nil_append]
    cases cur with
    | nil => rw [Lib.fieldsGo_sp 32 t hs]; rfl
    | cons c u => rw [Lib.fieldsGo_end (c :: u) 32 t hs (by simp)]; rfl
  | b :: s, cur => by
    rw [List.cons_append]
    cases hb : Lib.isSp b with
    | true =>
      cases cur with
      | nil => rw [Lib.fieldsGo_sp b _ hb, Lib.fieldsGo_sp b _ hb, fieldsGo_space t s []]
      | cons c u => rw [Lib.fieldsGo_end _ b _ hb (by simp), Lib.fieldsGo_end _ b _ hb (by simp), fieldsGo_space t s [], List.cons_append]
    | false => rw [Lib.fieldsGo_more _ b _ hb, Lib.fieldsGo_more _ b _ hb, fieldsGo_space t s _]
theorem fields_space (s t : List UInt8) : Lib.fields (s ++ 32 :: t) = Lib.fields s ++ Lib.fields t := fieldsGo_space t s []
theorem fieldsGo_mem : ∀ (s cur : List UInt8), (∀ b ∈ cur, Lib.isSp b = false) → ∀ f ∈ Lib.fieldsGo cur s, f ≠ [] ∧ ∀ b ∈ f, Lib.isSp b = false ∧ (b ∈ cur ∨ b ∈ s)
  | [], cur, hc, f, hf => by
    cases cur with
    | nil => simp [Lib.fieldsGo] at hf
    | cons c u =>
      simp [Lib.fieldsGo] at hf
      subst hf
      exact ⟨by simp, fun b hb => ⟨hc b hb, .inl hb⟩⟩
  | b :: s, cur, hc, f, hf => by
    cases hb : Lib.isSp b with
    | true =>
      cases cur with
      | nil =>
        rw [Lib.fieldsGo_sp b s hb] at hf
        obtain ⟨h1, h2⟩ := fieldsGo_mem s [] (by simp) f hf
        exact ⟨h1, fun x hx => ⟨(h2 x hx).1, .inr ((h2 x hx).2.elim (fun h => by simp at h) fun h => by simp [h])⟩⟩
      | cons c u =>
        rw [Lib.fieldsGo_end _ b s hb (by simp)] at hf
        rcases List.mem_cons.1 hf with h | h
        · subst h
          exact ⟨by simp, fun x hx => ⟨hc x hx, .inl hx⟩⟩
        · obtain ⟨h1, h2⟩ := fieldsGo_mem s [] (by simp) f h
          exact ⟨h1, fun x hx => ⟨(h2 x hx).1, .inr ((h2 x hx).2.elim (fun h => by simp at h) fun h => by simp [h])⟩⟩
    | false =>
      rw [Lib.fieldsGo_more _ b s hb] at hf
      obtain ⟨h1, h2⟩ := fieldsGo_mem s (cur ++ [b]) (fun x hx => by
        rcases List.mem_append.1 hx with h | h
        · exact hc x h
        · rw [List.mem_singleton.1 h]; exact hb) f hf
      refine ⟨h1, fun x hx => ⟨(h2 x hx).1, ?_⟩⟩
      rcases (h2 x hx).2 with h | h
      · rcases List.mem_append.1 h with h | h
        · exact .inl h
        · rw [List.mem_singleton.1 h]; exact .inr (by simp)
      · exact .inr (by simp [h])
theorem fields_mem {s f : List UInt8} (h : f ∈ Lib.fields s) : f ≠ [] ∧ ∀ b ∈ f, Lib.isSp b = false ∧ b ∈ s := by
  obtain ⟨h1, h2⟩ := fieldsGo_mem s [] (by simp) f h
  exact ⟨h1, fun b hb => ⟨(h2 b hb).1, (h2 b hb).2.elim (fun h => by simp at h) fun h => h⟩⟩
theorem fieldsGo_word : ∀ (f cur : List UInt8), (∀ b ∈ f, Lib.isSp b = false) → cur ++ f ≠ [] → Lib.fieldsGo cur f = [cur ++ f]
  | [], cur, h, hne => by
    cases cur with
    | nil => simp at hne
    | cons c u => simp [Lib.fieldsGo]
  | b :: f, cur, h, hne => by
    rw [Lib.fieldsGo_more _ b f (h b (by simp)), fieldsGo_word f (cur ++ [b]) (fun x hx => h x (by simp [hx])) (by simp), List.append_assoc]
    rfl
theorem fields_word {f : List UInt8} (h : ∀ b ∈ f, Lib.isSp b = false) (hne : f ≠ []) : Lib.fields f = [f] := by
  have := fieldsGo_word f [] h (by simpa using hne)
  simpa [Lib.fields] using this
theorem join_cons (w x : List UInt8) (ws : List (List UInt8)) : Lib.join (w :: x :: ws) [32] = w ++ 32 :: Lib.join (x :: ws) [32] := by
  unfold Lib.join
  rw [List.intercalate_cons_cons]
  simp
theorem join_one (w : List UInt8) : Lib.join [w] [32] = w := by
  unfold Lib.join
  simp
theorem fields_join : ∀ ws : List (List UInt8), (∀ w ∈ ws, w ≠ [] ∧ ∀ b ∈ w, Lib.isSp b = false) → Lib.fields (Lib.join ws [32]) = ws
  | [], _ => rfl
  | [w], h => by rw [join_one]; exact fields_word (h w (by simp)).2 (h w (by simp)).1
  | w :: x :: ws, h => by
    rw [join_cons, fields_space, fields_word (h w (by simp)).2 (h w (by simp)).1, fields_join (x :: ws) fun y hy => h y (by simp at hy ⊢; exact .inr hy)]
    rfl
theorem words_mem {l f : List UInt8} (h : f ∈ wordsL l) : f ≠ [] ∧ ∀ b ∈ f, letB b = true := by
  obtain ⟨h1, h2⟩ := fields_mem h
  refine ⟨h1, fun b hb => ?_⟩
  have hok := spellL_ok l b (h2 b hb).2
  have hsp := (h2 b hb).1
  rw [isSp_ok hok] at hsp
  unfold plB at hok
  rw [hsp, Bool.or_false] at hok
  exact hok
theorem let_nosp {b : UInt8} (h : letB b = true) : Lib.isSp b = false := by
  have hok : plB b = true := by unfold plB; rw [h]; rfl
  rw [isSp_ok hok]
  cases e : (b == 32) with
  | false => rfl
  | true =>
    rw [beq_iff_eq] at e
    subst e
    exact absurd h (by decide)
theorem join_ok : ∀ ws : List (List UInt8), (∀ w ∈ ws, ∀ b ∈ w, letB b = true) → ∀ b ∈ Lib.join ws [32], plB b = true
  | [], _, b, hb => by simp [Lib.join] at hb
  | [w], h, b, hb => by rw [join_one] at hb; unfold plB; rw [h w (by simp) b hb]; rfl
  | w :: x :: ws, h, b, hb => by
    rw [join_cons] at hb
    rcases List.mem_append.1 hb with hb | hb
    · unfold plB; rw [h w (by simp) b hb]; rfl
    · rcases List.mem_cons.1 hb with hb | hb
      · subst hb; decide
      · exact join_ok (x :: ws) (fun y hy => h y (by simp at hy ⊢; exact .inr hy)) b hb
theorem fold_ok (l : List UInt8) : ∀ b ∈ foldL l, plB b = true := join_ok _ fun w hw => (words_mem hw).2
/-- Folding twice is folding once. -/
theorem words_fold (l : List UInt8) : wordsL (foldL l) = wordsL l := by
  unfold wordsL
  rw [spell_self _ (fold_ok l)]
  exact fields_join _ fun w hw => ⟨(words_mem hw).1, fun b hb => let_nosp ((words_mem hw).2 b hb)⟩
theorem fold_fold (l : List UInt8) : foldL (foldL l) = foldL l := by
  show Lib.join (wordsL (foldL l)) [32] = Lib.join (wordsL l) [32]
  rw [words_fold l]
theorem fold_word {f : List UInt8} (h : ∀ b ∈ f, letB b = true) (hne : f ≠ []) : foldL f = f := by
  have hs : spellL f = f := spell_self f fun b hb => by unfold plB; rw [h b hb]; rfl
  unfold foldL wordsL
  rw [hs, fields_word (fun b hb => let_nosp (h b hb)) hne, join_one]
theorem words_space (a b : List UInt8) : wordsL (a ++ 32 :: b) = wordsL a ++ wordsL b := by
  have e : spellL (a ++ 32 :: b) = spellL a ++ 32 :: spellL b := by
    unfold spellL
    rw [runes_space _ a b (Nat.le_refl _), List.flatMap_append, List.flatMap_cons]
    rfl
  unfold wordsL
  rw [e, fields_space]
/-! single spaces -/
def sgl : Bool → List UInt8 → Bool
  | p, [] => !p
  | p, b :: t => if b == 32 then !p && sgl true t else sgl false t
theorem sgl_word : ∀ (f t : List UInt8) (p : Bool), (∀ b ∈ f, letB b = true) → f ≠ [] → sgl p (f ++ t) = sgl false t
  | [b], t, p, h, _ => by
    have : (b == 32) = false := by
      cases e : (b == 32) with
      | false => rfl
      | true => rw [beq_iff_eq] at e; subst e; exact absurd (h 32 (by simp)) (by decide)
    simp [sgl, this]
  | b :: c :: f, t, p, h, _ => by
    have hb : (b == 32) = false := by
      cases e : (b == 32) with
      | false => rfl
      | true => rw [beq_iff_eq] at e; subst e; exact absurd (h 32 (by simp)) (by decide)
    show (if (b == 32) = true then _ else sgl false ((c :: f) ++ t)) = _
    rw [hb, if_neg (by simp)]
    exact sgl_word (c :: f) t false (fun x hx => h x (by simp at hx ⊢; exact .inr hx)) (by simp)
theorem sgl_join : ∀ (ws : List (List UInt8)) (p : Bool), (∀ w ∈ ws, w ≠ [] ∧ ∀ b ∈ w, letB b = true) → ws ≠ [] → sgl p (Lib.join ws [32]) = true
  | [w], p, h, _ => by
    rw [join_one]
    have := sgl_word w [] p (h w (by simp)).2 (h w (by simp)).1
    rw [List.append_nil] at this
    rw [this]; rfl
  | w :: x :: ws, p, h, _ => by
    rw [join_cons, sgl_word w _ p (h w (by simp)).2 (h w (by simp)).1]
    show (if (32 == (32 : UInt8)) = true then _ else _) = true
    rw [if_pos (by decide), sgl_join (x :: ws) true (fun y hy => h y (by simp at hy ⊢; exact .inr hy)) (by simp)]
    rfl
theorem sgl_at : ∀ (x : List UInt8) (p : Bool) (i : Nat), sgl p x = true → x[i]? = some 32 → (i = 0 → p = false) ∧ i + 1 < x.length ∧ ∀ j, i = j + 1 → x[j]? ≠ some 32
  | [], p, i, h, hi => by simp at hi
  | b :: t, p, 0, h, hi => by
    simp at hi
    subst hi
    simp only [sgl, beq_self_eq_true, if_true, Bool.and_eq_true, Bool.not_eq_true'] at h
    refine ⟨fun _ => h.1, ?_, fun j hj => by omega⟩
    cases t with
    | nil => simp [sgl] at h
    | cons c u => simp
  | b :: t, p, i + 1, h, hi => by
    have hi' : t[i]? = some 32 := by simpa using hi
    have hc : ∃ q, sgl q t = true ∧ (b = 32 → q = true) := by
      unfold sgl at h
      split at h
      · rename_i hb
        rw [Bool.and_eq_true] at h
        exact ⟨true, h.2, fun _ => rfl⟩
      · rename_i hb
        exact ⟨false, h, fun e => absurd (by rw [e]; rfl) hb⟩
    obtain ⟨q, hq, hbq⟩ := hc
    obtain ⟨k1, k2, k3⟩ := sgl_at t q i hq hi'
    refine ⟨fun e => by omega, by simp; omega, fun j hj e => ?_⟩
    obtain rfl : i = j := by omega
    cases i with
    | zero =>
      simp at e
      have := hbq e
      have := k1 rfl
      simp_all
    | succ n => exact k3 n rfl (by simpa using e)
theorem fold_single (l : List UInt8) (i : Nat) (h : (foldL l)[i]? = some 32) : i ≠ 0 ∧ i + 1 < (foldL l).length ∧ ∀ j, i = j + 1 → (foldL l)[j]? ≠ some 32 := by
  have hne : wordsL l ≠ [] := fun e => by
    unfold foldL at h
    rw [e] at h
    simp [Lib.join] at h
  have hc : sgl true (foldL l) = true := sgl_join _ true (fun w hw => words_mem hw) hne
  obtain ⟨h1, h2, h3⟩ := sgl_at _ true i hc h
  exact ⟨fun e => by have := h1 e; simp at this, h2, h3⟩
/-! one byte -/
theorem fold_high (c : UInt8) (h : 128 ≤ c.toNat) : foldL [c] = [] := by
  have hb : bad [c] = true := by
    rw [bad_iff, Lib.decodeL_N]
    exact Lib.decodeN_alone _ _ _ _ _ (by simpa using h) (.inl (by simp))
  unfold foldL wordsL spellL
  rw [runes_bad (by simp) hb]
  rfl
def oneT (n : Nat) : List UInt8 := Lib.join (Lib.fields (spR n)) [32]
theorem fold_low (c : UInt8) (h : c.toNat < 128) : foldL [c] = oneT c.toNat := by
  unfold foldL wordsL spellL oneT
  rw [(cl_ascii c h).runes]
  simp
theorem one_facts : ∀ n : Fin 128, (letR n.val = (decide (oneT n.val = [n.val.toUInt8]) && !decide (n.val = 32))) ∧ (∀ b ∈ (oneT n.val).head?, letB b = true) := by decide +kernel
theorem one_letter (c : UInt8) : letB c = (decide (foldL [c] = [c]) && !(c == 32)) ∧ ∀ b ∈ (foldL [c]).head?, letB b = true := by
  by_cases h : c.toNat < 128
  · have k := one_facts ⟨c.toNat, h⟩
    simp only [u8_of] at k
    rw [fold_low c h]
    refine ⟨?_, k.2⟩
    unfold letB
    rw [k.1]
    congr 2
    by_cases e : c = 32
    · subst e; rfl
    · have e2 : c.toNat ≠ 32 := fun e3 => e (UInt8.toNat_inj.1 e3)
      simp [e, e2]
  · rw [fold_high c (by omega)]
    refine ⟨?_, by simp⟩
    unfold letB letR
    have h1 : ¬ (c.toNat ≤ 122) := by omega
    have h2 : ¬ (c.toNat ≤ 57) := by omega
    simp [h1, h2]
/-! several spellings -/
def Alike (A B : List Nat) : Prop := ∀ t, Lib.fields (A.flatMap spR ++ t) = Lib.fields (B.flatMap spR ++ t)
theorem alike_nil : Alike [] [] := fun t => rfl
theorem Alike.same {A B P Q : List Nat} (h : Alike A B) (e : P.flatMap spR = Q.flatMap spR) : Alike (A ++ P) (B ++ Q) := fun t => by
  rw [List.flatMap_append, List.flatMap_append, List.append_assoc, List.append_assoc, h, e]
theorem Alike.space {A B : List Nat} (h : Alike A B) : Alike (A ++ [32]) (B ++ [32, 32]) := fun t => by
  have e1 : ([32] : List Nat).flatMap spR = [32] := by decide
  have e2 : ([32, 32] : List Nat).flatMap spR = [32, 32] := by decide
  rw [List.flatMap_append, List.flatMap_append, e1, e2, List.append_assoc, List.append_assoc, h]
  show Lib.fields (_ ++ 32 :: t) = Lib.fields (_ ++ 32 :: 32 :: t)
  rw [fields_space, fields_space]
  have := fields_space [] t
  rw [List.nil_append] at this
  rw [this]
  rfl
theorem Alike.fold {a b : List UInt8} {A B : List Nat} (h : Alike A B) (ha : Cl a A) (hb : Cl b B) : foldL a = foldL b := by
  unfold foldL wordsL spellL
  rw [ha.runes, hb.runes]
  have := h []
  rw [List.append_nil, List.append_nil] at this
  rw [this]
end Go.Proofs.YtmegmgcfnihhiaaDoor
