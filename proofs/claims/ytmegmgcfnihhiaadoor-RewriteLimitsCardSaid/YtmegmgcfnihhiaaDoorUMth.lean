
/- Mathematics of layer 12: rules, where they match, and what they make of a text. -/
import Derived.Test.YtmegmgcfnihhiaaDoorOMt2
import Derived.Lib.Strings
namespace Go.Proofs.YtmegmgcfnihhiaaDoor
open Go
set_option linter.unusedVariables false
set_option linter.unusedSimpArgs false

/-! a text of letters and spaces, folded letter by letter -/
def sq : Bool → List UInt8 → List UInt8
  | _, [] => []
  | p, b :: t => if b == 32 then (if p = true ∨ sq true t = [] then sq true t else 32 :: sq true t) else b :: sq false t
theorem sq_join : ∀ s : List UInt8, (∀ b ∈ s, plB b = true) → Lib.join (Lib.fieldsGo [] s) [32] = sq true s ∧ ∀ cur : List UInt8, cur ≠ [] → Lib.join (Lib.fieldsGo cur s) [32] = cur ++ sq false s
  | [], _ => by
    refine ⟨rfl, fun cur hc => ?_⟩
    cases cur with
    | nil => exact absurd rfl hc
    | cons c u => simp [Lib.fieldsGo, join_one, sq]
  | b :: s, h => by
    obtain ⟨h1, h2⟩ := sq_join s fun c hc => h c (by simp [hc])
    have hsp := isSp_ok (h b (by simp))
    cases e : (b == 32) with
    | true =>
      rw [e] at hsp
      refine ⟨?_, fun cur hc => ?_⟩
      · rw [Lib.fieldsGo_sp b s hsp, h1]
        simp [sq, e]
      · rw [Lib.fieldsGo_end cur b s hsp hc]
        have hm : ∀ f ∈ Lib.fieldsGo [] s, f ≠ [] := fun f hf => (fieldsGo_mem s [] (by simp) f hf).1
        cases hw : Lib.fieldsGo [] s with
        | nil =>
          rw [hw] at h1
          have h0 : sq true s = [] := by rw [← h1]; rfl
          rw [join_one]
          simp [sq, e, h0]
        | cons x ws =>
          rw [hw] at h1 hm
          have h0 : sq true s ≠ [] := by
            rw [← h1]
            have hx := hm x (by simp)
            cases ws with
            | nil => rw [join_one]; exact hx
            | cons y ws => rw [join_cons]; simp [hx]
          rw [join_cons, h1]
          simp [sq, e, h0]
    | false =>
      rw [e] at hsp
      refine ⟨?_, fun cur hc => ?_⟩
      · rw [Lib.fieldsGo_more [] b s hsp, List.nil_append, h2 [b] (by simp)]
        simp [sq, e]
      · rw [Lib.fieldsGo_more cur b s hsp, h2 (cur ++ [b]) (by simp)]
        simp [sq, e]
theorem fold_sq {x : List UInt8} (h : ∀ b ∈ x, plB b = true) : foldL x = sq true x := by
  unfold foldL wordsL Lib.fields
  rw [spell_self x h]
  exact (sq_join x h).1
theorem sq_cut : ∀ (n : Nat) (x rest : List UInt8) (p : Bool), sgl p x = true → n ≤ x.length → ∃ r, sq p (x.take n ++ rest) = x.take (n - 1) ++ r
  | 0, x, rest, p, _, _ => ⟨_, by simp; rfl⟩
  | 1, x, rest, p, _, _ => ⟨_, by simp; rfl⟩
  | n + 2, [], rest, p, _, h => by simp at h
  | n + 2, b :: t, rest, p, hs, hl => by
    cases e : (b == 32) with
    | false =>
      have hst : sgl false t = true := by simpa [sgl, e] using hs
      obtain ⟨r, hr⟩ := sq_cut (n + 1) t rest false hst (by simpa using hl)
      refine ⟨r, ?_⟩
      show sq p (b :: (t.take (n + 1) ++ rest)) = b :: (t.take n ++ r)
      rw [sq, if_neg (by simp [e]), hr]
      rfl
    | true =>
      have hst : p = false ∧ sgl true t = true := by simpa [sgl, e] using hs
      obtain ⟨hp, hst⟩ := hst
      obtain ⟨r, hr⟩ := sq_cut (n + 1) t rest true hst (by simpa using hl)
      have hbe : b = 32 := by simpa using e
      refine ⟨r, ?_⟩
      show sq p (b :: (t.take (n + 1) ++ rest)) = b :: (t.take n ++ r)
      have hne : sq true (t.take (n + 1) ++ rest) ≠ [] := by
        cases t with
        | nil => simp [sgl] at hst
        | cons d u =>
          have hd : (d == 32) = false := by
            cases e2 : (d == 32) with
            | false => rfl
            | true => simp [sgl, e2] at hst
          show sq true (d :: (u.take n ++ rest)) ≠ []
          rw [sq, if_neg (by simp [hd])]
          simp
      rw [sq, if_pos e, if_neg (by rw [hp]; simp [hne]), hr, hbe]
      rfl
theorem sgl_fold (l : List UInt8) (h : foldL l ≠ []) : sgl true (foldL l) = true := by
  refine sgl_join (wordsL l) true (fun w hw => words_mem hw) fun e => h ?_
  unfold foldL
  rw [e]
  rfl
/-! weights -/
def wt (l : List UInt8) : Nat := (l.map fun b => 1000000 + b.toNat).sum
theorem wt_nil : wt [] = 0 := rfl
theorem wt_cons (b : UInt8) (l : List UInt8) : wt (b :: l) = 1000000 + b.toNat + wt l := by simp [wt]
theorem wt_app (a b : List UInt8) : wt (a ++ b) = wt a + wt b := by simp [wt]
theorem wt_len : ∀ l : List UInt8, l.length * 1000000 ≤ wt l ∧ wt l ≤ l.length * 1000255
  | [] => by simp [wt]
  | b :: t => by
    obtain ⟨h1, h2⟩ := wt_len t
    have h3 : b.toNat ≤ 255 := Nat.le_of_lt_succ b.toNat_lt
    rw [wt_cons, List.length_cons, Nat.succ_mul, Nat.succ_mul, Nat.add_comm (1000000 + b.toNat)]
    exact ⟨Nat.add_le_add h1 (Nat.le_add_right _ _), Nat.add_le_add h2 (Nat.add_le_add_left h3 1000000)⟩
theorem sq_wt : ∀ (s : List UInt8) (p : Bool), wt (sq p s) ≤ wt s
  | [], _ => by simp [sq]
  | b :: s, p => by
    have h1 := sq_wt s true
    have h2 := sq_wt s false
    cases e : (b == 32) with
    | true =>
      have hbe : b = 32 := by simpa using e
      rw [sq, if_pos e]
      split
      · rw [wt_cons]; omega
      · rw [wt_cons, wt_cons, hbe]; omega
    | false =>
      rw [sq, if_neg (by simp [e]), wt_cons, wt_cons]
      omega
theorem fold_wt {x : List UInt8} (h : ∀ b ∈ x, plB b = true) : wt (foldL x) ≤ wt x := by rw [fold_sq h]; exact sq_wt x true
/-! rules -/
/-- A rule: From, To and At. -/
structure Rul where
  f : List UInt8
  t : List UInt8
  p : Int
def placeB (r : Rul) (s : List UInt8) (i : Nat) : Bool :=
  if r.p = 0 then true else if r.p = 1 then decide (i = 0) else if r.p = 2 then decide (i + r.f.length = s.length) else if r.p = 3 then (decide (i = 0) || s.getD (i - 1) 0 == 32) && (decide (i + r.f.length = s.length) || s.getD (i + r.f.length) 0 == 32) else false
/-- Whether a rule matches a text at a position. -/
def standB (r : Rul) (s : List UInt8) (i : Nat) : Bool := Lib.hasPrefix (s.drop i) r.f && placeB r s i
def replL (r : Rul) (s : List UInt8) (i : Nat) : List UInt8 := s.take i ++ r.t ++ s.drop (i + r.f.length)
/-- Whether what the rule makes of a folded text has to be folded again. -/
def againB (r : Rul) : Bool := decide (r.t = []) || decide (0 ≤ Lib.indexByte r.t 32)
def stepL (r : Rul) (s : List UInt8) (i : Nat) : List UInt8 := if againB r = true then foldL (replL r s i) else replL r s i
def validT (l : List UInt8) : Bool := l.all plB && decide (l.length ≤ 256)
def shortB (r : Rul) : Bool := if r.f.length = 1 ∧ r.t.length = 1 then Op.bytesLess r.t r.f else decide (r.t.length < r.f.length)
def validR (r : Rul) : Bool := !decide (r.f = []) && validT r.f && validT r.t && decide (0 ≤ r.p) && decide (r.p ≤ 3) && shortB r
def validRs (R : List Rul) : Bool := decide (R.length ≤ 32) && R.all validR
def noRul : Rul := ⟨[], [], 0⟩
/-! the matches of rules, from a position on -/
def matchK (R : List Rul) (s : List UInt8) (i : Nat) : Nat → List (Nat × Nat)
  | 0 => []
  | k + 1 => matchK R s i k ++ if standB (R.getD k noRul) s i = true then [(i, k)] else []
def matchI (R : List Rul) (s : List UInt8) (a : Nat) : Nat → List (Nat × Nat)
  | 0 => []
  | n + 1 => matchI R s a n ++ matchK R s (a + n) R.length
def allM (R : List Rul) (s : List UInt8) (a : Nat) : List (Nat × Nat) := matchI R s a (s.length - a)
theorem matchK_pre (R : List Rul) (s : List UInt8) (i : Nat) {k n : Nat} (h : k ≤ n) : matchK R s i k <+: matchK R s i n := by
  induction n with
  | zero => obtain rfl : k = 0 := by omega
            exact List.prefix_refl _
  | succ n ih =>
    by_cases e : k = n + 1
    · subst e; exact List.prefix_refl _
    · exact (ih (by omega)).trans (List.prefix_append _ _)
theorem matchI_pre (R : List Rul) (s : List UInt8) (a : Nat) {k n : Nat} (h : k ≤ n) : matchI R s a k <+: matchI R s a n := by
  induction n with
  | zero => obtain rfl : k = 0 := by omega
            exact List.prefix_refl _
  | succ n ih =>
    by_cases e : k = n + 1
    · subst e; exact List.prefix_refl _
    · exact (ih (by omega)).trans (List.prefix_append _ _)
theorem match_pre (R : List Rul) (s : List UInt8) (a : Nat) {d k : Nat} (hd : a + d < s.length) (hk : k ≤ R.length) : matchI R s a d ++ matchK R s (a + d) k <+: allM R s a :=
  (List.prefix_append_right_inj _ |>.2 (matchK_pre R s (a + d) hk)).trans (matchI_pre R s a (k := d + 1) (by omega))
theorem matchK_mem {R : List Rul} {s : List UInt8} {i : Nat} : ∀ {n : Nat} {x : Nat × Nat}, x ∈ matchK R s i n ↔ x.1 = i ∧ x.2 < n ∧ standB (R.getD x.2 noRul) s i = true
  | 0, x => by simp [matchK]
  | n + 1, x => by
    rw [matchK, List.mem_append, matchK_mem]
    constructor
    · rintro (⟨h1, h2, h3⟩ | h)
      · exact ⟨h1, by omega, h3⟩
      · split at h
        · rename_i hs
          simp at h
          subst h
          exact ⟨rfl, by simp, hs⟩
        · simp at h
    · rintro ⟨h1, h2, h3⟩
      by_cases e : x.2 = n
      · refine .inr ?_
        rw [e] at h3
        rw [if_pos h3]
        simp
        exact Prod.ext h1 e
      · exact .inl ⟨h1, by omega, h3⟩
theorem matchI_mem {R : List Rul} {s : List UInt8} {a : Nat} : ∀ {n : Nat} {x : Nat × Nat}, x ∈ matchI R s a n ↔ a ≤ x.1 ∧ x.1 < a + n ∧ x.2 < R.length ∧ standB (R.getD x.2 noRul) s x.1 = true
  | 0, x => by simp [matchI]; omega
  | n + 1, x => by
    rw [matchI, List.mem_append, matchI_mem, matchK_mem]
    constructor
    · rintro (⟨h1, h2, h3, h4⟩ | ⟨h1, h2, h3⟩)
      · exact ⟨h1, by omega, h3, h4⟩
      · exact ⟨by omega, by omega, h2, by rw [h1]; exact h3⟩
    · rintro ⟨h1, h2, h3, h4⟩
      by_cases e : x.1 = a + n
      · exact .inr ⟨e, h3, by rw [← e]; exact h4⟩
      · exact .inl ⟨h1, by omega, h3, h4⟩
theorem allM_mem {R : List Rul} {s : List UInt8} {a : Nat} {x : Nat × Nat} : x ∈ allM R s a ↔ a ≤ x.1 ∧ x.1 < s.length ∧ x.2 < R.length ∧ standB (R.getD x.2 noRul) s x.1 = true := by
  unfold allM
  rw [matchI_mem]
  constructor
  · rintro ⟨h1, h2, h3⟩
    exact ⟨h1, by omega, h3⟩
  · rintro ⟨h1, h2, h3⟩
    exact ⟨h1, by omega, h3⟩
/-- The first match from a position on. -/
def firstO (R : List Rul) (s : List UInt8) (a : Nat) : Option (Nat × Nat) := (allM R s a).head?
theorem matchI_add (R : List Rul) (s : List UInt8) (a m : Nat) : ∀ n : Nat, matchI R s a (m + n) = matchI R s a m ++ matchI R s (a + m) n
  | 0 => by simp [matchI]
  | n + 1 => by rw [← Nat.add_assoc, matchI, matchI_add R s a m n, matchI, List.append_assoc, Nat.add_assoc]
theorem first_skip {R : List Rul} {s : List UInt8} {a : Nat} (ha : a ≤ s.length) (h : ∀ i k, i < a → k < R.length → standB (R.getD k noRul) s i = false) : firstO R s a = firstO R s 0 := by
  unfold firstO allM
  obtain ⟨n, hn⟩ : ∃ n, s.length = a + n := ⟨s.length - a, by omega⟩
  rw [hn, Nat.sub_zero, matchI_add, Nat.add_sub_cancel_left, Nat.zero_add]
  have : matchI R s 0 a = [] := by
    refine List.eq_nil_iff_forall_not_mem.2 fun x hx => ?_
    obtain ⟨_, h2, h3, h4⟩ := matchI_mem.1 hx
    rw [h x.1 x.2 (by omega) h3] at h4
    cases h4
  rw [this, List.nil_append]
theorem matchK_asc {R : List Rul} {s : List UInt8} {i : Nat} : ∀ {n : Nat} {x : Nat × Nat} {l : List (Nat × Nat)}, matchK R s i n = x :: l → ∀ j, j < x.2 → standB (R.getD j noRul) s i = false
  | n, x, l, h, j, hj => by
    cases hb : standB (R.getD j noRul) s i with
    | false => rfl
    | true =>
      exfalso
      have hx : x ∈ matchK R s i n := by rw [h]; simp
      obtain ⟨h1, h2, h3⟩ := matchK_mem.1 hx
      have hp := matchK_pre R s i (k := j + 1) (n := n) (by omega)
      rw [matchK, if_pos hb, h] at hp
      obtain ⟨t, ht⟩ := hp
      rw [List.append_assoc] at ht
      cases hm : matchK R s i j with
      | nil =>
        rw [hm] at ht
        simp at ht
        have := congrArg Prod.snd ht.1
        simp at this
        omega
      | cons y l' =>
        rw [hm] at ht
        simp at ht
        have hy : y ∈ matchK R s i j := by rw [hm]; simp
        have := (matchK_mem.1 hy).2.1
        rw [ht.1] at this
        omega
theorem matchI_first {R : List Rul} {s : List UInt8} {a : Nat} : ∀ {n : Nat} {x : Nat × Nat} {l : List (Nat × Nat)}, matchI R s a n = x :: l → ∀ i k, a ≤ i → i < x.1 → k < R.length → standB (R.getD k noRul) s i = false
  | n, x, l, h, i, k, ha, hi, hk => by
    cases hb : standB (R.getD k noRul) s i with
    | false => rfl
    | true =>
      exfalso
      have hx : x ∈ matchI R s a n := by rw [h]; simp
      obtain ⟨h1, h2, h3, h4⟩ := matchI_mem.1 hx
      have hp := matchI_pre R s a (k := i - a + 1) (n := n) (by omega)
      have hm : (i, k) ∈ matchI R s a (i - a + 1) := matchI_mem.2 ⟨ha, by simp; omega, hk, hb⟩
      rw [h] at hp
      obtain ⟨t, ht⟩ := hp
      cases hq : matchI R s a (i - a + 1) with
      | nil => rw [hq] at hm; simp at hm
      | cons y l' =>
        rw [hq] at ht
        simp at ht
        have hy : y ∈ matchI R s a (i - a + 1) := by rw [hq]; simp
        have := (matchI_mem.1 hy).2.1
        rw [ht.1] at this
        omega
theorem first_none {R : List Rul} {s : List UInt8} (h : firstO R s 0 = none) {i k : Nat} (hk : k < R.length) (hi : i < s.length) : standB (R.getD k noRul) s i = false := by
  cases hb : standB (R.getD k noRul) s i with
  | false => rfl
  | true =>
    have hm : (i, k) ∈ allM R s 0 := allM_mem.2 ⟨Nat.zero_le _, hi, hk, hb⟩
    unfold firstO at h
    rw [List.head?_eq_none_iff] at h
    rw [h] at hm
    simp at hm
theorem first_some {R : List Rul} {s : List UInt8} {a i k : Nat} (h : firstO R s a = some (i, k)) : a ≤ i ∧ i < s.length ∧ k < R.length ∧ standB (R.getD k noRul) s i = true ∧ ∀ i' k', a ≤ i' → i' < i → k' < R.length → standB (R.getD k' noRul) s i' = false := by
  unfold firstO at h
  obtain ⟨l, hl⟩ : ∃ l, allM R s a = (i, k) :: l := by
    cases e : allM R s a with
    | nil => rw [e] at h; simp at h
    | cons x l => rw [e] at h; simp at h; exact ⟨l, by rw [h]⟩
  have hm : (i, k) ∈ allM R s a := by rw [hl]; simp
  obtain ⟨h1, h2, h3, h4⟩ := allM_mem.1 hm
  exact ⟨h1, h2, h3, h4, fun i' k' ha hi hk => matchI_first hl i' k' ha hi hk⟩
end Go.Proofs.YtmegmgcfnihhiaaDoor
