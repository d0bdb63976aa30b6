
/- Mathematics of RewriteOrder: rules without letters in common can stand in any order. -/
import Derived.Test.YtmegmgcfnihhiaaDoorUMt2
namespace Go.Proofs.YtmegmgcfnihhiaaDoor
open Go
set_option linter.unusedVariables false
set_option linter.unusedSimpArgs false

/-! steps, by what stands before and behind -/
def placeP (p : Int) (u v : List UInt8) : Prop := p = 0 ∨ (p = 2 ∧ v = []) ∨ (p = 3 ∧ (u = [] ∨ ∃ u', u = u' ++ [32]) ∧ (v = [] ∨ ∃ v', v = 32 :: v'))
def StepP (r : Rul) (s s' : List UInt8) : Prop := ∃ u v, s = u ++ (r.f ++ v) ∧ s' = u ++ (r.t ++ v) ∧ placeP r.p u v
def IrrP (r : Rul) (s : List UInt8) : Prop := ∀ u v, s = u ++ (r.f ++ v) → ¬ placeP r.p u v
theorem last_get {s : List UInt8} {i : Nat} (hi : i ≤ s.length) (h0 : i ≠ 0) (h : s.getD (i - 1) 0 = 32) : ∃ u', s.take i = u' ++ [32] := by
  refine ⟨s.take (i - 1), ?_⟩
  have hl : i - 1 < s.length := by omega
  have e : s.getD (i - 1) 0 = s[i - 1] := by simp [List.getD, hl]
  rw [← h, e]
  have := List.take_succ_eq_append_getElem hl
  rw [← this]
  congr 1
  omega
theorem step_of {r : Rul} {s : List UInt8} {i : Nat} (h : standB r s i = true) (hi : i ≤ s.length) (hp : r.p = 0 ∨ r.p = 2 ∨ r.p = 3) : StepP r s (replL r s i) := by
  obtain ⟨h1, h2⟩ := stand_parts h hi
  refine ⟨s.take i, s.drop (i + r.f.length), h1, by unfold replL; rw [List.append_assoc], ?_⟩
  have h3 : placeB r s i = true := by
    unfold standB at h
    exact (Bool.and_eq_true_iff.1 h).2
  unfold placeB at h3
  rcases hp with hp | hp | hp
  · exact .inl hp
  · rw [hp] at h3
    simp at h3
    exact .inr (.inl ⟨hp, List.drop_eq_nil_of_le (by omega)⟩)
  · rw [hp] at h3
    simp at h3
    refine .inr (.inr ⟨hp, ?_, ?_⟩)
    · by_cases h0 : i = 0
      · subst h0; exact .inl (by simp)
      · refine .inr (last_get hi h0 ?_)
        rcases h3.1 with h | h
        · exact absurd h h0
        · simpa [List.getD] using h
    · by_cases he : i + r.f.length = s.length
      · exact .inl (List.drop_eq_nil_of_le (by omega))
      · have hl : i + r.f.length < s.length := by omega
        refine .inr ⟨s.drop (i + r.f.length + 1), ?_⟩
        rw [List.drop_eq_getElem_cons hl]
        congr 1
        rcases h3.2 with h | h
        · exact absurd h he
        · simpa [List.getD, hl] using h
theorem irr_of {r : Rul} {s : List UInt8} (hf : r.f ≠ []) (h : ∀ i, i < s.length → standB r s i = false) : IrrP r s := by
  intro u v hs hp
  have hfl : 0 < r.f.length := List.length_pos_iff.2 hf
  have hl : u.length < s.length := by rw [hs]; simp; omega
  have h1 := h u.length hl
  have e1 : s.drop u.length = r.f ++ v := by rw [hs, List.drop_left]
  have e2 : s.length = u.length + r.f.length + v.length := by rw [hs]; simp; omega
  have : standB r s u.length = true := by
    unfold standB
    rw [Bool.and_eq_true]
    refine ⟨by rw [e1]; simp [Lib.hasPrefix, List.isPrefixOf_iff_prefix], ?_⟩
    unfold placeB
    rcases hp with hp | ⟨hp, hv⟩ | ⟨hp, hu, hv⟩
    · rw [if_pos hp]
    · rw [hp, if_neg (by decide), if_neg (by decide), if_pos rfl]
      rw [decide_eq_true_eq, e2, hv]
      simp
    · rw [hp, if_neg (by decide), if_neg (by decide), if_neg (by decide), if_pos rfl, Bool.and_eq_true]
      constructor
      · rcases hu with hu | ⟨u', hu⟩
        · subst hu; simp
        · have : s.getD (u.length - 1) 0 = 32 := by
            rw [hs, hu]
            simp [List.getD]
          rw [this]; simp
      · rcases hv with hv | ⟨v', hv⟩
        · rw [e2, hv]; simp
        · have : s.getD (u.length + r.f.length) 0 = 32 := by
            rw [hs, hv, ← List.append_assoc]
            simp [List.getD]
          rw [this]; simp
  rw [h1] at this
  cases this
/-- What two lists of the same rules make in the end, by a normal form. -/
theorem ends_nf {R : List Rul} (nf : List UInt8 → List UInt8) (hp : ∀ k, k < R.length → (R.getD k noRul).p = 0 ∨ (R.getD k noRul).p = 2 ∨ (R.getD k noRul).p = 3) (hf : ∀ k, k < R.length → (R.getD k noRul).f ≠ []) (ha : ∀ k, k < R.length → againB (R.getD k noRul) = false)
    (h1 : ∀ k, k < R.length → ∀ s s', StepP (R.getD k noRul) s s' → nf s = nf s') (h2 : ∀ s, (∀ k, k < R.length → IrrP (R.getD k noRul) s) → nf s = s) {s t : List UInt8} (h : Ends R s t) : t = nf s := by
  induction h with
  | stop h0 => exact (h2 _ fun k hk => irr_of (hf k hk) fun i hi => first_none h0 hk hi).symm
  | step h0 _ ih =>
    obtain ⟨_, h4, h5, h6, _⟩ := first_some h0
    rw [ih]
    refine (h1 _ h5 _ _ ?_).symm
    unfold stepL
    rw [ha _ h5, if_neg (by simp)]
    exact step_of h6 (Nat.le_of_lt h4) (hp _ h5)

/-! the rules -/
def rulA : Nat → Rul | 0 => ⟨[112, 104], [104], 0⟩ | 1 => ⟨[112, 112], [112], 0⟩ | _ => ⟨[104, 112], [112], 2⟩
def rulB : Nat → Rul | 0 => ⟨[122, 122], [122], 0⟩ | 1 => ⟨[115, 122], [115], 3⟩ | _ => ⟨[122], [115], 0⟩
/-- A letter is taken away ahead of another. -/
def del (c d : UInt8) (b : UInt8) (acc : List UInt8) : List UInt8 := if b = c ∧ acc.head? = some d then acc else b :: acc
def delE (b : UInt8) (acc : List UInt8) : List UInt8 := if b = 104 ∧ acc = [112] then acc else b :: acc
def nfA : Nat → List UInt8 → List UInt8
  | 0, s => s.foldr (del 112 104) []
  | 1, s => s.foldr (del 112 112) []
  | _, s => s.foldr delE []
theorem del_head (c d : UInt8) (X : List UInt8) : (del c d d X).head? = some d := by
  unfold del
  split
  · rename_i h; exact h.2
  · rfl
theorem del_del (c d : UInt8) (X : List UInt8) : del c d c (del c d d X) = del c d d X := by
  rw [del, if_pos ⟨rfl, del_head c d X⟩]
theorem del_inv (c d : UInt8) (u v : List UInt8) : (u ++ ([c, d] ++ v)).foldr (del c d) [] = (u ++ ([d] ++ v)).foldr (del c d) [] := by
  simp only [List.foldr_append, List.foldr_cons, List.foldr_nil, del_del]
theorem nfA_inv : ∀ (i : Nat) (s s' : List UInt8), StepP (rulA i) s s' → nfA i s = nfA i s'
  | 0, s, s', ⟨u, v, h1, h2, _⟩ => by rw [h1, h2]; exact del_inv 112 104 u v
  | 1, s, s', ⟨u, v, h1, h2, _⟩ => by rw [h1, h2]; exact del_inv 112 112 u v
  | i + 2, s, s', ⟨u, v, h1, h2, h3⟩ => by
    have hv : v = [] := by
      rcases h3 with h | ⟨_, h⟩ | ⟨h, _⟩
      · exact absurd h (show ¬ (2 : Int) = 0 by decide)
      · exact h
      · exact absurd h (show ¬ (2 : Int) = 3 by decide)
    subst hv
    rw [h1, h2]
    show (u ++ ([104, 112] ++ [])).foldr delE [] = (u ++ ([112] ++ [])).foldr delE []
    simp only [List.foldr_append, List.foldr_cons, List.foldr_nil]
    rfl
theorem irr_tail {r : Rul} {b : UInt8} {s : List UInt8} (hp : r.p = 0 ∨ r.p = 2) (h : IrrP r (b :: s)) : IrrP r s := fun u v hs hpl => by
  refine h (b :: u) v (by rw [hs]; rfl) ?_
  rcases hpl with h1 | h1 | ⟨h1, _⟩
  · exact .inl h1
  · exact .inr (.inl h1)
  · rcases hp with h2 | h2 <;> rw [h2] at h1 <;> exact absurd h1 (by decide)
theorem del_fix (c d : UInt8) : ∀ s : List UInt8, (∀ u v, s ≠ u ++ ([c, d] ++ v)) → s.foldr (del c d) [] = s
  | [], _ => rfl
  | b :: s, h => by
    have ih := del_fix c d s fun u v e => h (b :: u) v (by rw [e]; rfl)
    rw [List.foldr_cons, ih, del, if_neg]
    rintro ⟨rfl, h2⟩
    cases s with
    | nil => simp at h2
    | cons x t =>
      simp at h2
      subst h2
      exact h [] t rfl
theorem delE_fix : ∀ s : List UInt8, (∀ u, s ≠ u ++ [104, 112]) → s.foldr delE [] = s
  | [], _ => rfl
  | b :: s, h => by
    have ih := delE_fix s fun u e => h (b :: u) (by rw [e]; rfl)
    rw [List.foldr_cons, ih, delE, if_neg]
    rintro ⟨rfl, rfl⟩
    exact h [] rfl
theorem nfA_fix : ∀ (i : Nat) (s : List UInt8), IrrP (rulA i) s → nfA i s = s
  | 0, s, h => del_fix 112 104 s fun u v e => h u v e (.inl rfl)
  | 1, s, h => del_fix 112 112 s fun u v e => h u v e (.inl rfl)
  | i + 2, s, h => delE_fix s fun u e => h u [] (by rw [e]; rfl) (.inr (.inl ⟨rfl, rfl⟩))

/-! words that are just sz -/
def nxt (q : Nat) (c : UInt8) : Nat := if c = 32 then 1 else if q = 1 ∧ c = 115 then 2 else 0
def nw : Nat → List UInt8 → List UInt8
  | _, [] => []
  | q, c :: t => if q = 2 ∧ c = 122 ∧ (t = [] ∨ t.head? = some 32) then nw 0 t else c :: nw (nxt q c) t
def stA (q : Nat) (u : List UInt8) : Nat := u.foldl nxt q
def zsB (b : UInt8) : UInt8 := if b = 122 then 115 else b
def nfB : Nat → List UInt8 → List UInt8
  | 0, s => s.foldr (del 122 122) []
  | 1, s => nw 1 s
  | _, s => s.map zsB
theorem nw_app : ∀ (u : List UInt8) (q : Nat), ∃ U, ∀ X : List UInt8, X ≠ [] → X.head? ≠ some 32 → nw q (u ++ X) = U ++ nw (stA q u) X
  | [], q => ⟨[], fun X _ _ => rfl⟩
  | c :: u, q => by
    by_cases h : q = 2 ∧ c = 122 ∧ u.head? = some 32
    · obtain ⟨U, hU⟩ := nw_app u 0
      refine ⟨U, fun X h1 h2 => ?_⟩
      have hn : nxt q c = 0 := by rw [h.1, h.2.1]; rfl
      have hh : (u ++ X).head? = some 32 := by
        cases u with
        | nil => simp at h
        | cons x u => simpa using h.2.2
      show nw q (c :: (u ++ X)) = _
      rw [nw, if_pos ⟨h.1, h.2.1, .inr hh⟩, hU X h1 h2]
      show _ = U ++ nw (stA (nxt q c) u) X
      rw [hn]
    · obtain ⟨U, hU⟩ := nw_app u (nxt q c)
      refine ⟨c :: U, fun X h1 h2 => ?_⟩
      show nw q (c :: (u ++ X)) = _
      rw [nw, if_neg, hU X h1 h2]
      · rfl
      · rintro ⟨e1, e2, e3⟩
        cases u with
        | nil =>
          rcases e3 with e3 | e3
          · exact h1 e3
          · exact h2 e3
        | cons x u =>
          refine h ⟨e1, e2, ?_⟩
          rcases e3 with e3 | e3
          · simp at e3
          · simpa using e3
theorem stA_snoc (q : Nat) (u : List UInt8) (c : UInt8) : stA q (u ++ [c]) = nxt (stA q u) c := by simp [stA]
theorem st_one {u : List UInt8} (h : u = [] ∨ ∃ u', u = u' ++ [32]) : stA 1 u = 1 := by
  rcases h with h | ⟨u', h⟩
  · subst h; rfl
  · rw [h, stA_snoc]; rfl
theorem one_st {u : List UInt8} (h : stA 1 u = 1) : u = [] ∨ ∃ u', u = u' ++ [32] := by
  rcases List.eq_nil_or_concat u with e | ⟨u', c, e⟩
  · exact .inl e
  · rw [List.concat_eq_append] at e
    subst e
    rw [stA_snoc] at h
    unfold nxt at h
    by_cases hc : c = 32
    · subst hc; exact .inr ⟨u', rfl⟩
    · rw [if_neg hc] at h
      split at h <;> cases h
theorem two_st {u : List UInt8} (h : stA 1 u = 2) : ∃ u', u = u' ++ [115] ∧ (u' = [] ∨ ∃ u'', u' = u'' ++ [32]) := by
  rcases List.eq_nil_or_concat u with e | ⟨u', c, e⟩
  · subst e; cases h
  · rw [List.concat_eq_append] at e
    subst e
    rw [stA_snoc] at h
    unfold nxt at h
    by_cases hc : c = 32
    · rw [if_pos hc] at h; cases h
    · rw [if_neg hc] at h
      by_cases h2 : stA 1 u' = 1 ∧ c = 115
      · exact ⟨u', by rw [h2.2], one_st h2.1⟩
      · rw [if_neg h2] at h; cases h
theorem nw_step {u v : List UInt8} (hu : u = [] ∨ ∃ u', u = u' ++ [32]) (hv : v = [] ∨ ∃ v', v = 32 :: v') : nw 1 (u ++ ([115, 122] ++ v)) = nw 1 (u ++ ([115] ++ v)) := by
  obtain ⟨U, hU⟩ := nw_app u 1
  rw [hU _ (by simp) (by simp), hU _ (by simp) (by simp), st_one hu]
  congr 1
  show nw 1 (115 :: 122 :: v) = nw 1 (115 :: v)
  have e : ∀ t, nw 1 (115 :: t) = 115 :: nw 2 t := fun t => by
    rw [nw, if_neg (by simp)]
    rfl
  rw [e, e]
  congr 1
  rw [nw]
  rcases hv with hv | ⟨v', hv⟩
  · subst hv; rfl
  · subst hv
    rw [if_pos ⟨rfl, rfl, .inr rfl⟩, nw, if_neg (by simp), nw, if_neg (by simp)]
    rfl
theorem nfB_inv : ∀ (j : Nat) (s s' : List UInt8), StepP (rulB j) s s' → nfB j s = nfB j s'
  | 0, s, s', ⟨u, v, h1, h2, _⟩ => by rw [h1, h2]; exact del_inv 122 122 u v
  | 1, s, s', ⟨u, v, h1, h2, h3⟩ => by
    rcases h3 with h | ⟨h, _⟩ | ⟨_, hu, hv⟩
    · exact absurd h (by decide)
    · exact absurd h (by decide)
    · rw [h1, h2]; exact nw_step hu hv
  | j + 2, s, s', ⟨u, v, h1, h2, _⟩ => by
    rw [h1, h2]
    show (u ++ ([122] ++ v)).map zsB = (u ++ ([115] ++ v)).map zsB
    simp [zsB]
theorem nw_fix (s : List UInt8) (h : IrrP (rulB 1) s) : ∀ (t p : List UInt8), s = p ++ t → nw (stA 1 p) t = t
  | [], p, _ => rfl
  | c :: t, p, hs => by
    have ih := nw_fix s h t (p ++ [c]) (by rw [hs]; simp)
    rw [stA_snoc] at ih
    rw [nw, if_neg, ih]
    rintro ⟨e1, rfl, e3⟩
    obtain ⟨u, hu, hu2⟩ := two_st e1
    refine h u t (by rw [hs, hu]; simp [rulB]) (.inr (.inr ⟨rfl, hu2, ?_⟩))
    rcases e3 with e3 | e3
    · exact .inl e3
    · cases t with
      | nil => simp at e3
      | cons x t => simp at e3; exact .inr ⟨t, by rw [e3]⟩
theorem nfB_fix : ∀ (j : Nat) (s : List UInt8), IrrP (rulB j) s → nfB j s = s
  | 0, s, h => del_fix 122 122 s fun u v e => h u v e (.inl rfl)
  | 1, s, h => nw_fix s h s [] rfl
  | j + 2, s, h => by
    show s.map zsB = s
    refine (List.map_congr_left fun b hb => ?_).trans (List.map_id s)
    rw [zsB, if_neg]
    · rfl
    · rintro rfl
      obtain ⟨u, v, e⟩ := List.append_of_mem hb
      exact h u v (by rw [e]; rfl) (.inl rfl)
/-! texts of p and h pass through -/
theorem del_through (c : UInt8) (hc : c ≠ 112 ∧ c ≠ 104) : ∀ (F X : List UInt8), (∀ b ∈ F, b = 112 ∨ b = 104) → F.foldr (del c c) X = F ++ X
  | [], X, _ => rfl
  | b :: F, X, h => by
    rw [List.foldr_cons, del_through c hc F X fun x hx => h x (by simp [hx]), del, if_neg]
    · rfl
    · rintro ⟨rfl, _⟩
      rcases h b (by simp) with e | e
      · exact hc.1 e
      · exact hc.2 e
theorem del_left (c : UInt8) (X : List UInt8) (hX : X.head? ≠ some c) (hne : X ≠ []) : ∀ u : List UInt8, u.foldr (del c c) X = u.foldr (del c c) [] ++ X
  | [] => rfl
  | b :: u => by
    rw [List.foldr_cons, List.foldr_cons, del_left c X hX hne u]
    cases hu : u.foldr (del c c) [] with
    | nil =>
      rw [List.nil_append, del, if_neg (by rintro ⟨_, h⟩; exact hX h), del, if_neg (by rintro ⟨_, h⟩; simp at h)]
      rfl
    | cons x t =>
      by_cases h : b = c ∧ x = c
      · rw [del, if_pos ⟨h.1, by simp [h.2]⟩, del, if_pos ⟨h.1, by simp [h.2]⟩]
      · rw [del, if_neg (by rintro ⟨h1, h2⟩; simp at h2; exact h ⟨h1, h2⟩), del, if_neg (by rintro ⟨h1, h2⟩; simp at h2; exact h ⟨h1, h2⟩)]
        rfl
theorem nw_through : ∀ (F v : List UInt8) (q : Nat), F ≠ [] → (∀ b ∈ F, b = 112 ∨ b = 104) → nw q (F ++ v) = F ++ nw 0 v
  | [], v, q, h, _ => absurd rfl h
  | [b], v, q, _, h => by
    have hb := h b (by simp)
    show nw q (b :: v) = b :: nw 0 v
    have hn : nxt q b = 0 := by rcases hb with rfl | rfl <;> simp [nxt]
    rw [nw, if_neg, hn]
    rintro ⟨_, rfl, _⟩
    rcases hb with e | e <;> exact absurd e (by decide)
  | b :: c :: F, v, q, _, h => by
    have hb := h b (by simp)
    show nw q (b :: ((c :: F) ++ v)) = b :: ((c :: F) ++ nw 0 v)
    rw [nw, if_neg, nw_through (c :: F) v _ (by simp) fun x hx => h x (by simp at hx ⊢; exact .inr hx)]
    rintro ⟨_, rfl, _⟩
    rcases hb with e | e <;> exact absurd e (by decide)
theorem nfB_trans : ∀ (j : Nat) (u v : List UInt8), ∃ U V, (v = [] → V = []) ∧ ∀ F : List UInt8, F ≠ [] → (∀ b ∈ F, b = 112 ∨ b = 104) → nfB j (u ++ (F ++ v)) = U ++ (F ++ V)
  | 0, u, v => by
    refine ⟨u.foldr (del 122 122) [], v.foldr (del 122 122) [], fun h => by rw [h]; rfl, fun F hF hm => ?_⟩
    show (u ++ (F ++ v)).foldr (del 122 122) [] = _
    rw [List.foldr_append, List.foldr_append, del_through 122 (by decide) F _ hm, del_left 122 _ ?_ (by simp [hF])]
    cases F with
    | nil => exact absurd rfl hF
    | cons b F =>
      rcases hm b (by simp) with e | e <;> simp [e]
  | 1, u, v => by
    obtain ⟨U, hU⟩ := nw_app u 1
    refine ⟨U, nw 0 v, fun h => by rw [h]; rfl, fun F hF hm => ?_⟩
    show nw 1 (u ++ (F ++ v)) = _
    rw [hU _ (by simp [hF]) ?_, nw_through F v _ hF hm]
    cases F with
    | nil => exact absurd rfl hF
    | cons b F =>
      rcases hm b (by simp) with e | e <;> simp [e]
  | j + 2, u, v => by
    refine ⟨u.map zsB, v.map zsB, fun h => by rw [h]; rfl, fun F hF hm => ?_⟩
    show (u ++ (F ++ v)).map zsB = _
    rw [List.map_append, List.map_append]
    congr 2
    refine (List.map_congr_left fun b hb => ?_).trans (List.map_id F)
    rcases hm b hb with e | e <;> subst e <;> rfl
theorem rulA_letters : ∀ i : Nat, (rulA i).f ≠ [] ∧ (rulA i).t ≠ [] ∧ (∀ b ∈ (rulA i).f, b = 112 ∨ b = 104) ∧ (∀ b ∈ (rulA i).t, b = 112 ∨ b = 104) ∧ ((rulA i).p = 0 ∨ (rulA i).p = 2)
  | 0 => by simp [rulA]
  | 1 => by simp [rulA]
  | i + 2 => by simp [rulA]
theorem trans_step (i j : Nat) {s s' : List UInt8} (h : StepP (rulA i) s s') : StepP (rulA i) (nfB j s) (nfB j s') := by
  obtain ⟨u, v, h1, h2, h3⟩ := h
  obtain ⟨U, V, hV, hF⟩ := nfB_trans j u v
  obtain ⟨a1, a2, a3, a4, a5⟩ := rulA_letters i
  refine ⟨U, V, by rw [h1, hF _ a1 a3], by rw [h2, hF _ a2 a4], ?_⟩
  rcases h3 with h | ⟨h, hv⟩ | ⟨h, _⟩
  · exact .inl h
  · exact .inr (.inl ⟨h, hV hv⟩)
  · rcases a5 with e | e <;> rw [e] at h <;> exact absurd h (by decide)
theorem rulB_parts : ∀ j : Nat, (rulB j).f ≠ [] ∧ ((rulB j).p = 0 ∨ (rulB j).p = 2 ∨ (rulB j).p = 3) ∧ againB (rulB j) = false
  | 0 => ⟨by simp [rulB], .inl rfl, by decide +kernel⟩
  | 1 => ⟨by simp [rulB], .inr (.inr rfl), by decide +kernel⟩
  | j + 2 => ⟨by simp [rulB], .inl rfl, by show againB ⟨[122], [115], 0⟩ = false; decide +kernel⟩
theorem rulA_parts : ∀ j : Nat, (rulA j).f ≠ [] ∧ ((rulA j).p = 0 ∨ (rulA j).p = 2 ∨ (rulA j).p = 3) ∧ againB (rulA j) = false
  | 0 => ⟨by simp [rulA], .inl rfl, by decide +kernel⟩
  | 1 => ⟨by simp [rulA], .inl rfl, by decide +kernel⟩
  | j + 2 => ⟨by simp [rulA], .inr (.inl rfl), by show againB ⟨[104, 112], [112], 2⟩ = false; decide +kernel⟩
theorem two_rules {P : Rul → Prop} {a b : Rul} (ha : P a) (hb : P b) : ∀ k, k < [a, b].length → P ([a, b].getD k noRul)
  | 0, _ => ha
  | 1, _ => hb
  | k + 2, h => by
    have h' : k + 2 < 2 := h
    omega
/-- The order of two such rules makes no difference. -/
theorem order_same (i j : Nat) {s x y : List UInt8} (h1 : Ends [rulA i, rulB j] s x) (h2 : Ends [rulB j, rulA i] s y) : x = y := by
  have hA := rulA_parts i
  have hB := rulB_parts j
  have sA : ∀ s s', StepP (rulA i) s s' → nfA i (nfB j s) = nfA i (nfB j s') := fun s s' h => nfA_inv i _ _ (trans_step i j h)
  have sB : ∀ s s', StepP (rulB j) s s' → nfA i (nfB j s) = nfA i (nfB j s') := fun s s' h => by rw [nfB_inv j _ _ h]
  have hfix : ∀ s, IrrP (rulA i) s → IrrP (rulB j) s → nfA i (nfB j s) = s := fun s h h' => by rw [nfB_fix j s h', nfA_fix i s h]
  have e1 := ends_nf (R := [rulA i, rulB j]) (fun s => nfA i (nfB j s)) (two_rules (P := fun r => r.p = 0 ∨ r.p = 2 ∨ r.p = 3) hA.2.1 hB.2.1) (two_rules (P := fun r => r.f ≠ []) hA.1 hB.1) (two_rules (P := fun r => againB r = false) hA.2.2 hB.2.2) (two_rules (P := fun r => ∀ s s', StepP r s s' → nfA i (nfB j s) = nfA i (nfB j s')) sA sB)
    (fun s h => hfix s (h 0 (by simp)) (h 1 (by simp))) h1
  have e2 := ends_nf (R := [rulB j, rulA i]) (fun s => nfA i (nfB j s)) (two_rules (P := fun r => r.p = 0 ∨ r.p = 2 ∨ r.p = 3) hB.2.1 hA.2.1) (two_rules (P := fun r => r.f ≠ []) hB.1 hA.1) (two_rules (P := fun r => againB r = false) hB.2.2 hA.2.2) (two_rules (P := fun r => ∀ s s', StepP r s s' → nfA i (nfB j s) = nfA i (nfB j s')) sB sA)
    (fun s h => hfix s (h 1 (by simp)) (h 0 (by simp))) h2
  rw [e1, e2]
end Go.Proofs.YtmegmgcfnihhiaaDoor
