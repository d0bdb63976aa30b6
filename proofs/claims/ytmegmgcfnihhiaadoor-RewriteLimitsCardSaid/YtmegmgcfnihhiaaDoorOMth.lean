
/- Mathematics of folding: code points of a text, its spelling, its words. -/
import Derived.Lib.MapLaws
import Derived.Lib.TrimAscii
import Derived.Lib.Fields
import Derived.Lib.Join
namespace Go.Proofs.YtmegmgcfnihhiaaDoor
open Go
set_option linter.unusedVariables false
set_option linter.unusedSimpArgs false

/-! ### code points -/
set_option maxRecDepth 100000 in
set_option maxHeartbeats 4000000 in
/-- What is decoded from valid bytes does not depend on what follows. -/
theorem dec_loc (n n' b0 b1 b2 b3 c1 c2 c3 : Nat) (hne : Lib.decodeN n b0 b1 b2 b3 ≠ (65533, 1)) (hn : (Lib.decodeN n b0 b1 b2 b3).2 ≤ n')
    (e1 : 1 < (Lib.decodeN n b0 b1 b2 b3).2 → c1 = b1) (e2 : 2 < (Lib.decodeN n b0 b1 b2 b3).2 → c2 = b2) (e3 : 3 < (Lib.decodeN n b0 b1 b2 b3).2 → c3 = b3) : Lib.decodeN n' b0 c1 c2 c3 = Lib.decodeN n b0 b1 b2 b3 := by
  rcases Lib.decodeN_shape n b0 b1 b2 b3 with ⟨h, e⟩ | ⟨h1, h2, h3, h4, e⟩ | ⟨h1, h2, h3, h4, h5, h6, e⟩ | ⟨h1, h2, h3, h4, h5, h6, h7, e⟩ | e
  · rw [e]; exact Lib.decodeN_ascii _ _ _ _ _ h
  · rw [e] at hn e1 ⊢
    obtain rfl := e1 (by simp)
    simp only at hn
    unfold Lib.decodeN
    rw [if_neg (by omega), if_pos ⟨h1, by omega, h3⟩, if_pos h4]
  · rw [e] at hn e1 e2 ⊢
    obtain rfl := e1 (by simp)
    obtain rfl := e2 (by simp)
    simp only at hn
    unfold Lib.decodeN
    rw [if_neg (by omega), if_neg (by omega), if_pos ⟨h1, ⟨by omega, h3⟩, by omega, h4⟩, if_pos ⟨h5, by omega⟩]
  · rw [e] at hn e1 e2 e3 ⊢
    obtain rfl := e1 (by simp)
    obtain rfl := e2 (by simp)
    obtain rfl := e3 (by simp)
    simp only at hn
    unfold Lib.decodeN
    rw [if_neg (by omega), if_neg (by omega), if_neg (by omega), if_pos ⟨h1, ⟨by omega, h3⟩, ⟨by omega, h4⟩, by omega, h5⟩, if_pos ⟨h6, by omega⟩]
  · exact absurd e hne
theorem dec_le4 (n b0 b1 b2 b3 : Nat) : 1 ≤ (Lib.decodeN n b0 b1 b2 b3).2 ∧ (Lib.decodeN n b0 b1 b2 b3).2 ≤ 4 := by
  rcases Lib.decodeN_shape n b0 b1 b2 b3 with ⟨h, e⟩ | ⟨h1, h2, h3, h4, e⟩ | ⟨h1, h2, h3, h4, h5, h6, e⟩ | ⟨h1, h2, h3, h4, h5, h6, h7, e⟩ | e <;> rw [e] <;> simp
def bad (l : List UInt8) : Bool := decide (Lib.decodeL l = (65533, 1))
theorem dl_pos (l : List UInt8) : 1 ≤ (Lib.decodeL l).2 := by rw [Lib.decodeL_N]; exact (dec_le4 _ _ _ _ _).1
theorem bad_iff (l : List UInt8) : bad l = true ↔ Lib.decodeL l = (65533, 1) := by simp [bad]
theorem getD_app (a t : List UInt8) {i : Nat} (h : i < a.length) : (a ++ t).getD i 0 = a.getD i 0 := by simp [List.getD, List.getElem?_append, h]
theorem getD_take8 (l : List UInt8) (i k : Nat) (h : k < i) : (l.take i).getD k 0 = l.getD k 0 := by simp [List.getD, h]
/-- Valid bytes in front of whatever. -/
theorem dl_app (a t : List UInt8) (ha : a ≠ []) (hb : bad a = false) : Lib.decodeL (a ++ t) = Lib.decodeL a := by
  have hle := Lib.decodeL_le a ha
  have hb' : Lib.decodeL a ≠ (65533, 1) := by simpa [bad] using hb
  have hl : 0 < a.length := List.length_pos_iff.2 ha
  rw [Lib.decodeL_N] at hle hb'
  rw [Lib.decodeL_N, Lib.decodeL_N, getD_app a t hl]
  refine dec_loc _ _ _ _ _ _ _ _ _ hb' (by rw [List.length_append]; omega) (fun h => ?_) (fun h => ?_) (fun h => ?_) <;> rw [getD_app a t (by omega)]
theorem dl_take (l : List UInt8) (hl : l ≠ []) (hb : bad l = false) (t : List UInt8) : Lib.decodeL (l.take (Lib.decodeL l).2 ++ t) = Lib.decodeL l := by
  have hle := Lib.decodeL_le l hl
  have hp := dl_pos l
  have hb' : Lib.decodeL l ≠ (65533, 1) := by simpa [bad] using hb
  have hN := Lib.decodeL_N l
  obtain ⟨w, hw⟩ : ∃ w, (Lib.decodeL l).2 = w := ⟨_, rfl⟩
  rw [hw] at hle hp ⊢
  have htl : (l.take w).length = w := by rw [List.length_take]; omega
  have hg : ∀ k, k < w → (l.take w ++ t).getD k 0 = l.getD k 0 := fun k hk => by rw [getD_app _ _ (by omega), getD_take8 _ _ _ hk]
  rw [hN] at hb' hw
  rw [Lib.decodeL_N (l.take w ++ t), hg 0 (by omega), hN]
  refine dec_loc _ _ _ _ _ _ _ _ _ hb' (by rw [List.length_append, htl]; omega) (fun h => ?_) (fun h => ?_) (fun h => ?_) <;> rw [hg _ (by omega)]
/-- Bytes that are not valid stay so in front of a space. -/
theorem dl_bad (a t : List UInt8) (ha : a ≠ []) (hb : bad a = true) : Lib.decodeL (a ++ 32 :: t) = (65533, 1) := by
  have hl : 0 < a.length := List.length_pos_iff.2 ha
  have hb' := (bad_iff a).1 hb
  by_cases h : Lib.decodeL (a ++ 32 :: t) = (65533, 1)
  · exact h
  exfalso
  rw [Lib.decodeL_N] at h hb'
  have hn : (a ++ 32 :: t).length = a.length + t.length + 1 := by simp; omega
  rw [getD_app a _ hl] at h
  have hsp : ∀ k, k = a.length → ((a ++ 32 :: t).getD k 0).toNat / 64 ≠ 2 := fun k hk => by
    subst hk
    simp [List.getD, List.getElem?_append]
  have hw : (Lib.decodeN (a ++ 32 :: t).length (a.getD 0 0).toNat ((a ++ 32 :: t).getD 1 0).toNat ((a ++ 32 :: t).getD 2 0).toNat ((a ++ 32 :: t).getD 3 0).toNat).2 ≤ a.length := by
    rcases Lib.decodeN_shape (a ++ 32 :: t).length (a.getD 0 0).toNat ((a ++ 32 :: t).getD 1 0).toNat ((a ++ 32 :: t).getD 2 0).toNat ((a ++ 32 :: t).getD 3 0).toNat with ⟨h, e⟩ | ⟨h1, h2, h3, h4, e⟩ | ⟨h1, h2, h3, h4, h5, h6, e⟩ | ⟨h1, h2, h3, h4, h5, h6, h7, e⟩ | e
    · rw [e]; simp only; omega
    · rw [e]; simp only
      have k1 : 1 ≠ a.length := fun hk => hsp 1 hk h3
      omega
    · rw [e]; simp only
      have k1 : 1 ≠ a.length := fun hk => hsp 1 hk h3
      have k2 : 2 ≠ a.length := fun hk => hsp 2 hk h4
      omega
    · rw [e]; simp only
      have k1 : 1 ≠ a.length := fun hk => hsp 1 hk h3
      have k2 : 2 ≠ a.length := fun hk => hsp 2 hk h4
      have k3 : 3 ≠ a.length := fun hk => hsp 3 hk h5
      omega
    · exact absurd e h
  have h2 := dec_loc _ a.length _ _ _ _ (a.getD 1 0).toNat (a.getD 2 0).toNat (a.getD 3 0).toNat h hw (fun h => by rw [getD_app a _ (by omega)]) (fun h => by rw [getD_app a _ (by omega)]) (fun h => by rw [getD_app a _ (by omega)])
  rw [hb'] at h2
  exact h h2.symm

/-- The code points of a text; bytes that are not valid are dropped. -/
def runesG : Nat → List UInt8 → List Nat
  | 0, _ => []
  | f + 1, l => if l = [] then [] else if bad l then runesG f (l.drop 1) else (Lib.decodeL l).1 :: runesG f (l.drop (Lib.decodeL l).2)
def runes (l : List UInt8) : List Nat := runesG l.length l
/-- The bytes that are valid. -/
def keepG : Nat → List UInt8 → List UInt8
  | 0, _ => []
  | f + 1, l => if l = [] then [] else if bad l then keepG f (l.drop 1) else l.take (Lib.decodeL l).2 ++ keepG f (l.drop (Lib.decodeL l).2)
def keepL (l : List UInt8) : List UInt8 := keepG l.length l
/-- The code points of a text as a range over it gives them. -/
def allG : Nat → List UInt8 → List Nat
  | 0, _ => []
  | f + 1, l => if l = [] then [] else (Lib.decodeL l).1 :: allG f (l.drop (Lib.decodeL l).2)
def allR (l : List UInt8) : List Nat := allG l.length l
theorem drop_lt (l : List UInt8) {w : Nat} (hl : l ≠ []) (hw : 1 ≤ w) : (l.drop w).length < l.length := by
  have : 0 < l.length := List.length_pos_iff.2 hl
  rw [List.length_drop]; omega
theorem runesG_fuel : ∀ (f g : Nat) (l : List UInt8), l.length ≤ f → l.length ≤ g → runesG f l = runesG g l
  | 0, g, l, hf, _ => by
    have : l = [] := List.eq_nil_of_length_eq_zero (by omega)
    subst this; cases g <;> simp [runesG]
  | f + 1, 0, l, _, hg => by
    have : l = [] := List.eq_nil_of_length_eq_zero (by omega)
    subst this; simp [runesG]
  | f + 1, g + 1, l, hf, hg => by
    unfold runesG
    by_cases hl : l = []
    · rw [if_pos hl, if_pos hl]
    · rw [if_neg hl, if_neg hl]
      have h1 := drop_lt l hl (Nat.le_refl 1)
      have h2 := drop_lt l hl (dl_pos l)
      rw [runesG_fuel f g (l.drop 1) (by omega) (by omega), runesG_fuel f g (l.drop (Lib.decodeL l).2) (by omega) (by omega)]
theorem keepG_fuel : ∀ (f g : Nat) (l : List UInt8), l.length ≤ f → l.length ≤ g → keepG f l = keepG g l
  | 0, g, l, hf, _ => by
    have : l = [] := List.eq_nil_of_length_eq_zero (by omega)
    subst this; cases g <;> simp [keepG]
  | f + 1, 0, l, _, hg => by
    have : l = [] := List.eq_nil_of_length_eq_zero (by omega)
    subst this; simp [keepG]
  | f + 1, g + 1, l, hf, hg => by
    unfold keepG
    by_cases hl : l = []
    · rw [if_pos hl, if_pos hl]
    · rw [if_neg hl, if_neg hl]
      have h1 := drop_lt l hl (Nat.le_refl 1)
      have h2 := drop_lt l hl (dl_pos l)
      rw [keepG_fuel f g (l.drop 1) (by omega) (by omega), keepG_fuel f g (l.drop (Lib.decodeL l).2) (by omega) (by omega)]
theorem allG_fuel : ∀ (f g : Nat) (l : List UInt8), l.length ≤ f → l.length ≤ g → allG f l = allG g l
  | 0, g, l, hf, _ => by
    have : l = [] := List.eq_nil_of_length_eq_zero (by omega)
    subst this; cases g <;> simp [allG]
  | f + 1, 0, l, _, hg => by
    have : l = [] := List.eq_nil_of_length_eq_zero (by omega)
    subst this; simp [allG]
  | f + 1, g + 1, l, hf, hg => by
    unfold allG
    by_cases hl : l = []
    · rw [if_pos hl, if_pos hl]
    · rw [if_neg hl, if_neg hl]
      have h2 := drop_lt l hl (dl_pos l)
      rw [allG_fuel f g (l.drop (Lib.decodeL l).2) (by omega) (by omega)]
theorem runes_nil : runes [] = [] := rfl
theorem keepL_nil : keepL [] = [] := rfl
theorem allR_nil : allR [] = [] := rfl
theorem runes_bad {l : List UInt8} (hl : l ≠ []) (h : bad l = true) : runes l = runes (l.drop 1) := by
  obtain ⟨f, hf⟩ : ∃ f, l.length = f + 1 := ⟨l.length - 1, by have : 0 < l.length := List.length_pos_iff.2 hl; omega⟩
  unfold runes
  rw [hf]
  show (if l = [] then [] else _) = _
  rw [if_neg hl, if_pos h]
  exact runesG_fuel _ _ _ (by rw [List.length_drop]; omega) (Nat.le_refl _)
theorem runes_good {l : List UInt8} (hl : l ≠ []) (h : bad l = false) : runes l = (Lib.decodeL l).1 :: runes (l.drop (Lib.decodeL l).2) := by
  obtain ⟨f, hf⟩ : ∃ f, l.length = f + 1 := ⟨l.length - 1, by have : 0 < l.length := List.length_pos_iff.2 hl; omega⟩
  unfold runes
  rw [hf]
  show (if l = [] then [] else _) = _
  rw [if_neg hl, if_neg (by simp [h])]
  rw [runesG_fuel f (l.drop (Lib.decodeL l).2).length _ (by have := drop_lt l hl (dl_pos l); omega) (Nat.le_refl _)]
theorem keepL_bad {l : List UInt8} (hl : l ≠ []) (h : bad l = true) : keepL l = keepL (l.drop 1) := by
  obtain ⟨f, hf⟩ : ∃ f, l.length = f + 1 := ⟨l.length - 1, by have : 0 < l.length := List.length_pos_iff.2 hl; omega⟩
  unfold keepL
  rw [hf]
  show (if l = [] then [] else _) = _
  rw [if_neg hl, if_pos h]
  exact keepG_fuel _ _ _ (by rw [List.length_drop]; omega) (Nat.le_refl _)
theorem keepL_good {l : List UInt8} (hl : l ≠ []) (h : bad l = false) : keepL l = l.take (Lib.decodeL l).2 ++ keepL (l.drop (Lib.decodeL l).2) := by
  obtain ⟨f, hf⟩ : ∃ f, l.length = f + 1 := ⟨l.length - 1, by have : 0 < l.length := List.length_pos_iff.2 hl; omega⟩
  unfold keepL
  rw [hf]
  show (if l = [] then [] else _) = _
  rw [if_neg hl, if_neg (by simp [h])]
  rw [keepG_fuel f (l.drop (Lib.decodeL l).2).length _ (by have := drop_lt l hl (dl_pos l); omega) (Nat.le_refl _)]
theorem allR_step {l : List UInt8} (hl : l ≠ []) : allR l = (Lib.decodeL l).1 :: allR (l.drop (Lib.decodeL l).2) := by
  obtain ⟨f, hf⟩ : ∃ f, l.length = f + 1 := ⟨l.length - 1, by have : 0 < l.length := List.length_pos_iff.2 hl; omega⟩
  unfold allR
  rw [hf]
  show (if l = [] then [] else _) = _
  rw [if_neg hl, allG_fuel f (l.drop (Lib.decodeL l).2).length _ (by have := drop_lt l hl (dl_pos l); omega) (Nat.le_refl _)]
theorem keepL_len : ∀ (n : Nat) (l : List UInt8), l.length ≤ n → (keepL l).length ≤ l.length
  | 0, l, h => by
    have : l = [] := List.eq_nil_of_length_eq_zero (by omega)
    subst this; simp [keepL_nil]
  | n + 1, l, h => by
    by_cases hl : l = []
    · subst hl; simp [keepL_nil]
    cases hb : bad l with
    | true =>
      rw [keepL_bad hl hb]
      have h1 := drop_lt l hl (Nat.le_refl 1)
      have := keepL_len n (l.drop 1) (by omega)
      omega
    | false =>
      rw [keepL_good hl hb, List.length_append, List.length_take]
      have h1 := drop_lt l hl (dl_pos l)
      have h2 := keepL_len n (l.drop (Lib.decodeL l).2) (by omega)
      rw [List.length_drop] at h2
      have := Lib.decodeL_le l hl
      omega
/-- A range over the valid bytes gives the code points. -/
theorem allR_keep : ∀ (n : Nat) (l : List UInt8), l.length ≤ n → allR (keepL l) = runes l
  | 0, l, h => by
    have : l = [] := List.eq_nil_of_length_eq_zero (by omega)
    subst this; rfl
  | n + 1, l, h => by
    by_cases hl : l = []
    · subst hl; rfl
    cases hb : bad l with
    | true =>
      rw [keepL_bad hl hb, runes_bad hl hb]
      exact allR_keep n _ (by have := drop_lt l hl (Nat.le_refl 1); omega)
    | false =>
      rw [keepL_good hl hb, runes_good hl hb]
      have hw := dl_pos l
      have hle := Lib.decodeL_le l hl
      have hd := dl_take l hl hb (keepL (l.drop (Lib.decodeL l).2))
      have htl : (l.take (Lib.decodeL l).2).length = (Lib.decodeL l).2 := by rw [List.length_take]; omega
      have hne : l.take (Lib.decodeL l).2 ++ keepL (l.drop (Lib.decodeL l).2) ≠ [] := fun e => by
        have := congrArg List.length e
        rw [List.length_append, htl] at this
        simp at this; omega
      rw [allR_step hne, hd]
      rw [show (l.take (Lib.decodeL l).2 ++ keepL (l.drop (Lib.decodeL l).2)).drop (Lib.decodeL l).2 = keepL (l.drop (Lib.decodeL l).2) by rw [List.drop_append_of_le_length (by omega), List.drop_eq_nil_of_le (by omega), List.nil_append]]
      rw [allR_keep n _ (by have := drop_lt l hl hw; omega)]
/-- A space parts the code points. -/
theorem runes_space : ∀ (n : Nat) (a t : List UInt8), a.length ≤ n → runes (a ++ 32 :: t) = runes a ++ 32 :: runes t
  | 0, a, t, h => by
    have : a = [] := List.eq_nil_of_length_eq_zero (by omega)
    subst this
    have e : Lib.decodeL (32 :: t) = (32, 1) := Lib.decodeL_ascii 32 t (by decide)
    rw [List.nil_append, runes_good (by simp) (by rw [bad, e]; decide), e]
    rfl
  | n + 1, a, t, h => by
    by_cases ha : a = []
    · subst ha
      exact runes_space 0 [] t (Nat.le_refl _)
    have hne : a ++ 32 :: t ≠ [] := by simp
    cases hb : bad a with
    | true =>
      have hb2 : bad (a ++ 32 :: t) = true := (bad_iff _).2 (dl_bad a t ha hb)
      rw [runes_bad hne hb2, runes_bad ha hb, List.drop_append_of_le_length (by have : 0 < a.length := List.length_pos_iff.2 ha; omega)]
      exact runes_space n _ t (by have := drop_lt a ha (Nat.le_refl 1); omega)
    | false =>
      have hd := dl_app a (32 :: t) ha hb
      have hb2 : bad (a ++ 32 :: t) = false := by rw [bad, hd]; exact hb
      rw [runes_good hne hb2, runes_good ha hb, hd, List.drop_append_of_le_length (Lib.decodeL_le a ha), List.cons_append]
      rw [runes_space n _ t (by have := drop_lt a ha (dl_pos a); omega)]
/-- Bytes that give these code points, whatever follows. -/
def Cl (a : List UInt8) (A : List Nat) : Prop := ∀ t, runes (a ++ t) = A ++ runes t
theorem cl_nil : Cl [] [] := fun t => rfl
theorem Cl.app {a b : List UInt8} {A B : List Nat} (h : Cl a A) (k : Cl b B) : Cl (a ++ b) (A ++ B) := fun t => by
  rw [List.append_assoc, h, k, List.append_assoc]
theorem Cl.runes {a : List UInt8} {A : List Nat} (h : Cl a A) : runes a = A := by
  have := h []
  rw [List.append_nil, runes_nil, List.append_nil] at this
  exact this
theorem cl_ascii (c : UInt8) (h : c.toNat < 128) : Cl [c] [c.toNat] := fun t => by
  have e := Lib.decodeL_ascii c t h
  have hb : bad (c :: t) = false := by
    rw [bad, e]
    simp; omega
  show Go.Proofs.YtmegmgcfnihhiaaDoor.runes (c :: t) = _
  rw [runes_good (by simp) hb, e]
  rfl
theorem cl_two (x y : UInt8) (h1 : x.toNat / 32 = 6) (h2 : y.toNat / 64 = 2) (h3 : 128 ≤ x.toNat % 32 * 64 + y.toNat % 64) : Cl [x, y] [x.toNat % 32 * 64 + y.toNat % 64] := fun t => by
  have e : Lib.decodeL (x :: y :: t) = (x.toNat % 32 * 64 + y.toNat % 64, 2) := by
    rw [Lib.decodeL_N]
    show Lib.decodeN (t.length + 2) x.toNat y.toNat _ _ = _
    unfold Lib.decodeN
    rw [if_neg (by omega), if_pos ⟨h1, by omega, h2⟩, if_pos h3]
  have hb : bad (x :: y :: t) = false := by
    rw [bad, e]
    simp
  show Go.Proofs.YtmegmgcfnihhiaaDoor.runes (x :: y :: t) = _
  rw [runes_good (by simp) hb, e]
  rfl
end Go.Proofs.YtmegmgcfnihhiaaDoor
