
/- Bytes as elements: mathematics alone. -/
import Derived.Laws.BitsAllLaws
/-! Bytes as elements: mathematics alone. -/
namespace Go.Proofs.YtadhmmklhhaagaaDoor
set_option linter.unusedVariables false

/-- How many bytes an element holds. -/
def wdt (p : Int) : Nat := if p < 256 then 0 else if p < 65536 then 1 else if p < 16777216 then 2 else 3
theorem wdt_le (p : Int) : wdt p ≤ 3 := by unfold wdt; split <;> (try split) <;> (try split) <;> omega
theorem wdt_pow {p : Int} (hp : 2 ≤ p) : ((256 ^ wdt p : Nat) : Int) ≤ p := by
  unfold wdt
  split
  · simp; omega
  · split
    · simp; omega
    · split
      · have : (256 ^ 2 : Nat) = 65536 := by decide
        rw [this]; omega
      · have : (256 ^ 3 : Nat) = 16777216 := by decide
        rw [this]; omega
/-- How many elements so many bytes are. -/
def cnt (p : Int) (n : Nat) : Nat := if wdt p = 0 then 8 * n else (n + wdt p - 1) / wdt p
theorem cnt_le (p : Int) (n : Nat) : cnt p n ≤ 8 * n := by
  unfold cnt
  split
  · exact Nat.le_refl _
  · rename_i h
    rcases Nat.eq_zero_or_pos n with rfl | hn
    · rw [Nat.div_eq_of_lt (by omega)]; omega
    · have h1 : (n + wdt p - 1) / wdt p ≤ (n * wdt p) / wdt p := Nat.div_le_div_right (by
        have : n * 1 + 1 * wdt p ≤ n * wdt p + 1 := by
          have h2 : 0 ≤ ((n : Int) - 1) * ((wdt p : Int) - 1) := Int.mul_nonneg (by omega) (by omega)
          rw [Int.sub_mul, Int.mul_sub, Int.mul_one, Int.one_mul] at h2
          have h3 : ((n * wdt p : Nat) : Int) = (n : Int) * (wdt p : Int) := by push_cast; rfl
          omega
        omega)
      rw [Nat.mul_div_cancel _ (by omega)] at h1
      omega
/-- A number of bytes, the first one highest. -/
def big : List UInt8 → Nat
  | [] => 0
  | b :: r => b.toNat * 256 ^ r.length + big r
theorem big_lt : ∀ l : List UInt8, big l < 256 ^ l.length
  | [] => by simp [big]
  | b :: r => by
    have h1 := big_lt r
    have h2 := b.toNat_lt
    rw [big, List.length_cons, Nat.pow_succ]
    have : b.toNat * 256 ^ r.length ≤ 255 * 256 ^ r.length := Nat.mul_le_mul_right _ (by omega)
    omega
theorem big_snoc (b : UInt8) : ∀ l : List UInt8, big (l ++ [b]) = big l * 256 + b.toNat
  | [] => by simp [big]
  | x :: r => by
    have h := big_snoc b r
    rw [List.cons_append, big, h, big, List.length_append, List.length_singleton, Nat.pow_succ, Nat.add_mul, Nat.mul_assoc, Nat.add_assoc]
theorem big_inj : ∀ (l l' : List UInt8), l.length = l'.length → big l = big l' → l = l'
  | [], [], _, _ => rfl
  | [], _ :: _, h, _ => by simp at h
  | _ :: _, [], h, _ => by simp at h
  | b :: r, b' :: r', h, he => by
    rw [List.length_cons, List.length_cons] at h
    have hl : r.length = r'.length := by omega
    rw [big, big, ← hl] at he
    have h1 := big_lt r
    have h2 := big_lt r'
    rw [← hl] at h2
    generalize 256 ^ r.length = m at *
    have hm : 0 < m := by omega
    have e1 : (b.toNat * m + big r) / m = b.toNat := by
      rw [Nat.mul_comm, Nat.mul_add_div hm, Nat.div_eq_of_lt h1, Nat.add_zero]
    have e2 : (b'.toNat * m + big r') / m = b'.toNat := by
      rw [Nat.mul_comm, Nat.mul_add_div hm, Nat.div_eq_of_lt h2, Nat.add_zero]
    have hb : b.toNat = b'.toNat := by rw [← e1, he, e2]
    rw [hb] at he
    rw [UInt8.toNat_inj.1 hb, big_inj r r' hl (by omega)]
/-- The bytes in groups of w. -/
def chunks (w : Nat) (l : List UInt8) : List Nat := if h : l = [] ∨ w = 0 then [] else big (l.take w) :: chunks w (l.drop w)
termination_by l.length
decreasing_by
  have h1 : 0 < l.length := List.length_pos_iff.2 fun e => h (.inl e)
  have h2 : w ≠ 0 := fun e => h (.inr e)
  rw [List.length_drop]; omega
theorem chunks_nil (w : Nat) : chunks w [] = [] := by rw [chunks, dif_pos (.inl rfl)]
theorem chunks_cons {w : Nat} {l : List UInt8} (hw : 1 ≤ w) (hl : l ≠ []) : chunks w l = big (l.take w) :: chunks w (l.drop w) := by
  rw [chunks, dif_neg (by rintro (h | h); · exact hl h
                          · omega)]
theorem chunks_len {w : Nat} (hw : 1 ≤ w) : ∀ (n : Nat) (l : List UInt8), l.length ≤ n → (chunks w l).length = (l.length + w - 1) / w
  | n, [], _ => by
    rw [chunks_nil]
    show 0 = (0 + w - 1) / w
    rw [Nat.zero_add, Nat.div_eq_of_lt (by omega)]
  | 0, b :: r, h => by simp at h
  | n + 1, b :: r, h => by
    rw [chunks_cons hw (by simp), List.length_cons, chunks_len hw n _ (by rw [List.length_drop]; simp at h ⊢; omega), List.length_drop]
    generalize hk : (b :: r).length = k
    have hk1 : 1 ≤ k := by rw [← hk]; simp
    by_cases hle : w ≤ k
    · rw [show k - w + w - 1 = k - 1 by omega, show k + w - 1 = k - 1 + w by omega, Nat.add_div_right _ (by omega)]
    · rw [show k - w + w - 1 = w - 1 by omega, Nat.div_eq_of_lt (by omega), show k + w - 1 = (k - 1) + w by omega, Nat.add_div_right _ (by omega), Nat.div_eq_of_lt (by omega)]
theorem chunks_get {w : Nat} (hw : 1 ≤ w) : ∀ (k : Nat) (l : List UInt8), k * w < l.length → (chunks w l)[k]? = some (big ((l.drop (k * w)).take w))
  | 0, l, h => by
    have hl : l ≠ [] := fun e => by subst e; simp at h
    rw [chunks_cons hw hl]
    simp
  | k + 1, l, h => by
    have hl : l ≠ [] := fun e => by subst e; simp at h
    rw [Nat.add_mul, Nat.one_mul] at h ⊢
    rw [chunks_cons hw hl, List.getElem?_cons_succ, chunks_get hw k (l.drop w) (by rw [List.length_drop]; omega), List.drop_drop, Nat.add_comm w]
theorem chunks_lt {w : Nat} (hw : 1 ≤ w) : ∀ (n : Nat) (l : List UInt8), l.length ≤ n → ∀ x ∈ chunks w l, x < 256 ^ w
  | n, [], _, x, hx => by rw [chunks_nil] at hx; cases hx
  | 0, b :: r, h, _, _ => by simp at h
  | n + 1, b :: r, h, x, hx => by
    rw [chunks_cons hw (by simp)] at hx
    rcases List.mem_cons.1 hx with rfl | hx
    · refine Nat.lt_of_lt_of_le (big_lt _) (Nat.pow_le_pow_right (by omega) ?_)
      rw [List.length_take]; omega
    · exact chunks_lt hw n _ (by rw [List.length_drop]; simp at h ⊢; omega) x hx
theorem chunks_inj {w : Nat} (hw : 1 ≤ w) : ∀ (n : Nat) (l l' : List UInt8), l.length ≤ n → l.length = l'.length → chunks w l = chunks w l' → l = l'
  | _, [], [], _, _, _ => rfl
  | _, [], _ :: _, _, h, _ => by simp at h
  | _, _ :: _, [], _, h, _ => by simp at h
  | 0, _ :: _, _ :: _, h, _, _ => by simp at h
  | n + 1, b :: r, b' :: r', h, hl, he => by
    rw [chunks_cons (l := b :: r) hw (by simp), chunks_cons (l := b' :: r') hw (by simp)] at he
    obtain ⟨h1, h2⟩ := List.cons.inj he
    have h3 := big_inj _ _ (by rw [List.length_take, List.length_take, hl]) h1
    have h4 := chunks_inj hw n _ _ (by rw [List.length_drop]; simp at h ⊢; omega) (by rw [List.length_drop, List.length_drop, hl]) h2
    rw [← List.take_append_drop w (b :: r), h3, h4, List.take_append_drop]
/-- A byte's bits, the highest one first. -/
def bits8 (b : UInt8) : List Int := [((b.toNat / 128 % 2 : Nat) : Int), ((b.toNat / 64 % 2 : Nat) : Int), ((b.toNat / 32 % 2 : Nat) : Int), ((b.toNat / 16 % 2 : Nat) : Int), ((b.toNat / 8 % 2 : Nat) : Int), ((b.toNat / 4 % 2 : Nat) : Int), ((b.toNat / 2 % 2 : Nat) : Int), ((b.toNat % 2 : Nat) : Int)]
theorem bits8_inj {a b : UInt8} (h : bits8 a = bits8 b) : a = b := by
  unfold bits8 at h
  simp only [List.cons.injEq, and_true] at h
  have ha := a.toNat_lt
  have hb := b.toNat_lt
  apply UInt8.toNat_inj.1
  omega
theorem bits8_in (b : UInt8) : ∀ x ∈ bits8 b, 0 ≤ x ∧ x < 2 := by
  intro x hx
  unfold bits8 at hx
  simp only [List.mem_cons, List.not_mem_nil, or_false] at hx
  rcases hx with rfl | rfl | rfl | rfl | rfl | rfl | rfl | rfl <;> omega
theorem bits_inj : ∀ (l l' : List UInt8), l.flatMap bits8 = l'.flatMap bits8 → l = l'
  | [], [], _ => rfl
  | [], b :: r, h => by simp [bits8] at h
  | b :: r, [], h => by simp [bits8] at h
  | b :: r, b' :: r', h => by
    rw [List.flatMap_cons, List.flatMap_cons] at h
    obtain ⟨h1, h2⟩ := List.append_inj h rfl
    rw [bits8_inj h1, bits_inj r r' h2]
theorem bits_len : ∀ l : List UInt8, (l.flatMap bits8).length = 8 * l.length
  | [] => rfl
  | b :: r => by
    rw [List.flatMap_cons, List.length_append, bits_len r, List.length_cons]
    simp [bits8]; omega
/-- The elements of a string. -/
def packL (p : Int) (l : List UInt8) : List Int := if wdt p = 0 then l.flatMap bits8 else (chunks (wdt p) l).map (fun n : Nat => (n : Int))
theorem packL_len (p : Int) (l : List UInt8) : (packL p l).length = cnt p l.length := by
  unfold packL cnt
  split
  · exact bits_len l
  · rw [List.length_map]; exact chunks_len (by omega) _ l (Nat.le_refl _)
theorem packL_in {p : Int} (hp : 2 ≤ p) (l : List UInt8) : ∀ x ∈ packL p l, 0 ≤ x ∧ x < p := by
  intro x hx
  unfold packL at hx
  split at hx
  · obtain ⟨b, _, hb⟩ := List.mem_flatMap.1 hx
    have := bits8_in b x hb
    omega
  · obtain ⟨n, hn, rfl⟩ := List.mem_map.1 hx
    have h1 := chunks_lt (by omega) _ l (Nat.le_refl _) n hn
    have h2 := wdt_pow hp
    omega
theorem packL_inj (p : Int) (l l' : List UInt8) (hl : l.length = l'.length) (h : packL p l = packL p l') : l = l' := by
  unfold packL at h
  split at h
  · exact bits_inj l l' h
  · refine chunks_inj (w := wdt p) (by omega) _ l l' (Nat.le_refl _) hl ?_
    refine List.map_inj_right (f := fun n : Nat => (n : Int)) (fun a b hab => by omega) |>.1 h
/-- The string of so many bytes that has given elements, or the error. -/
def UnpackS (p : Int) (l : List Int) (n : Nat) (r : List UInt8 × Int) : Prop := (∃ s : List UInt8, s.length = n ∧ packL p s = l ∧ r = (s, 0)) ∨ ((∀ s : List UInt8, s.length = n → packL p s ≠ l) ∧ r = ([], 4))
theorem UnpackS.same {p : Int} {l : List Int} {n : Nat} {r r' : List UInt8 × Int} (h : UnpackS p l n r) (h' : UnpackS p l n r') : r = r' := by
  rcases h with ⟨s, h1, h2, rfl⟩ | ⟨h1, rfl⟩ <;> rcases h' with ⟨s', h3, h4, rfl⟩ | ⟨h3, rfl⟩
  · rw [packL_inj p s s' (h1.trans h3.symm) (h2.trans h4.symm)]
  · exact absurd h2 (h3 s h1)
  · exact absurd h4 (h1 s' h3)
  · rfl
theorem unpack_back (p : Int) (s : List UInt8) : UnpackS p (packL p s) s.length (s, 0) := .inl ⟨s, rfl, rfl, rfl⟩
end Go.Proofs.YtadhmmklhhaagaaDoor
/-! Bytes as elements: mathematics of the program's own loops. -/
namespace Go.Proofs.YtadhmmklhhaagaaDoor
set_option linter.unusedVariables false

theorem chunks_app {w : Nat} (hw : 1 ≤ w) : ∀ (i : Nat) (a t : List UInt8), a.length = i * w → chunks w (a ++ t) = chunks w a ++ chunks w t
  | 0, a, t, h => by
    have ha : a = [] := List.eq_nil_of_length_eq_zero (by omega)
    subst ha
    rw [chunks_nil]; rfl
  | i + 1, a, t, h => by
    rw [Nat.add_mul, Nat.one_mul] at h
    have hl : w ≤ a.length := by omega
    have ha : a ≠ [] := fun e => by subst e; simp at hl; omega
    rw [chunks_cons hw (fun e => ha (List.append_eq_nil_iff.1 e).1), chunks_cons hw ha, List.take_append_of_le_length hl, List.drop_append_of_le_length hl, chunks_app hw i _ t (by rw [List.length_drop]; omega)]
    rfl
theorem chunks_one {w : Nat} {t : List UInt8} (h1 : 1 ≤ t.length) (h2 : t.length ≤ w) : chunks w t = [big t] := by
  have ht : t ≠ [] := fun e => by subst e; simp at h1
  rw [chunks_cons (by omega) ht, List.take_of_length_le h2, List.drop_of_length_le h2, chunks_nil]
/-- A number as k bytes, the first one highest. -/
def bytesN : Nat → Nat → List UInt8
  | 0, _ => []
  | k + 1, x => UInt8.ofNat (x / 256 ^ k) :: bytesN k x
theorem bytesN_len : ∀ k x, (bytesN k x).length = k
  | 0, _ => rfl
  | k + 1, x => by rw [bytesN, List.length_cons, bytesN_len]
theorem big_bytesN : ∀ k x, big (bytesN k x) = x % 256 ^ k
  | 0, x => by rw [Nat.pow_zero, Nat.mod_one]; rfl
  | k + 1, x => by
    rw [bytesN, big, bytesN_len, big_bytesN k x, Nat.mod_pow_succ, Nat.add_comm, Nat.mul_comm, UInt8.toNat_ofNat']
theorem big_take_succ (l : List UInt8) (i : Nat) (h : i < l.length) : big (l.take (i + 1)) = big (l.take i) * 256 + (l.getD i 0).toNat := by
  rw [List.take_add_one, List.getElem?_eq_getElem h]
  show big (l.take i ++ [l[i]]) = _
  rw [big_snoc]
  simp [List.getD, h]

/-- The number of bits, the first one highest. -/
def bnum (l : List Int) : Nat := l.foldl (fun a x => 2 * a + x.toNat) 0
theorem bnum_snoc (l : List Int) (x : Int) : bnum (l ++ [x]) = 2 * bnum l + x.toNat := by
  unfold bnum
  rw [List.foldl_append]; rfl
/-- The bits of byte j among the first i bits. -/
def part (l : List Int) (i j : Nat) : List Int := ((l.take i).drop (8 * j)).take 8
theorem part_succ {l : List Int} {i j : Nat} (hi : i < l.length) (hj : j = i / 8) : part l (i + 1) j = part l i j ++ [l.getD i 0] := by
  unfold part
  have ht : l.take (i + 1) = l.take i ++ [l[i]] := by rw [List.take_add_one, List.getElem?_eq_getElem hi]; rfl
  have hd : (l.take (i + 1)).drop (8 * j) = (l.take i).drop (8 * j) ++ [l[i]] := by
    rw [ht, List.drop_append_of_le_length (by rw [List.length_take]; omega)]
  have hl : ((l.take i).drop (8 * j)).length ≤ 7 := by rw [List.length_drop, List.length_take]; omega
  have e : l.getD i 0 = l[i] := by simp [List.getD, hi]
  rw [hd, e]
  generalize (l.take i).drop (8 * j) = m at *
  rw [List.take_of_length_le (l := m) (by omega), List.take_of_length_le (by rw [List.length_append, List.length_singleton]; omega)]
theorem part_other {l : List Int} {i j : Nat} (hi : i < l.length) (hj : j ≠ i / 8) : part l (i + 1) j = part l i j := by
  unfold part
  rcases Nat.lt_or_ge i (8 * j) with h | h
  · rw [List.drop_of_length_le (by rw [List.length_take]; omega), List.drop_of_length_le (by rw [List.length_take]; omega)]
  · rw [List.drop_take, List.drop_take, List.take_take, List.take_take, Nat.min_eq_left (by omega), Nat.min_eq_left (by omega)]
theorem part_len (l : List Int) (i j : Nat) : (part l i j).length ≤ i - 8 * j := by
  unfold part
  simp only [List.length_take, List.length_drop]; omega
theorem bnum_lt : ∀ (n : Nat) (l : List Int), l.length = n → (∀ x ∈ l, 0 ≤ x ∧ x < 2) → bnum l < 2 ^ n
  | 0, l, h, _ => by
    have hl : l = [] := List.eq_nil_of_length_eq_zero h
    subst hl; decide
  | n + 1, l, h, hx => by
    have hne : l ≠ [] := fun e => by subst e; simp at h
    rw [← List.dropLast_concat_getLast hne, bnum_snoc, Nat.pow_succ]
    have h1 := bnum_lt n l.dropLast (by rw [List.length_dropLast]; omega) (fun x hm => hx x (List.dropLast_subset l hm))
    have h2 := hx _ (List.getLast_mem hne)
    omega
theorem part_in {l : List Int} {i : Nat} (j : Nat) (h : ∀ x ∈ l.take i, 0 ≤ x ∧ x < 2) : ∀ x ∈ part l i j, 0 ≤ x ∧ x < 2 :=
  fun x hx => h x (List.mem_of_mem_drop (List.mem_of_mem_take hx))
theorem bits8_bnum (l : List Int) (h : l.length = 8) (hx : ∀ x ∈ l, 0 ≤ x ∧ x < 2) : bits8 (UInt8.ofNat (bnum l)) = l := by
  match l, h with
  | [a, b, c, d, e, f, g, k], _ =>
    simp only [List.mem_cons, List.not_mem_nil, or_false, forall_eq_or_imp, forall_eq] at hx
    obtain ⟨ha, hb, hc, hd, he, hf, hg, hk⟩ := hx
    obtain ⟨A, rfl⟩ := Int.eq_ofNat_of_zero_le ha.1
    obtain ⟨B, rfl⟩ := Int.eq_ofNat_of_zero_le hb.1
    obtain ⟨C, rfl⟩ := Int.eq_ofNat_of_zero_le hc.1
    obtain ⟨D, rfl⟩ := Int.eq_ofNat_of_zero_le hd.1
    obtain ⟨E, rfl⟩ := Int.eq_ofNat_of_zero_le he.1
    obtain ⟨G, rfl⟩ := Int.eq_ofNat_of_zero_le hf.1
    obtain ⟨H, rfl⟩ := Int.eq_ofNat_of_zero_le hg.1
    obtain ⟨K, rfl⟩ := Int.eq_ofNat_of_zero_le hk.1
    simp only [bnum, List.foldl_cons, List.foldl_nil, Int.toNat_natCast, bits8, UInt8.toNat_ofNat', List.cons.injEq, and_true]
    omega
theorem flat_bits : ∀ (bs : List UInt8) (l : List Int), l.length = 8 * bs.length → (∀ j, j < bs.length → bits8 (bs.getD j 0) = (l.drop (8 * j)).take 8) → bs.flatMap bits8 = l
  | [], l, h, _ => by
    have hl : l = [] := List.eq_nil_of_length_eq_zero (by simpa using h)
    subst hl; rfl
  | b :: r, l, h, hb => by
    rw [List.length_cons] at h
    have h0 := hb 0 (by simp)
    rw [Nat.mul_zero, List.drop_zero] at h0
    have h1 := flat_bits r (l.drop 8) (by rw [List.length_drop]; omega) (fun j hj => by
      have h2 := hb (j + 1) (by simp; omega)
      rw [List.drop_drop, show 8 + 8 * j = 8 * (j + 1) by omega, ← h2]
      simp [List.getD])
    rw [List.flatMap_cons, h1]
    have h2 : bits8 b = l.take 8 := h0
    exact (congrArg (· ++ l.drop 8) h2).trans (List.take_append_drop 8 l)
/-- The bytes that the first i bits have made. -/
def Made (l : List Int) (n i : Nat) (bs : List UInt8) : Prop := bs.length = n ∧ (∀ j, j < n → (bs.getD j 0).toNat = bnum (part l i j)) ∧ ∀ x ∈ l.take i, 0 ≤ x ∧ x < 2
theorem made_start (l : List Int) (n : Nat) : Made l n 0 (List.replicate n 0) := by
  refine ⟨by simp, fun j hj => ?_, fun x hx => by simp at hx⟩
  simp [List.getD, hj, part, bnum]
theorem made_step {l : List Int} {n i : Nat} {bs : List UInt8} (h : Made l n i bs) (hl : l.length = 8 * n) (hi : i < l.length) (h0 : 0 ≤ l.getD i 0) (h1 : l.getD i 0 < 2) :
    i / 8 < n ∧ 2 * (bs.getD (i / 8) 0).toNat + (l.getD i 0).toNat < 256 ∧ Made l n (i + 1) (bs.set (i / 8) (UInt8.ofNat (2 * (bs.getD (i / 8) 0).toNat + (l.getD i 0).toNat))) := by
  obtain ⟨hn, hb, hx⟩ := h
  have hin : i / 8 < n := by omega
  have hpi : ∀ x ∈ l.take (i + 1), 0 ≤ x ∧ x < 2 := by
    intro x hxm
    rw [List.take_add_one, List.getElem?_eq_getElem hi] at hxm
    rcases List.mem_append.1 hxm with h | h
    · exact hx x h
    · simp at h
      subst h
      simp only [List.getD, List.getElem?_eq_getElem hi, Option.getD_some] at h0 h1
      exact ⟨h0, h1⟩
  have hlt : 2 * (bs.getD (i / 8) 0).toNat + (l.getD i 0).toNat < 256 := by
    have h2 := bnum_lt _ _ rfl (part_in (i / 8) hpi)
    rw [part_succ hi rfl, bnum_snoc, ← hb _ hin] at h2
    have h3 : (part l i (i / 8) ++ [l.getD i 0]).length ≤ 8 := by
      have := part_len l i (i / 8)
      simp only [List.length_append, List.length_singleton]; omega
    have h4 : 2 ^ (part l i (i / 8) ++ [l.getD i 0]).length ≤ 2 ^ 8 := Nat.pow_le_pow_right (by omega) h3
    omega
  refine ⟨hin, hlt, by simp [hn], fun j hj => ?_, hpi⟩
  by_cases e : j = i / 8
  · subst e
    rw [part_succ hi rfl, bnum_snoc, ← hb _ hin]
    simp only [List.getD, List.getElem?_set, hn, hin, if_true, Option.getD_some]
    rw [UInt8.toNat_ofNat', Nat.mod_eq_of_lt]
    exact hlt
  · rw [part_other hi e, ← hb j hj]
    have e2 : ¬ i / 8 = j := fun h => e h.symm
    simp [List.getD, e2]
theorem made_end {p : Int} {l : List Int} {n : Nat} {bs : List UInt8} (hp : wdt p = 0) (h : Made l n l.length bs) (hl : l.length = 8 * n) : UnpackS p l n (bs, 0) := by
  obtain ⟨hn, hb, hx⟩ := h
  refine .inl ⟨bs, hn, ?_, rfl⟩
  unfold packL
  rw [if_pos hp]
  refine flat_bits bs l (by omega) fun j hj => ?_
  have e : part l l.length j = (l.drop (8 * j)).take 8 := by unfold part; rw [List.take_length]
  have h1 := hb j (by omega)
  rw [← e, ← bits8_bnum (part l l.length j) (by rw [e, List.length_take, List.length_drop]; omega) (part_in j hx), ← h1]
  simp
theorem made_not {p : Int} {l : List Int} {n i : Nat} (hp : wdt p = 0) (hi : i < l.length) (h : l.getD i 0 < 0 ∨ 1 < l.getD i 0) : UnpackS p l n ([], 4) := by
  refine .inr ⟨fun s _ he => ?_, rfl⟩
  unfold packL at he
  rw [if_pos hp] at he
  have hm : l.getD i 0 ∈ l := by
    rw [List.getD_eq_getElem?_getD, List.getElem?_eq_getElem hi]
    exact List.getElem_mem hi
  rw [← he] at hm
  obtain ⟨b, _, hb⟩ := List.mem_flatMap.1 hm
  have := bits8_in b _ hb
  rw [he] at this
  omega
/-- The bytes that the first i numbers have made. -/
def MadeG (l : List Int) (w n i : Nat) (bs : List UInt8) : Prop := bs.length = min (i * w) n ∧ (chunks w bs).map (fun n : Nat => (n : Int)) = l.take i
theorem madeG_start (l : List Int) (w n : Nat) : MadeG l w n 0 [] := ⟨by simp, by rw [chunks_nil]; simp⟩
theorem cnt_mul {p : Int} {n i : Nat} (hp : wdt p ≠ 0) (hi : i < cnt p n) : i * wdt p < n := by
  unfold cnt at hi
  rw [if_neg hp] at hi
  have h1 : i + 1 ≤ (n + wdt p - 1) / wdt p := hi
  rw [Nat.le_div_iff_mul_le (by omega), Nat.add_mul, Nat.one_mul] at h1
  omega
theorem madeG_step {p : Int} {l : List Int} {n i : Nat} {bs : List UInt8} (hp : wdt p ≠ 0) (h : MadeG l (wdt p) n i bs) (hi : i < cnt p n) (hl : l.length = cnt p n) {k : Nat} (hk : k = min (wdt p) (n - i * wdt p)) (h0 : 0 ≤ l.getD i 0) (h1 : l.getD i 0 < ((256 ^ k : Nat) : Int)) :
    MadeG l (wdt p) n (i + 1) (bs ++ bytesN k (l.getD i 0).toNat) := by
  obtain ⟨hn, hc⟩ := h
  have hm := cnt_mul hp hi
  have hw : 1 ≤ wdt p := by omega
  rw [Nat.min_eq_left (by omega)] at hn
  refine ⟨by rw [List.length_append, bytesN_len, hn, hk, Nat.add_mul, Nat.one_mul]; omega, ?_⟩
  rw [chunks_app hw i bs _ hn, List.map_append, hc, chunks_one (by rw [bytesN_len]; omega) (by rw [bytesN_len]; omega), big_bytesN, Nat.mod_eq_of_lt (by omega), List.take_add_one, List.getElem?_eq_getElem (by omega)]
  have e : l.getD i 0 = l[i]'(by omega) := by simp [List.getD, show i < l.length by omega]
  rw [e] at h0 ⊢
  simp only [List.map_cons, List.map_nil, Option.toList_some]
  rw [Int.toNat_of_nonneg h0]
theorem cnt_all {p : Int} {n : Nat} (hp : wdt p ≠ 0) : n ≤ cnt p n * wdt p := by
  unfold cnt
  rw [if_neg hp]
  have h1 := Nat.div_add_mod (n + wdt p - 1) (wdt p)
  have h2 := Nat.mod_lt (n + wdt p - 1) (show 0 < wdt p by omega)
  rw [Nat.mul_comm] at h1
  omega
theorem madeG_end {p : Int} {l : List Int} {n : Nat} {bs : List UInt8} (hp : wdt p ≠ 0) (hl : l.length = cnt p n) (h : MadeG l (wdt p) n (cnt p n) bs) : UnpackS p l n (bs, 0) := by
  obtain ⟨hn, hc⟩ := h
  have h1 := cnt_all (n := n) hp
  refine .inl ⟨bs, by omega, ?_, rfl⟩
  unfold packL
  rw [if_neg hp, hc, ← hl, List.take_length]
theorem madeG_not {p : Int} {l : List Int} {n i : Nat} (hp : wdt p ≠ 0) (hi : i < cnt p n) {k : Nat} (hk : k = min (wdt p) (n - i * wdt p)) (h : l.getD i 0 < 0 ∨ ((256 ^ k : Nat) : Int) ≤ l.getD i 0) : UnpackS p l n ([], 4) := by
  refine .inr ⟨fun s hs he => ?_, rfl⟩
  unfold packL at he
  rw [if_neg hp] at he
  have hm := cnt_mul hp hi
  have h1 := chunks_get (w := wdt p) (by omega) i s (by omega)
  have h2 : l.getD i 0 = (big ((s.drop (i * wdt p)).take (wdt p)) : Int) := by
    rw [← he]
    simp [List.getD, h1]
  have h3 := big_lt ((s.drop (i * wdt p)).take (wdt p))
  have h4 : ((s.drop (i * wdt p)).take (wdt p)).length = k := by rw [List.length_take, List.length_drop, hs, hk]
  rw [h4] at h3
  rw [h2] at h
  omega
theorem unpack_len {p : Int} {l : List Int} {n : Nat} (h : cnt p n ≠ l.length) : UnpackS p l n ([], 4) :=
  .inr ⟨fun s hs he => h (by rw [← he, packL_len, hs]), rfl⟩
end Go.Proofs.YtadhmmklhhaagaaDoor
