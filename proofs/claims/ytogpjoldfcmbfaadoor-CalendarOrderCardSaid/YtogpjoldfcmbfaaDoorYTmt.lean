
/- The mathematics of the calendar's texts: digits, numbers that are read, days as texts, and their order. -/
import Derived.Test.YtogpjoldfcmbfaaDoorYMth
import Derived.Lib.ItoaNum
import Derived.Lib.Repeat
import Derived.Lib.ParseIntB
import GoSem.Op.String
namespace Go.Proofs.YtogpjoldfcmbfaaDoor.Cal
set_option linter.unusedVariables false

/-- The last k digits of a number. -/
def digL : Nat → Nat → List UInt8
  | 0, _ => []
  | k + 1, n => digL k (n / 10) ++ [UInt8.ofNat (48 + n % 10)]

theorem dig_len : ∀ k n, (digL k n).length = k
  | 0, _ => rfl
  | k + 1, n => by simp [digL, dig_len k (n / 10)]

theorem dig_zero : ∀ k, digL k 0 = List.replicate k 48
  | 0 => rfl
  | k + 1 => by
    rw [List.replicate_succ', ← dig_zero k]; rfl

theorem dig_front : ∀ k n, digL (k + 1) n = UInt8.ofNat (48 + n / 10 ^ k % 10) :: digL k n
  | 0, n => by simp [digL]
  | k + 1, n => by
    have h : digL (k + 1 + 1) n = digL (k + 1) (n / 10) ++ [UInt8.ofNat (48 + n % 10)] := rfl
    rw [h, dig_front k (n / 10)]
    have e : n / 10 / 10 ^ k = n / 10 ^ (k + 1) := by rw [Nat.div_div_eq_div_mul, Nat.pow_succ, Nat.mul_comm]
    rw [e]; rfl

theorem rep_one : ∀ j, Lib.repeatL [48] j = List.replicate j 48
  | 0 => rfl
  | j + 1 => by rw [List.replicate_succ, ← rep_one j]; rfl

/-- A number with zeros before it. -/
theorem pad : ∀ k n, n < 10 ^ (k + 1) → (Lib.decDigits n).length ≤ k + 1 ∧ Lib.repeatL [48] (k + 1 - (Lib.decDigits n).length) ++ Lib.decDigits n = digL (k + 1) n
  | k, n, h => by
    by_cases hs : n < 10
    · rw [Lib.decDigits_one hs, rep_one]
      refine ⟨by simp, ?_⟩
      have h0 : n / 10 = 0 := by omega
      have hm : n % 10 = n := by omega
      show List.replicate (k + 1 - 1) 48 ++ _ = digL k (n / 10) ++ [UInt8.ofNat (48 + n % 10)]
      rw [h0, hm, dig_zero, Nat.add_sub_cancel]
    · match k with
      | 0 => omega
      | j + 1 =>
        have hd : n / 10 < 10 ^ (j + 1) := by
          rw [Nat.pow_succ] at h
          omega
        obtain ⟨h1, h2⟩ := pad j (n / 10) hd
        have e : Lib.decDigits n = Lib.decDigits (n / 10) ++ [UInt8.ofNat (48 + n % 10)] := by rw [Lib.decDigits, dif_neg hs]
        rw [e]
        refine ⟨by simp; omega, ?_⟩
        show _ = digL (j + 1) (n / 10) ++ _
        rw [← h2, ← List.append_assoc, List.length_append, List.length_singleton]
        rw [show j + 1 + 1 - ((Lib.decDigits (n / 10)).length + 1) = j + 1 - (Lib.decDigits (n / 10)).length by omega]
termination_by k n => k

/-! ### Numbers that are read -/

def numO (acc : Nat) : List UInt8 → Option Nat
  | [] => some acc
  | c :: r => if 48 ≤ c.toNat ∧ c.toNat ≤ 57 then numO (acc * 10 + (c.toNat - 48)) r else none
/-- The number that digits are; -1 if there are others. -/
def numL (l : List UInt8) : Int := match numO 0 l with | some v => v | none => -1

theorem parse_go : ∀ (l : List UInt8) (acc : Nat), (acc + 1) * 10 ^ l.length ≤ 100000000 → Lib.parseUintM (2 ^ 64 - 1) acc l = match numO acc l with | some v => .ok v | none => .syntax
  | [], acc, _ => rfl
  | c :: r, acc, h => by
    rw [List.length_cons, Nat.pow_succ] at h
    have hp : 1 ≤ 10 ^ r.length := Nat.one_le_pow _ _ (by omega)
    have h1 : (acc + 1) * 10 * 10 ^ r.length ≤ 100000000 := by rw [Nat.mul_assoc, Nat.mul_comm 10]; exact h
    have h2 : (acc + 1) * 10 * 1 ≤ (acc + 1) * 10 * 10 ^ r.length := Nat.mul_le_mul_left _ hp
    unfold Lib.parseUintM numO
    by_cases hd : 48 ≤ c.toNat ∧ c.toNat ≤ 57
    · rw [if_pos hd, if_pos hd, if_neg (by omega), if_neg (by omega)]
      refine parse_go r _ (Nat.le_trans (Nat.mul_le_mul_right _ ?_) h1)
      omega
    · rw [if_neg hd, if_neg hd]
theorem parse_num {l : List UInt8} (h0 : l ≠ []) (h : l.length ≤ 4) : Lib.parseUintB 64 l = match numO 0 l with | some v => .ok v | none => .syntax := by
  unfold Lib.parseUintB
  rw [if_neg h0]
  refine parse_go l 0 ?_
  have : 10 ^ l.length ≤ 10 ^ 4 := Nat.pow_le_pow_right (by omega) h
  omega
theorem num_bound : ∀ (l : List UInt8) (acc v : Nat), numO acc l = some v → v < (acc + 1) * 10 ^ l.length
  | [], acc, v, h => by simp [numO] at h; simp; omega
  | c :: r, acc, v, h => by
    unfold numO at h
    split at h
    · have h1 := num_bound r _ v h
      rw [List.length_cons, Nat.pow_succ]
      have h2 : (acc * 10 + (c.toNat - 48) + 1) * 10 ^ r.length ≤ (acc + 1) * 10 * 10 ^ r.length := Nat.mul_le_mul_right _ (by omega)
      rw [show (acc + 1) * (10 ^ r.length * 10) = (acc + 1) * 10 * 10 ^ r.length by rw [Nat.mul_comm (10 ^ r.length), Nat.mul_assoc]]
      omega
    · cases h

theorem chr_toNat {d : Nat} (h : d < 10) : (UInt8.ofNat (48 + d)).toNat = 48 + d := by
  rw [UInt8.toNat_ofNat']; omega
theorem num_dig : ∀ (k n acc : Nat), numO acc (digL k n) = some (acc * 10 ^ k + n % 10 ^ k)
  | 0, n, acc => by simp [digL, numO, Nat.mod_one]
  | k + 1, n, acc => by
    rw [dig_front]
    have hd : n / 10 ^ k % 10 < 10 := Nat.mod_lt _ (by omega)
    unfold numO
    rw [chr_toNat hd, if_pos (by omega), num_dig k n, show 48 + n / 10 ^ k % 10 - 48 = n / 10 ^ k % 10 by omega]
    congr 1
    rw [Nat.mod_pow_succ, Nat.pow_succ, Nat.add_mul, Nat.mul_assoc, Nat.mul_comm 10 (10 ^ k), Nat.mul_comm (n / 10 ^ k % 10)]
    omega
theorem numL_dig {k n : Nat} (h : n < 10 ^ k) : numL (digL k n) = n := by
  unfold numL
  rw [num_dig, Nat.mod_eq_of_lt h]; simp

/-! ### Days as texts -/

def okT (l : List UInt8) : Bool := decide (l.length = 10) && (l.getD 4 0 == 45) && (l.getD 7 0 == 45)
def parV (l : List UInt8) : Int := if okT l = true then dayV (numL (l.take 4)) (numL ((l.drop 5).take 2)) (numL (l.drop 8)) else 0
def parE (l : List UInt8) : Int := if okT l = true then dayE 10 (numL (l.take 4)) (numL ((l.drop 5).take 2)) (numL (l.drop 8)) else 10

def dateL (y m d : Nat) : List UInt8 := digL 4 y ++ [45] ++ digL 2 m ++ [45] ++ digL 2 d
def textL (n : Int) : List UInt8 := if dayB n = true then dateL (dY n).toNat (dM n).toNat (dD n).toNat else []

theorem dig4 (n : Nat) : ∃ a b c d, digL 4 n = [a, b, c, d] := by
  have := dig_len 4 n
  match h : digL 4 n, this with
  | [a, b, c, d], _ => exact ⟨a, b, c, d, rfl⟩
theorem dig2 (n : Nat) : ∃ a b, digL 2 n = [a, b] := by
  have := dig_len 2 n
  match h : digL 2 n, this with
  | [a, b], _ => exact ⟨a, b, rfl⟩
theorem date_parts (y m d : Nat) : okT (dateL y m d) = true ∧ (dateL y m d).take 4 = digL 4 y ∧ ((dateL y m d).drop 5).take 2 = digL 2 m ∧ (dateL y m d).drop 8 = digL 2 d ∧ (dateL y m d).length = 10 ∧ (dateL y m d).drop 5 = digL 2 m ++ [45] ++ digL 2 d := by
  unfold dateL okT
  obtain ⟨a, b, c, e, h1⟩ := dig4 y
  obtain ⟨f, g, h2⟩ := dig2 m
  obtain ⟨i, j, h3⟩ := dig2 d
  rw [h1, h2, h3]
  simp
theorem text_back {n : Int} (h : dayB n = true) : parV (textL n) = n ∧ parE (textL n) = 0 ∧ (textL n).length = 10 := by
  have hd := isDate_d h
  have hl := len_range (dY n) (dM n)
  have h1 := hd.y1; have h2 := hd.y2; have h3 := hd.m1; have h4 := hd.m2; have h5 := hd.d1; have h6 := hd.d2
  have e : textL n = dateL (dY n).toNat (dM n).toNat (dD n).toNat := by unfold textL; rw [if_pos h]
  obtain ⟨p1, p2, p3, p4, p5, _⟩ := date_parts (dY n).toNat (dM n).toNat (dD n).toNat
  rw [e]
  refine ⟨?_, ?_, p5⟩
  · unfold parV
    rw [if_pos p1, p2, p3, p4, numL_dig (by omega), numL_dig (by omega), numL_dig (by omega)]
    rw [show (((dY n).toNat : Nat) : Int) = dY n by omega, show (((dM n).toNat : Nat) : Int) = dM n by omega, show (((dD n).toNat : Nat) : Int) = dD n by omega]
    exact hd.v
  · unfold parE
    rw [if_pos p1, p2, p3, p4, numL_dig (by omega), numL_dig (by omega), numL_dig (by omega)]
    rw [show (((dY n).toNat : Nat) : Int) = dY n by omega, show (((dM n).toNat : Nat) : Int) = dM n by omega, show (((dD n).toNat : Nat) : Int) = dD n by omega]
    unfold dayE; rw [if_pos hd.ok]

/-! ### The order of texts -/

theorem less_append : ∀ (a a' b b' : List UInt8), a.length = a'.length → Op.bytesLess (a ++ b) (a' ++ b') = (Op.bytesLess a a' || (decide (a = a') && Op.bytesLess b b'))
  | [], [], b, b', _ => by simp [Op.bytesLess]
  | c :: r, c' :: r', b, b', h => by
    have ih := less_append r r' b b' (by simpa using h)
    simp only [List.cons_append, Op.bytesLess, ih, List.cons.injEq]
    by_cases hc : c = c'
    · subst hc; simp
    · have : (c == c') = false := by simpa using hc
      simp [this, hc]

theorem chr_lt {d e : Nat} (hd : d < 10) (he : e < 10) : decide (UInt8.ofNat (48 + d) < UInt8.ofNat (48 + e)) = decide (d < e) := by
  have h1 := chr_toNat hd
  have h2 := chr_toNat he
  congr 1
  rw [UInt8.lt_iff_toNat_lt, h1, h2]
  simp
theorem chr_eq {d e : Nat} (hd : d < 10) (he : e < 10) : UInt8.ofNat (48 + d) = UInt8.ofNat (48 + e) ↔ d = e := by
  constructor
  · intro h
    have h1 := chr_toNat hd
    have h2 := chr_toNat he
    rw [h] at h1; omega
  · rintro rfl; rfl

theorem dig_eq : ∀ (k n n' : Nat), digL k n = digL k n' ↔ n % 10 ^ k = n' % 10 ^ k
  | 0, n, n' => by simp [digL, Nat.mod_one]
  | k + 1, n, n' => by
    have h1 : n / 10 ^ k % 10 < 10 := Nat.mod_lt _ (by omega)
    have h2 : n' / 10 ^ k % 10 < 10 := Nat.mod_lt _ (by omega)
    have hp : 0 < 10 ^ k := Nat.pow_pos (by omega)
    have m1 := Nat.mod_lt n hp
    have m2 := Nat.mod_lt n' hp
    rw [dig_front, dig_front, List.cons.injEq, dig_eq k n n', chr_eq h1 h2, Nat.mod_pow_succ, Nat.mod_pow_succ]
    generalize n % 10 ^ k = a at *
    generalize n' % 10 ^ k = b at *
    generalize n / 10 ^ k % 10 = c at *
    generalize n' / 10 ^ k % 10 = d at *
    generalize 10 ^ k = p at *
    constructor
    · rintro ⟨rfl, rfl⟩; rfl
    · intro h
      rcases Nat.lt_trichotomy c d with hl | rfl | hl
      · have : p * (c + 1) ≤ p * d := Nat.mul_le_mul_left _ hl
        rw [Nat.mul_add] at this; omega
      · exact ⟨rfl, by omega⟩
      · have : p * (d + 1) ≤ p * c := Nat.mul_le_mul_left _ hl
        rw [Nat.mul_add] at this; omega
theorem dig_less : ∀ (k n n' : Nat), Op.bytesLess (digL k n) (digL k n') = decide (n % 10 ^ k < n' % 10 ^ k)
  | 0, n, n' => by simp [digL, Op.bytesLess, Nat.mod_one]
  | k + 1, n, n' => by
    have h1 : n / 10 ^ k % 10 < 10 := Nat.mod_lt _ (by omega)
    have h2 : n' / 10 ^ k % 10 < 10 := Nat.mod_lt _ (by omega)
    have hp : 0 < 10 ^ k := Nat.pow_pos (by omega)
    have m1 := Nat.mod_lt n hp
    have m2 := Nat.mod_lt n' hp
    rw [dig_front, dig_front]
    simp only [Op.bytesLess]
    rw [dig_less k n n', Nat.mod_pow_succ, Nat.mod_pow_succ]
    have e1 := chr_lt h1 h2
    have e2 := chr_eq h1 h2
    generalize n % 10 ^ k = a at *
    generalize n' % 10 ^ k = b at *
    generalize n / 10 ^ k % 10 = c at *
    generalize n' / 10 ^ k % 10 = d at *
    generalize 10 ^ k = p at *
    rw [e1]
    rcases Nat.lt_trichotomy c d with hl | rfl | hl
    · have : p * (c + 1) ≤ p * d := Nat.mul_le_mul_left _ hl
      rw [Nat.mul_add] at this
      rw [decide_eq_true hl, Bool.true_or]
      exact (decide_eq_true (by omega)).symm
    · simp
    · have : p * (d + 1) ≤ p * c := Nat.mul_le_mul_left _ hl
      rw [Nat.mul_add] at this
      have hne : (UInt8.ofNat (48 + c) == UInt8.ofNat (48 + d)) = false := by
        rw [beq_eq_false_iff_ne]; intro h; have := e2.1 h; omega
      rw [hne, decide_eq_false (show ¬ c < d by omega), Bool.false_and, Bool.or_false]
      exact (decide_eq_false (by omega)).symm

/-- Later days have greater texts. -/
theorem text_less {x y : Int} (hx : dayB x = true) (hy : dayB y = true) : Op.bytesLess (textL x) (textL y) = decide (x < y) := by
  have hd := isDate_d hx
  have he := isDate_d hy
  have ho := hd.order he
  have hl := len_range (dY x) (dM x)
  have hl' := len_range (dY y) (dM y)
  have h1 := hd.y1; have h2 := hd.y2; have h3 := hd.m1; have h4 := hd.m2; have h5 := hd.d1; have h6 := hd.d2
  have g1 := he.y1; have g2 := he.y2; have g3 := he.m1; have g4 := he.m2; have g5 := he.d1; have g6 := he.d2
  have e : textL x = dateL (dY x).toNat (dM x).toNat (dD x).toNat := by unfold textL; rw [if_pos hx]
  have e' : textL y = dateL (dY y).toNat (dM y).toNat (dD y).toNat := by unfold textL; rw [if_pos hy]
  rw [e, e']
  unfold dateL
  have l1 := dig_len 4 (dY x).toNat; have l2 := dig_len 4 (dY y).toNat
  have l3 := dig_len 2 (dM x).toNat; have l4 := dig_len 2 (dM y).toNat
  rw [less_append _ _ _ _ (by simp [l1, l2, l3, l4]), less_append _ _ _ _ (by simp [l1, l2, l3, l4]), less_append _ _ _ _ (by simp [l1, l2]), less_append _ _ _ _ (by simp [l1, l2])]
  rw [dig_less, dig_less, dig_less]
  have a1 : (dY x).toNat % 10 ^ 4 = (dY x).toNat := Nat.mod_eq_of_lt (by omega)
  have a2 : (dY y).toNat % 10 ^ 4 = (dY y).toNat := Nat.mod_eq_of_lt (by omega)
  have a3 : (dM x).toNat % 10 ^ 2 = (dM x).toNat := Nat.mod_eq_of_lt (by omega)
  have a4 : (dM y).toNat % 10 ^ 2 = (dM y).toNat := Nat.mod_eq_of_lt (by omega)
  have a5 : (dD x).toNat % 10 ^ 2 = (dD x).toNat := Nat.mod_eq_of_lt (by omega)
  have a6 : (dD y).toNat % 10 ^ 2 = (dD y).toNat := Nat.mod_eq_of_lt (by omega)
  rw [a1, a2, a3, a4, a5, a6]
  have q1 : (digL 4 (dY x).toNat ++ [45] ++ digL 2 (dM x).toNat ++ [45] = digL 4 (dY y).toNat ++ [45] ++ digL 2 (dM y).toNat ++ [45]) ↔ (dY x).toNat = (dY y).toNat ∧ (dM x).toNat = (dM y).toNat := by
    rw [List.append_left_inj]
    constructor
    · intro h
      have h' := List.append_inj h (by simp [l1, l2])
      have h'' := List.append_inj h'.1 (by simp [l1, l2])
      exact ⟨by have := (dig_eq 4 _ _).1 h''.1; rw [a1, a2] at this; exact this, by have := (dig_eq 2 _ _).1 h'.2; rw [a3, a4] at this; exact this⟩
    · rintro ⟨h, h'⟩; rw [h, h']
  have q2 : (digL 4 (dY x).toNat ++ [45] = digL 4 (dY y).toNat ++ [45]) ↔ (dY x).toNat = (dY y).toNat := by
    rw [List.append_left_inj, dig_eq, a1, a2]
  have q3 : Op.bytesLess [45] [45] = false := by decide
  rw [q3, Bool.and_false, Bool.or_false]
  apply Bool.eq_iff_iff.2
  simp only [Bool.or_eq_true, Bool.and_eq_true, decide_eq_true_eq, Bool.or_false, Bool.and_false, q1, q2]
  rw [ho]
  omega

/-- The end of a text: month and day. -/
theorem text_end {n : Int} (h : dayB n = true) (hm : dM n = 2) (hd : dD n = 29) : (textL n).drop 5 = [48, 50, 45, 50, 57] := by
  unfold textL
  rw [if_pos h, (date_parts _ _ _).2.2.2.2.2, hm, hd]
  decide
end Go.Proofs.YtogpjoldfcmbfaaDoor.Cal
