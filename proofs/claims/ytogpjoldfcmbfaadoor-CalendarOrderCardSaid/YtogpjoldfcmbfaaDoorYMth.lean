
/- The mathematics of the calendar, nothing of the program: lengths of months, the first day of a year, the date of a day's number (by going from one day to the next), and that a date has one number; days of other years; texts. -/
import Derived.Lib.ItoaNum
import Derived.Lib.Repeat
import Derived.Lib.ParseIntB
import GoSem.Op.String
namespace Go.Proofs.YtogpjoldfcmbfaaDoor.Cal
set_option linter.unusedVariables false

/-! ### Years, months, dates -/

def leapB (y : Int) : Bool := decide (1 ≤ y) && decide (y ≤ 9999) && decide (y % 4 = 0) && (!decide (y % 100 = 0) || decide (y % 400 = 0))

def lenD (y m : Int) : Int :=
  if m = 4 ∨ m = 6 ∨ m = 9 ∨ m = 11 then 30 else if m = 2 then (if leapB y = true then 29 else 28) else 31

def firstD (y : Int) : Int := 365 * (y - 1) + (y - 1) / 4 - (y - 1) / 100 + (y - 1) / 400

/-- The days of the months before month m + 1. -/
def cum (y : Int) : Nat → Int
  | 0 => 0
  | m + 1 => cum y m + lenD y (m + 1 : Nat)

theorem leap_iff (y : Int) : leapB y = true ↔ (1 ≤ y ∧ y ≤ 9999) ∧ y % 4 = 0 ∧ (¬ y % 100 = 0 ∨ y % 400 = 0) := by
  simp only [leapB, Bool.and_eq_true, Bool.or_eq_true, Bool.not_eq_true', decide_eq_true_eq, decide_eq_false_iff_not, and_assoc]

theorem len_range (y m : Int) : 28 ≤ lenD y m ∧ lenD y m ≤ 31 := by
  unfold lenD; split
  · omega
  split
  · split <;> omega
  · omega

theorem cum_mono (y : Int) (m k : Nat) (h : m ≤ k) : cum y m ≤ cum y k := by
  obtain ⟨j, rfl⟩ : ∃ j, k = m + j := ⟨k - m, by omega⟩
  clear h
  induction j with
  | zero => exact Int.le_refl _
  | succ j ih =>
    have h := len_range y ((m + j + 1 : Nat) : Int)
    have e : cum y (m + (j + 1)) = cum y (m + j) + lenD y ((m + j + 1 : Nat) : Int) := rfl
    rw [e]; omega

theorem cum_nonneg (y : Int) (m : Nat) : 0 ≤ cum y m := by
  have := cum_mono y 0 m (Nat.zero_le _); simpa [cum] using this

theorem len_big (y z m : Int) (h : m ≠ 2) : lenD y m = lenD z m := by
  unfold lenD; rw [if_neg h, if_neg h]

theorem cum_rest (y z : Int) : ∀ k : Nat, cum y (k + 2) - cum y 2 = cum z (k + 2) - cum z 2
  | 0 => by simp
  | k + 1 => by
    have ih := cum_rest y z k
    have e : ∀ y, cum y (k + 1 + 2) = cum y (k + 2) + lenD y ((k + 3 : Nat) : Int) := fun _ => rfl
    rw [e y, e z, len_big y z _ (by omega)]
    omega

theorem cum_two (y : Int) : cum y 2 = 31 + lenD y 2 := by
  show 0 + lenD y 1 + lenD y 2 = _
  rw [show lenD y 1 = 31 by unfold lenD; rw [if_neg (by omega), if_neg (by omega)]]
  omega

theorem cum_all (y : Int) : cum y 12 = 337 + lenD y 2 := by
  have h := cum_rest y 1 10
  have h2 := cum_two y
  have e : cum 1 (10 + 2) = 365 := by decide
  have e2 : cum 1 2 = 59 := by decide
  rw [e, e2] at h
  have e3 : cum y (10 + 2) = cum y 12 := rfl
  omega

theorem len_feb (y : Int) : lenD y 2 = 28 + (if leapB y = true then 1 else 0) := by
  unfold lenD; rw [if_neg (by omega), if_pos rfl]; split <;> rfl

/-- A year's days, up to the next year's first one. -/
theorem first_succ (y : Int) (h1 : 1 ≤ y) (h2 : y ≤ 9999) : firstD (y + 1) = firstD y + cum y 12 := by
  rw [cum_all, len_feb]
  unfold firstD
  split
  · next hl => have := (leap_iff y).1 hl; omega
  · next hl =>
    have : ¬ (y % 4 = 0 ∧ (¬ y % 100 = 0 ∨ y % 400 = 0)) := fun hc => hl ((leap_iff y).2 ⟨⟨h1, h2⟩, hc⟩)
    omega

theorem first_mono {a b : Int} (h : a ≤ b) : firstD a ≤ firstD b := by unfold firstD; omega
theorem first_step {a b : Int} (h : a < b) : firstD a + 365 ≤ firstD b := by unfold firstD; omega
theorem first_one : firstD 1 = 0 := by decide
theorem first_end : firstD 10000 = 3652059 := by decide

/-- Year y, month m, day d of the month is the day n. -/
structure IsDate (n y m d : Int) : Prop where
  y1 : 1 ≤ y
  y2 : y ≤ 9999
  m1 : 1 ≤ m
  m2 : m ≤ 12
  d1 : 1 ≤ d
  d2 : d ≤ lenD y m
  eq : n = firstD y + cum y (m - 1).toNat + d - 1

theorem cum_pred (y m : Int) (h : 1 ≤ m) : cum y m.toNat = cum y (m - 1).toNat + lenD y m := by
  obtain ⟨k, rfl⟩ : ∃ k : Nat, m = (k : Int) + 1 := ⟨(m - 1).toNat, by omega⟩
  have : ((k : Int) + 1).toNat = k + 1 := by omega
  rw [this, show ((k : Int) + 1 - 1).toNat = k by omega]
  rfl

theorem IsDate.year_lt {n y m d : Int} (h : IsDate n y m d) : firstD y ≤ n ∧ n < firstD (y + 1) := by
  have h1 := first_succ y h.y1 h.y2
  have h2 := cum_pred y m h.m1
  have h3 := cum_mono y m.toNat 12 (by have := h.m2; omega)
  have h4 := cum_nonneg y (m - 1).toNat
  have := h.eq; have := h.d1; have := h.d2
  omega

theorem IsDate.range {n y m d : Int} (h : IsDate n y m d) : 0 ≤ n ∧ n ≤ 3652058 := by
  have := h.year_lt
  have h1 := first_mono h.y1
  have h2 := first_mono (show y + 1 ≤ 10000 by have := h.y2; omega)
  rw [first_one] at h1; rw [first_end] at h2; omega

/-- A day has one date. -/
theorem IsDate.unique {n y m d y' m' d' : Int} (h : IsDate n y m d) (g : IsDate n y' m' d') : y = y' ∧ m = m' ∧ d = d' := by
  have ha := h.year_lt; have ga := g.year_lt
  have ey : y = y' := by
    rcases Int.lt_trichotomy y y' with hl | he | hl
    · have := first_mono (show y + 1 ≤ y' by omega); omega
    · exact he
    · have := first_mono (show y' + 1 ≤ y by omega); omega
  subst ey
  have hm := cum_pred y m h.m1; have gm := cum_pred y m' g.m1
  have := h.eq; have := g.eq; have := h.d1; have := h.d2; have := g.d1; have := g.d2
  have em : m = m' := by
    rcases Int.lt_trichotomy m m' with hl | he | hl
    · have := cum_mono y m.toNat (m' - 1).toNat (by omega); omega
    · exact he
    · have := cum_mono y m'.toNat (m - 1).toNat (by omega); omega
  subst em
  exact ⟨rfl, rfl, by omega⟩

/-- Dates come in the order of their days. -/
theorem IsDate.order {n y m d n' y' m' d' : Int} (h : IsDate n y m d) (g : IsDate n' y' m' d') : n < n' ↔ (y < y' ∨ (y = y' ∧ (m < m' ∨ (m = m' ∧ d < d')))) := by
  have ha := h.year_lt; have ga := g.year_lt
  rcases Int.lt_trichotomy y y' with hl | he | hl
  · have := first_mono (show y + 1 ≤ y' by omega); constructor <;> intro _ <;> omega
  · subst he
    have hm := cum_pred y m h.m1; have gm := cum_pred y m' g.m1
    have := h.eq; have := g.eq; have := h.d1; have := h.d2; have := g.d1; have := g.d2
    rcases Int.lt_trichotomy m m' with hl | he | hl
    · have := cum_mono y m.toNat (m' - 1).toNat (by omega); constructor <;> intro _ <;> omega
    · subst he; constructor <;> intro _ <;> omega
    · have := cum_mono y m'.toNat (m - 1).toNat (by omega); constructor <;> intro _ <;> omega
  · have := first_mono (show y' + 1 ≤ y by omega); constructor <;> intro _ <;> omega

/-- The date behind a date. -/
def nextD : Int × Int × Int → Int × Int × Int
  | (y, m, d) => if d < lenD y m then (y, m, d + 1) else if m < 12 then (y, m + 1, 1) else (y + 1, 1, 1)

theorem next_eq (y m d : Int) : nextD (y, m, d) = if d < lenD y m then (y, m, d + 1) else if m < 12 then (y, m + 1, 1) else (y + 1, 1, 1) := rfl

def dateN : Nat → Int × Int × Int
  | 0 => (1, 1, 1)
  | n + 1 => nextD (dateN n)

theorem next_ok {n y m d : Int} (h : IsDate n y m d) (hn : n < 3652058) : IsDate (n + 1) (nextD (y, m, d)).1 (nextD (y, m, d)).2.1 (nextD (y, m, d)).2.2 := by
  have := h.y1; have := h.y2; have := h.m1; have := h.m2; have := h.d1; have := h.d2; have he := h.eq
  have hc := cum_pred y m h.m1
  by_cases h1 : d < lenD y m
  · have e : nextD (y, m, d) = (y, m, d + 1) := by rw [next_eq, if_pos h1]
    rw [e]
    exact ⟨by omega, by omega, by omega, by omega, by show 1 ≤ d + 1; omega, by show d + 1 ≤ lenD y m; omega, by show n + 1 = firstD y + cum y (m - 1).toNat + (d + 1) - 1; omega⟩
  · by_cases h2 : m < 12
    · have e : nextD (y, m, d) = (y, m + 1, 1) := by rw [next_eq, if_neg h1, if_pos h2]
      rw [e]
      have hl := len_range y (m + 1)
      exact ⟨by omega, by omega, by show 1 ≤ m + 1; omega, by show m + 1 ≤ 12; omega, by show (1 : Int) ≤ 1; omega, by show 1 ≤ lenD y (m + 1); omega, by
        show n + 1 = firstD y + cum y (m + 1 - 1).toNat + 1 - 1
        rw [show m + 1 - 1 = m by omega]; omega⟩
    · have e : nextD (y, m, d) = (y + 1, 1, 1) := by rw [next_eq, if_neg h1, if_neg h2]
      rw [e]
      obtain rfl : m = 12 := by omega
      have hf := first_succ y h.y1 h.y2
      have hc12 : cum y (12 : Int).toNat = cum y 12 := rfl
      rw [hc12] at hc
      have hy : y < 9999 := by
        by_cases hy : y < 9999
        · exact hy
        · obtain rfl : y = 9999 := by have := h.y2; omega
          rw [show (9999 : Int) + 1 = 10000 by rfl, first_end] at hf; omega
      have hl := len_range (y + 1) 1
      exact ⟨by show 1 ≤ y + 1; omega, by show y + 1 ≤ 9999; omega, by show (1 : Int) ≤ 1; omega, by show (1 : Int) ≤ 12; omega, by show (1 : Int) ≤ 1; omega, by show 1 ≤ lenD (y + 1) 1; omega, by
        show n + 1 = firstD (y + 1) + cum (y + 1) (1 - 1 : Int).toNat + 1 - 1
        rw [show cum (y + 1) (1 - 1 : Int).toNat = 0 from rfl]; omega⟩

theorem date_ok : ∀ n : Nat, n ≤ 3652058 → IsDate n (dateN n).1 (dateN n).2.1 (dateN n).2.2
  | 0, _ => by
    show IsDate 0 1 1 1
    exact ⟨by omega, by omega, by omega, by omega, by omega, by decide, by decide⟩
  | n + 1, h => by
    have := next_ok (date_ok n (by omega)) (by omega)
    exact this

/-- A day's number is one of the calendar. -/
def dayB (n : Int) : Bool := decide (0 ≤ n) && decide (n ≤ 3652058)
theorem dayB_iff (n : Int) : dayB n = true ↔ 0 ≤ n ∧ n ≤ 3652058 := by simp [dayB]

def dY (n : Int) : Int := if dayB n = true then (dateN n.toNat).1 else 0
def dM (n : Int) : Int := if dayB n = true then (dateN n.toNat).2.1 else 0
def dD (n : Int) : Int := if dayB n = true then (dateN n.toNat).2.2 else 0
/-- The error numbers of the answers: ErrRange and ErrDate are parameters of the program. -/
def dE (er : Int) (n : Int) : Int := if dayB n = true then 0 else er

theorem isDate_d {n : Int} (h : dayB n = true) : IsDate n (dY n) (dM n) (dD n) := by
  have hr := (dayB_iff n).1 h
  have := date_ok n.toNat (by omega)
  rw [show ((n.toNat : Nat) : Int) = n by omega] at this
  unfold dY dM dD
  rw [if_pos h, if_pos h, if_pos h]
  exact this

theorem d_of_isDate {n y m d : Int} (h : IsDate n y m d) : dY n = y ∧ dM n = m ∧ dD n = d := by
  have hb : dayB n = true := (dayB_iff n).2 h.range
  exact (isDate_d hb).unique h

/-- A date is one of the calendar. -/
def okD (y m d : Int) : Bool := decide (1 ≤ y) && decide (y ≤ 9999) && decide (1 ≤ m) && decide (m ≤ 12) && decide (1 ≤ d) && decide (d ≤ lenD y m)
theorem okD_iff (y m d : Int) : okD y m d = true ↔ 1 ≤ y ∧ y ≤ 9999 ∧ 1 ≤ m ∧ m ≤ 12 ∧ 1 ≤ d ∧ d ≤ lenD y m := by simp [okD, and_assoc]
def dayV (y m d : Int) : Int := if okD y m d = true then firstD y + cum y (m - 1).toNat + d - 1 else 0
def dayE (ed y m d : Int) : Int := if okD y m d = true then 0 else ed

theorem isDate_v {y m d : Int} (h : okD y m d = true) : IsDate (dayV y m d) y m d := by
  obtain ⟨h1, h2, h3, h4, h5, h6⟩ := (okD_iff y m d).1 h
  exact ⟨h1, h2, h3, h4, h5, h6, by unfold dayV; rw [if_pos h]⟩
theorem IsDate.ok {n y m d : Int} (h : IsDate n y m d) : okD y m d = true := (okD_iff y m d).2 ⟨h.y1, h.y2, h.m1, h.m2, h.d1, h.d2⟩
theorem IsDate.v {n y m d : Int} (h : IsDate n y m d) : dayV y m d = n := by unfold dayV; rw [if_pos h.ok]; exact h.eq.symm

/-! ### Other years -/

/-- The same day of year y + k. -/
def annV (y m d : Int) : Int := firstD y + cum y (m - 1).toNat + min d (lenD y m) - 1

theorem feb_two (y : Int) (h1 : 1 ≤ y) : (lenD y 2 = 28 ∨ lenD y 2 = 29) ∧ ¬ (lenD y 2 = 29 ∧ lenD (y + 1) 2 = 29) := by
  rw [len_feb, len_feb]
  refine ⟨by split <;> omega, ?_⟩
  rintro ⟨p, q⟩
  split at p
  · next hl =>
    split at q
    · next hl' => have := (leap_iff _).1 hl; have := (leap_iff _).1 hl'; omega
    · omega
  · omega

theorem ann_step (y m d : Int) (h1 : 1 ≤ y) (h2 : y + 1 ≤ 9999) (m1 : 1 ≤ m) (m2 : m ≤ 12) (d1 : 1 ≤ d) (d2 : d ≤ 31) :
    annV y m d + 365 ≤ annV (y + 1) m d ∧ annV (y + 1) m d ≤ annV y m d + 366 := by
  have hf := first_succ y h1 (by omega)
  rw [cum_all] at hf
  have ⟨ha, hno⟩ := feb_two y h1
  have ⟨hb, _⟩ := feb_two (y + 1) (by omega)
  unfold annV
  rw [hf]
  by_cases hm : m = 1 ∨ m = 2
  · rcases hm with rfl | rfl
    · rw [len_big y (y + 1) 1 (by omega), show cum y ((1 : Int) - 1).toNat = 0 from rfl, show cum (y + 1) ((1 : Int) - 1).toNat = 0 from rfl]
      omega
    · have e : ∀ z, cum z ((2 : Int) - 1).toNat = 31 := by
        intro z
        show 0 + lenD z 1 = 31
        rw [show lenD z 1 = 31 by unfold lenD; rw [if_neg (by omega), if_neg (by omega)]]
        rfl
      rw [e, e]
      omega
  · have h := cum_rest y (y + 1) (m - 3).toNat
    rw [show (m - 3).toNat + 2 = (m - 1).toNat by omega, cum_two, cum_two] at h
    rw [len_big y (y + 1) m (by omega)]
    generalize min d (lenD (y + 1) m) = k
    omega

theorem ann_many (y m d : Int) (h1 : 1 ≤ y) (m1 : 1 ≤ m) (m2 : m ≤ 12) (d1 : 1 ≤ d) (d2 : d ≤ 31) :
    ∀ k : Nat, y + k ≤ 9999 → annV y m d + 365 * k ≤ annV (y + k) m d ∧ annV (y + k) m d ≤ annV y m d + 366 * k
  | 0, _ => by simp
  | k + 1, h => by
    have ih := ann_many y m d h1 m1 m2 d1 d2 k (by omega)
    have hs := ann_step (y + k) m d (by omega) (by omega) m1 m2 d1 d2
    rw [show y + ((k + 1 : Nat) : Int) = y + k + 1 by omega]
    omega

end Go.Proofs.YtogpjoldfcmbfaaDoor.Cal
