
/- Padded strings: the document's Pad. -/
import Derived.Test.YtadhmmklhhaagaaDoorVTxt
import Derived.OwnWalk
import Derived.Deep.OwnRows
/-! Padded strings: the document's Pad. -/
namespace Go.Proofs.YtadhmmklhhaagaaDoor
open Go.RowKit
set_option linter.unusedVariables false

/-- How long a padded string is. -/
def padN (n u : Nat) : Nat := (n / u + 1) * u
theorem padN_gt {n u : Nat} (hu : 1 ≤ u) : n < padN n u := by
  have h1 := Nat.div_add_mod n u
  have h2 := Nat.mod_lt n (show 0 < u by omega)
  unfold padN
  rw [Nat.add_mul, Nat.one_mul, Nat.mul_comm (n / u) u]
  omega
theorem padN_le {n u : Nat} (hu : 1 ≤ u) : padN n u ≤ n + u := by
  have h1 := Nat.div_mul_le_self n u
  unfold padN
  rw [Nat.add_mul, Nat.one_mul]
  omega
/-- A padded string, or the error. -/
def padR (l : List UInt8) (u : Int) : List UInt8 × Int :=
  if u < 1 ∨ 1024 < u then ([], 2) else if 16384 < padN l.length u.toNat then ([], 3) else (l ++ 128 :: List.replicate (padN l.length u.toNat - l.length - 1) 0, 0)
def two (r : List UInt8 × Int) : Ending := .returned (.tuple #[.string ⟨r.1.toArray⟩, .int .i64 r.2])
theorem string_zeros (w : World) (n : Nat) : (convert 28 9 (.slice (some ⟨w.heap.size, 0, none⟩) n n)).run Tryd.prog (w.alloc (.cells (madeCells #[.int .u8 0] n) 5)) = .ok (.string ⟨(List.replicate n (0 : UInt8)).toArray⟩) (w.alloc (.cells (madeCells #[.int .u8 0] n) 5)) := by
  have hrow := World.rowIs_made w (.int .u8 0) n 5
  have h := run_convert_bytes_back (P := Tryd.prog) (w.alloc (.cells (madeCells #[.int .u8 0] n) 5)) 28 9 5 ⟨w.heap.size, 0, none⟩ n (List.replicate n (0 : UInt8)) Tryd.underlying28 Tryd.underlying5 Tryd.underlying9 (fun j hj => by
    have ha : (⟨w.heap.size, 0, none⟩ : Addr).add j = ⟨w.heap.size, j, none⟩ := by unfold Addr.add; split <;> simp_all
    rw [List.length_replicate] at hj
    rw [ha, World.rowIs.cell hrow hj]
    simp)
  rw [List.length_replicate] at h
  exact h

set_option maxRecDepth 100000 in
set_option maxHeartbeats 4000000 in
theorem refPad_any (s : ByteArray) (u : Int) (w : World) (hs : s.size ≤ 1000000000) :
    Calls Tryd.prog 10 #[.string s, .int .i64 u] w fun e w' => e = two (padR s.data.toList u) ∧ Below w.heap.size w w' := by
  obtain ⟨l, hl⟩ : ∃ l, s.data.toList = l := ⟨_, rfl⟩
  obtain ⟨N, hN⟩ : ∃ N, s.size = N := ⟨_, rfl⟩
  have hln : l.length = N := by rw [← hl, ← hN, ← Lib.size_eq]
  rw [hl]
  by_cases h0 : u < 1
  · have hr : padR l u = ([], 2) := by unfold padR; rw [if_pos (.inl h0)]
    have c1 : decide (u < 1) = true := decide_eq_true h0
    rw [hr]
    clear h0 hr hl hln
    go_enter Tryd.func10, Tryd.ntmps10
    go_wp2
    go_ret2
    exact ⟨rfl, Below.refl _ _⟩
  · have c1 : decide (u < 1) = false := decide_eq_false h0
    by_cases h1 : 1024 < u
    · have hr : padR l u = ([], 2) := by unfold padR; rw [if_pos (.inr h1)]
      have c2 : decide ((1024 : Int) < u) = true := decide_eq_true h1
      rw [hr]
      clear h0 h1 hr hl hln
      go_enter Tryd.func10, Tryd.ntmps10
      go_wp2
      go_ret2
      exact ⟨rfl, Below.refl _ _⟩
    · have c2 : decide ((1024 : Int) < u) = false := decide_eq_false h1
      obtain ⟨U, rfl⟩ := Int.eq_ofNat_of_zero_le (show 0 ≤ u by omega)
      have hU1 : 1 ≤ U := by omega
      have hU2 : U ≤ 1024 := by omega
      have hgt := padN_gt (n := N) hU1
      have hle := padN_le (n := N) hU1
      obtain ⟨n, hn⟩ : ∃ n, padN N U = n := ⟨_, rfl⟩
      obtain ⟨q, hq⟩ : ∃ q, N / U = q := ⟨_, rfl⟩
      have hqN : q ≤ N := by rw [← hq]; exact Nat.div_le_self _ _
      have hqi : (N : Int) / (U : Int) = (q : Int) := by rw [← hq]; rfl
      have hqt : (N : Int).tdiv (U : Int) = (q : Int) := by rw [Int.tdiv_eq_ediv_of_nonneg (by omega), hqi]
      have hmul : ((q : Int) + 1) * (U : Int) = (n : Int) := by
        rw [← hn]; unfold padN; rw [hq]; push_cast; rfl
      rw [hn] at hgt hle
      have hw1 : IntKind.i64.wrap ((q : Int) + 1) = (q : Int) + 1 := by rw [IntKind.wrap_i64]; omega
      have hw2 : IntKind.i64.wrap (n : Int) = (n : Int) := by rw [IntKind.wrap_i64]; omega
      have hU0 : ((U : Int) == 0) = false := by simp only [beq_eq_false_iff_ne]; omega
      by_cases h2 : 16384 < n
      · have hr : padR l (U : Int) = ([], 3) := by
          unfold padR; rw [if_neg (by omega), hln, Int.toNat_natCast, hn, if_pos h2]
        have c3 : decide ((16384 : Int) < (n : Int)) = true := decide_eq_true (by omega)
        rw [hr]
        clear h0 h1 h2 hr hl hln hgt hle hn hq
        go_enter Tryd.func10, Tryd.ntmps10
        go_wp2
        go_ret2
        exact ⟨rfl, Below.refl _ _⟩
      · have c3 : decide ((16384 : Int) < (n : Int)) = false := decide_eq_false (by omega)
        obtain ⟨k, hk⟩ : ∃ k, n - N - 1 = k := ⟨_, rfl⟩
        have hr : padR l (U : Int) = (l ++ 128 :: List.replicate k 0, 0) := by
          unfold padR; rw [if_neg (by omega), hln, Int.toNat_natCast, hn, if_neg h2, hk]
        have hw3 : IntKind.i64.wrap ((n : Int) - (N : Int)) = (n : Int) - (N : Int) := by rw [IntKind.wrap_i64]; omega
        have hw4 : (n : Int) - (N : Int) - 1 = (k : Int) := by omega
        have hw5 : IntKind.i64.wrap (k : Int) = (k : Int) := by rw [IntKind.wrap_i64]; omega
        have hkb : k ≤ 16384 := by omega
        have hNb : N ≤ 16384 := by omega
        have hmk := run_make_row' (P := Tryd.prog) 28 5 (.int .u8 0) 1 Tryd.underlying28 infoU8 rfl .i64 .i64 k (by omega) (by omega) w
        have hcv := string_zeros w k
        obtain ⟨Z, hZ⟩ : ∃ Z : ByteArray, (⟨(List.replicate k (0 : UInt8)).toArray⟩ : ByteArray) = Z := ⟨_, rfl⟩
        have hZs : Z.size = k := by rw [← hZ, Lib.size_eq]; simp
        rw [hZ] at hcv
        have HF : Hid ((⟨(l ++ 128 :: List.replicate k 0).toArray⟩ : ByteArray) = s ++ ⟨#[128]⟩ ++ Z) := by
          show _ = _
          have h : (s ++ ⟨#[128]⟩ ++ Z).data.toList = l ++ 128 :: List.replicate k 0 := by
            rw [cat_list, cat_list, hl, ← hZ]
            simp
          rw [← h]
          try simp
        have HB : Hid (Below w.heap.size w (w.alloc (.cells (madeCells #[.int .u8 0] k) 5))) := (Below.refl _ _).alloc (Nat.le_refl _) _
        generalize w.alloc (.cells (madeCells #[.int .u8 0] k) 5) = w1 at *
        rw [hr]
        clear h0 h1 h2 hr hl hln hgt hle hn hq hk hZ
        go_enter Tryd.func10, Tryd.ntmps10
        go_wp2
        go_ret2
        exact ⟨by show _ = Ending.returned _; rw [HF.out]; rfl, HB.out⟩
end Go.Proofs.YtadhmmklhhaagaaDoor
/-! What is in padded strings: the document's Strip. -/
namespace Go.Proofs.YtadhmmklhhaagaaDoor
open Go.RowKit
set_option linter.unusedVariables false

/-- l is t, padded to units of u. -/
def PadOf (l t : List UInt8) (u : Nat) : Prop := 1 ≤ u ∧ u ≤ 1024 ∧ padR t (u : Int) = (l, 0)
theorem padOf_iff {l t : List UInt8} {u : Nat} (hu1 : 1 ≤ u) (hu2 : u ≤ 1024) : PadOf l t u ↔ padN t.length u ≤ 16384 ∧ l = t ++ 128 :: List.replicate (padN t.length u - t.length - 1) 0 := by
  unfold PadOf padR
  rw [if_neg (by omega), Int.toNat_natCast]
  constructor
  · rintro ⟨_, _, h⟩
    split at h
    · cases h
    · rename_i hn
      exact ⟨by omega, (Prod.mk.inj h).1.symm⟩
  · rintro ⟨h1, h2⟩
    exact ⟨hu1, hu2, by rw [if_neg (by omega), ← h2]⟩
theorem padOf_len {l t : List UInt8} {u : Nat} (h : PadOf l t u) : l.length = padN t.length u ∧ t.length < l.length ∧ l.length ≤ 16384 := by
  obtain ⟨h1, h2, _⟩ := id h
  obtain ⟨h3, h4⟩ := (padOf_iff h1 h2).1 h
  have h5 := padN_gt (n := t.length) h1
  have h6 : l.length = padN t.length u := by
    rw [h4, List.length_append, List.length_cons, List.length_replicate]
    omega
  exact ⟨h6, by omega, by omega⟩
/-- Where a byte that is not 0 is the last one of them, and what it is. -/
theorem last_of {t : List UInt8} {k i : Nat} (hi : i < (t ++ 128 :: List.replicate k 0).length) (hz : ∀ j, i < j → j < (t ++ 128 :: List.replicate k (0 : UInt8)).length → (t ++ 128 :: List.replicate k (0 : UInt8)).getD j 1 = 0) (hn : (t ++ 128 :: List.replicate k (0 : UInt8)).getD i 0 ≠ 0) : i = t.length := by
  rcases Nat.lt_trichotomy i t.length with h | h | h
  · have h1 := hz t.length h (by simp)
    simp [List.getD] at h1
  · exact h
  · exfalso
    apply hn
    rw [List.length_append, List.length_cons, List.length_replicate] at hi
    simp only [List.getD]
    rw [List.getElem?_append_right (by omega)]
    obtain ⟨d, hd⟩ : ∃ d, i - t.length = d + 1 := ⟨i - t.length - 1, by omega⟩
    rw [hd, List.getElem?_cons_succ, List.getElem?_replicate]
    split <;> rfl
/-- The string of which a string is a padding, or the error. -/
def Strips (l : List UInt8) (r : List UInt8 × Int) : Prop := (∃ t u, PadOf l t u ∧ r = (t, 0)) ∨ ((∀ t u, ¬ PadOf l t u) ∧ r = ([], 4))
theorem padOf_same {l t t' : List UInt8} {u u' : Nat} (h : PadOf l t u) (h' : PadOf l t' u') : t = t' := by
  obtain ⟨h1, h2, _⟩ := id h
  obtain ⟨h1', h2', _⟩ := id h'
  obtain ⟨_, h4⟩ := (padOf_iff h1 h2).1 h
  obtain ⟨_, h4'⟩ := (padOf_iff h1' h2').1 h'
  generalize padN t.length u - t.length - 1 = k at *
  generalize padN t'.length u' - t'.length - 1 = k' at *
  have hl : t.length = t'.length := by
    have ht : t.length < l.length := by rw [h4, List.length_append, List.length_cons]; omega
    rw [h4'] at ht
    refine last_of (t := t') (k := k') (i := t.length) ht (fun j hj hjl => ?_) ?_
    · rw [← h4', h4] at hjl ⊢
      rw [List.length_append, List.length_cons, List.length_replicate] at hjl
      simp only [List.getD]
      rw [List.getElem?_append_right (by omega)]
      obtain ⟨d, hd⟩ : ∃ d, j - t.length = d + 1 := ⟨j - t.length - 1, by omega⟩
      rw [hd, List.getElem?_cons_succ, List.getElem?_replicate, if_pos (by omega)]
      rfl
    · rw [← h4', h4]
      simp [List.getD]
  have h5 := congrArg (List.take t.length) (h4.symm.trans h4')
  rw [List.take_left, hl, List.take_left] at h5
  exact h5
theorem Strips.same {l : List UInt8} {r r' : List UInt8 × Int} (h : Strips l r) (h' : Strips l r') : r = r' := by
  rcases h with ⟨t, u, h1, rfl⟩ | ⟨h1, rfl⟩ <;> rcases h' with ⟨t', u', h2, rfl⟩ | ⟨h2, rfl⟩
  · rw [padOf_same h1 h2]
  · exact absurd h1 (h2 t u)
  · exact absurd h2 (h1 t' u')
  · rfl
end Go.Proofs.YtadhmmklhhaagaaDoor
