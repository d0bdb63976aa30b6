
/- Lengths and texts read: the program's length and Text. -/
import Derived.Test.YtkpdjeiocdppoaaCInt
import Derived.Test.YtkpdjeiocdppoaaVRtx
namespace Go.Proofs.Ytkpdjeiocdppoaa
open Go.RowKit
set_option linter.unusedVariables false

/-- A length at a place. -/
def lenR (l : List UInt8) (a : Int) : Int × Int × Int := if (intR l a).1 < 0 then (0, a, 4) else intR l a
theorem intR_err0 (l : List UInt8) (a : Int) (h : (intR l a).2.2 ≠ 0) : intR l a = (0, a, (intR l a).2.2) := by
  unfold intR at h ⊢
  split
  · rfl
  · rename_i hr
    rw [if_neg hr] at h
    cases hg : Vi.rd (l.drop a.toNat) 0 0 with
    | missing => rfl
    | form => rfl
    | got u k => rw [hg] at h; exact absurd rfl h
theorem lenR_cnt (l : List UInt8) (a most : Int) : cntR l a most = if (lenR l a).2.2 = 0 then (if most < (lenR l a).1 then (0, a, 3) else lenR l a) else (0, a, (lenR l a).2.2) := by
  unfold cntR lenR
  by_cases h0 : (intR l a).2.2 = 0
  · rw [if_pos h0]
    by_cases h1 : (intR l a).1 < 0
    · rw [if_pos h1, if_pos h1]; rfl
    · rw [if_neg h1, if_neg h1, if_pos h0]
      by_cases h2 : most < (intR l a).1
      · rw [if_pos h2, if_pos h2]
      · rw [if_neg h2, if_neg h2]
        show _ = ((intR l a).1, (intR l a).2.1, (intR l a).2.2)
        rw [h0]
  · have h2 : ¬ (intR l a).1 < 0 := by rw [intR_err0 l a h0]; exact Int.lt_irrefl _
    rw [if_neg h0, if_neg h2, if_neg h0]
theorem lenR_txt (l : List UInt8) (a : Int) : txtR l a = if (lenR l a).2.2 = 0 then (if (l.length : Int) - (lenR l a).2.1 < (lenR l a).1 then ([], a, 5) else ((l.drop (lenR l a).2.1.toNat).take (lenR l a).1.toNat, (lenR l a).2.1 + (lenR l a).1, 0)) else ([], a, (lenR l a).2.2) := by
  unfold txtR lenR
  by_cases h0 : (intR l a).2.2 = 0
  · rw [if_pos h0]
    by_cases h1 : (intR l a).1 < 0
    · rw [if_pos h1, if_pos h1]; rfl
    · rw [if_neg h1, if_neg h1, if_pos h0]
  · have h2 : ¬ (intR l a).1 < 0 := by rw [intR_err0 l a h0]; exact Int.lt_irrefl _
    rw [if_neg h0, if_neg h2, if_neg h0]
theorem lenR_in (l : List UInt8) (a : Int) (h : (lenR l a).2.2 = 0) : 0 ≤ (lenR l a).1 ∧ 0 ≤ (lenR l a).2.1 ∧ (lenR l a).2.1 ≤ (l.length : Int) := by
  unfold lenR at h ⊢
  by_cases h1 : (intR l a).1 < 0
  · rw [if_pos h1] at h; cases h
  · rw [if_neg h1] at h ⊢
    have := intR_in l a h
    omega
set_option maxHeartbeats 4000000 in
theorem length_any (s : ByteArray) (a : Int) (w : World) (hs : s.size ≤ 1000000000) :
    Calls Try.prog 34 #[.string s, .int .i64 a] w fun e w' => e = tri (lenR s.data.toList a) ∧ w = w' := by
  have HI := int_any s a w hs
  obtain ⟨R, hR⟩ : ∃ R, lenR s.data.toList a = R := ⟨_, rfl⟩
  rw [hR]
  unfold lenR at hR
  generalize intR s.data.toList a = r at *
  obtain ⟨n, p, e⟩ := r
  simp only at hR
  unfold tri at HI
  have HI := Lib.hid HI
  by_cases h2 : n < 0
  · have q2 : decide (n < 0) = true := decide_eq_true h2
    rw [if_pos h2] at hR
    have HR := Lib.hid hR
    clear h2 hR
    go_enter Try.func34, Try.ntmps34
    go_wp2_with (refine HI.out.mono ?_; rintro e w1 ⟨rfl, rfl⟩)
    go_ret3
    exact ⟨by rw [← HR.out]; rfl, rfl⟩
  · have q2 : decide (n < 0) = false := decide_eq_false h2
    rw [if_neg h2] at hR
    have HR := Lib.hid hR
    clear h2 hR
    go_enter Try.func34, Try.ntmps34
    go_wp2_with (refine HI.out.mono ?_; rintro e w1 ⟨rfl, rfl⟩)
    go_ret3
    exact ⟨by rw [← HR.out]; rfl, rfl⟩

set_option maxHeartbeats 4000000 in
theorem text_any (s : ByteArray) (a : Int) (w : World) (hs : s.size ≤ 1000000000) :
    Calls Try.prog 22 #[.string s, .int .i64 a] w fun e w' => e = triT (txtR s.data.toList a) ∧ w = w' := by
  have HI := length_any s a w hs
  have HIN := lenR_in s.data.toList a
  have hcut := cut_toList s
  obtain ⟨R, hR⟩ : ∃ R, txtR s.data.toList a = R := ⟨_, rfl⟩
  rw [hR]
  rw [lenR_txt] at hR
  generalize lenR s.data.toList a = r at *
  obtain ⟨n, p, e⟩ := r
  simp only at hR HIN
  rw [← Lib.size_eq] at hR HIN
  unfold tri at HI
  have HI := Lib.hid HI
  by_cases h1 : e = 0
  · have q1 : (e != 0) = false := by simpa using h1
    obtain ⟨h2, hp0, hp1⟩ := HIN h1
    rw [if_pos h1] at hR
    have hw1 : IntKind.i64.wrap ((s.size : Int) - p) = (s.size : Int) - p := by rw [IntKind.wrap_i64]; omega
    by_cases h3 : (s.size : Int) - p < n
    · have q3 : decide ((s.size : Int) - p < n) = true := decide_eq_true h3
      rw [if_pos h3] at hR
      have HR := Lib.hid hR
      clear h1 h2 h3 HIN hcut hR hp0 hp1
      go_enter Try.func22, Try.ntmps22
      go_wp2_with (refine HI.out.mono ?_; rintro e w1 ⟨rfl, rfl⟩)
      go_ret3
      exact ⟨by rw [← HR.out]; rfl, rfl⟩
    · have q3 : decide ((s.size : Int) - p < n) = false := decide_eq_false h3
      rw [if_neg h3] at hR
      have hw2 : IntKind.i64.wrap (p + n) = p + n := by rw [IntKind.wrap_i64]; omega
      have HF : Hid (triT R = .returned (.tuple #[.string (s.extract p.toNat (p + n).toNat), .int .i64 (p + n), .int .i64 0])) := by
        show _ = _
        rw [← hR]
        unfold triT
        simp only [hcut]
        rw [show (p + n).toNat = p.toNat + n.toNat by omega]
      have hpn : p + n ≤ (s.size : Int) := by omega
      have hn0 : p ≤ p + n := by omega
      clear h1 HIN hcut hR
      go_enter Try.func22, Try.ntmps22
      go_wp2_with (refine HI.out.mono ?_; rintro e w1 ⟨rfl, rfl⟩)
      go_ret3
      exact ⟨by rw [HF.out]; rfl, rfl⟩
  · have q1 : (e != 0) = true := by simpa using h1
    rw [if_neg h1] at hR
    have HR := Lib.hid hR
    clear h1 HIN hcut hR
    go_enter Try.func22, Try.ntmps22
    go_wp2_with (refine HI.out.mono ?_; rintro e w1 ⟨rfl, rfl⟩)
    go_ret3
    exact ⟨by rw [← HR.out]; rfl, rfl⟩
end Go.Proofs.Ytkpdjeiocdppoaa
