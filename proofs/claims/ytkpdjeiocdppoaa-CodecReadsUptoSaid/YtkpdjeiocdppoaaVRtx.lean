
/- Texts read: the document's Text. -/
import Derived.Test.YtkpdjeiocdppoaaVTxt
namespace Go.Proofs.Ytkpdjeiocdppoaa
open Go.RowKit
set_option linter.unusedVariables false

theorem intR_in (l : List UInt8) (a : Int) (h : (intR l a).2.2 = 0) : 0 ≤ (intR l a).2.1 ∧ (intR l a).2.1 ≤ (l.length : Int) := by
  unfold intR at h ⊢
  split at h
  · cases h
  · rename_i hr
    rw [if_neg hr]
    cases hg : Vi.rd (l.drop a.toNat) 0 0 with
    | missing => rw [hg] at h; cases h
    | form => rw [hg] at h; cases h
    | got u k =>
      obtain ⟨x, k', _, rfl, _, _, hk, _⟩ := Vi.rd_only _ _ _ _ _ hg
      rw [List.length_drop] at hk
      show 0 ≤ a + ((0 + k' : Nat) : Int) ∧ a + ((0 + k' : Nat) : Int) ≤ _
      omega
/-- The text at a place: the text, the place after it, the error. -/
def txtR (l : List UInt8) (a : Int) : List UInt8 × Int × Int :=
  if (intR l a).2.2 = 0 then (if (intR l a).1 < 0 then ([], a, 4) else if (l.length : Int) - (intR l a).2.1 < (intR l a).1 then ([], a, 5) else ((l.drop (intR l a).2.1.toNat).take (intR l a).1.toNat, (intR l a).2.1 + (intR l a).1, 0)) else ([], a, (intR l a).2.2)
def triT (r : List UInt8 × Int × Int) : Ending := .returned (.tuple #[.string ⟨r.1.toArray⟩, .int .i64 r.2.1, .int .i64 r.2.2])
theorem cut_toList (s : ByteArray) (p n : Nat) : (⟨((s.data.toList.drop p).take n).toArray⟩ : ByteArray) = s.extract p (p + n) := by
  have h : (s.extract p (p + n)).data.toList = (s.data.toList.drop p).take n := by
    rw [ByteArray.data_extract, Array.toList_extract, List.extract_eq_take_drop, Nat.add_sub_cancel_left]
  rw [← h]
set_option maxHeartbeats 4000000 in
theorem refText_any (s : ByteArray) (a : Int) (w : World) (hs : s.size ≤ 1000000000) :
    Calls Try.prog 23 #[.string s, .int .i64 a] w fun e w' => e = triT (txtR s.data.toList a) ∧ w = w' := by
  have HI := refInt_any s a w hs
  have HIN := intR_in s.data.toList a
  have hcut := cut_toList s
  obtain ⟨R, hR⟩ : ∃ R, txtR s.data.toList a = R := ⟨_, rfl⟩
  rw [hR]
  unfold txtR at hR
  generalize intR s.data.toList a = r at *
  obtain ⟨n, p, e⟩ := r
  simp only at hR HIN
  rw [← Lib.size_eq] at hR HIN
  unfold tri at HI
  have HI := Lib.hid HI
  by_cases h1 : e = 0
  · have q1 : (e != 0) = false := by simpa using h1
    obtain ⟨hp0, hp1⟩ := HIN h1
    rw [if_pos h1] at hR
    by_cases h2 : n < 0
    · have q2 : decide (n < 0) = true := decide_eq_true h2
      rw [if_pos h2] at hR
      have HR := Lib.hid hR
      clear h1 h2 HIN hcut hR hp0 hp1
      go_enter Try.func23, Try.ntmps23
      go_wp2_with (refine HI.out.mono ?_; rintro e w1 ⟨rfl, rfl⟩)
      go_ret3
      exact ⟨by rw [← HR.out]; rfl, rfl⟩
    · have q2 : decide (n < 0) = false := decide_eq_false h2
      rw [if_neg h2] at hR
      have hw1 : IntKind.i64.wrap ((s.size : Int) - p) = (s.size : Int) - p := by rw [IntKind.wrap_i64]; omega
      by_cases h3 : (s.size : Int) - p < n
      · have q3 : decide ((s.size : Int) - p < n) = true := decide_eq_true h3
        rw [if_pos h3] at hR
        have HR := Lib.hid hR
        clear h1 h2 h3 HIN hcut hR hp0 hp1
        go_enter Try.func23, Try.ntmps23
        go_wp2_with (refine HI.out.mono ?_; rintro e w1 ⟨rfl, rfl⟩)
        go_ret3
        exact ⟨by rw [← HR.out]; rfl, rfl⟩
      · have q3 : decide ((s.size : Int) - p < n) = false := decide_eq_false h3
        rw [if_neg h3] at hR
        have hw2 : IntKind.i64.wrap (p + n) = p + n := by rw [IntKind.wrap_i64]; omega
        have HF : Hid (triT R = .returned (.tuple #[.string (s.extract p.toNat (p + n).toNat), .int .i64 (p + n), .int .i64 0])) := by
          show _ = _
          rw [← hR]
          unfold triT
          simp only [hcut]
          rw [show (p + n).toNat = p.toNat + n.toNat by omega]
        have hpn : p + n ≤ (s.size : Int) := by omega
        have hn0 : p ≤ p + n := by omega
        clear h1 HIN hcut hR
        go_enter Try.func23, Try.ntmps23
        go_wp2_with (refine HI.out.mono ?_; rintro e w1 ⟨rfl, rfl⟩)
        go_ret3
        exact ⟨by rw [HF.out]; rfl, rfl⟩
  · have q1 : (e != 0) = true := by simpa using h1
    rw [if_neg h1] at hR
    have HR := Lib.hid hR
    clear h1 HIN hcut hR
    go_enter Try.func23, Try.ntmps23
    go_wp2_with (refine HI.out.mono ?_; rintro e w1 ⟨rfl, rfl⟩)
    go_ret3
    exact ⟨by rw [← HR.out]; rfl, rfl⟩
end Go.Proofs.Ytkpdjeiocdppoaa
