
/- Texts written, and numbers of items read: the document's PutText and count. -/
import Derived.Test.YtkpdjeiocdppoaaVInt
namespace Go.Proofs.Ytkpdjeiocdppoaa
open Go.RowKit
set_option linter.unusedVariables false

theorem cat_list (a b : ByteArray) : (a ++ b).data.toList = a.data.toList ++ b.data.toList := by
  rw [ByteArray.data_append]; simp
/-- A text as it is written. -/
def gtxt (s : List UInt8) : List UInt8 := Vi.grp (Vi.zz (s.length : Int)) ++ s
theorem gtxt_len (s : List UInt8) (h : s.length ≤ 1000000000) : (gtxt s).length ≤ s.length + 10 := by
  unfold gtxt
  rw [List.length_append]
  have := Vi.grp_len10 (Vi.zz_lt (s.length : Int) (by omega))
  omega
set_option maxHeartbeats 4000000 in
theorem refPutText_any (b s : ByteArray) (w : World) (hb : b.size ≤ 1000000000) (hs : s.size ≤ 1000000000) :
    Calls Try.prog 13 #[.string b, .string s] w fun e w' => e = .returned (.string ⟨(b.data.toList ++ gtxt s.data.toList).toArray⟩) ∧ Below w.heap.size w w' := by
  obtain ⟨N, hN⟩ : ∃ N, s.size = N := ⟨_, rfl⟩
  have hl : s.data.toList.length = N := by rw [← hN, ← Lib.size_eq]
  have HP := Lib.hid (refPutInt_any b (N : Int) w hb (by omega))
  obtain ⟨r, hr⟩ : ∃ r : ByteArray, (⟨(b.data.toList ++ Vi.grp (Vi.zz (N : Int))).toArray⟩ : ByteArray) = r := ⟨_, rfl⟩
  have hrl : r.data.toList = b.data.toList ++ Vi.grp (Vi.zz (N : Int)) := by rw [← hr]
  have hrs : r.size ≤ 1000000010 := by
    rw [Lib.size_eq, hrl, List.length_append, ← Lib.size_eq]
    have := Vi.grp_len10 (Vi.zz_lt (N : Int) (by omega))
    omega
  have HF : Hid ((⟨(b.data.toList ++ gtxt s.data.toList).toArray⟩ : ByteArray) = r ++ s) := by
    show _ = _
    have h : (r ++ s).data.toList = b.data.toList ++ gtxt s.data.toList := by
      rw [cat_list, hrl]; unfold gtxt; rw [hl, List.append_assoc]
    rw [← h]
    try simp
  have HP2 := HP.out
  rw [hr] at HP2
  have HP3 := Lib.hid HP2
  have HSN := Lib.hid hN
  clear HP HP2 hr hrl hl
  go_enter Try.func13, Try.ntmps13
  go_wp2_with fail
  refine HP3.out.mono ?_
  rintro e w1 ⟨rfl, hb1⟩
  go_wp2
  go_ret
  exact ⟨by rw [HF.out]; rfl, hb1⟩

/-- The number of items at a place. -/
def cntR (l : List UInt8) (a most : Int) : Int × Int × Int :=
  if (intR l a).2.2 = 0 then (if (intR l a).1 < 0 then (0, a, 4) else if most < (intR l a).1 then (0, a, 3) else ((intR l a).1, (intR l a).2.1, 0)) else (0, a, (intR l a).2.2)
set_option maxHeartbeats 4000000 in
theorem refCount_any (s : ByteArray) (a most : Int) (w : World) (hs : s.size ≤ 1000000000) :
    Calls Try.prog 36 #[.string s, .int .i64 a, .int .i64 most] w fun e w' => e = tri (cntR s.data.toList a most) ∧ w = w' := by
  have HI := refInt_any s a w hs
  obtain ⟨R, hR⟩ : ∃ R, cntR s.data.toList a most = R := ⟨_, rfl⟩
  rw [hR]
  unfold cntR at hR
  generalize intR s.data.toList a = r at *
  obtain ⟨n, p, e⟩ := r
  simp only at hR
  unfold tri at HI
  have HI := Lib.hid HI
  by_cases h1 : e = 0
  · have q1 : (e != 0) = false := by simpa using h1
    rw [if_pos h1] at hR
    by_cases h2 : n < 0
    · have q2 : decide (n < 0) = true := decide_eq_true h2
      rw [if_pos h2] at hR
      clear h1 h2
      go_enter Try.func36, Try.ntmps36
      go_wp2_with (refine HI.out.mono ?_; rintro e w1 ⟨rfl, rfl⟩)
      go_ret3
      exact ⟨by rw [← hR]; rfl, rfl⟩
    · have q2 : decide (n < 0) = false := decide_eq_false h2
      rw [if_neg h2] at hR
      by_cases h3 : most < n
      · have q3 : decide (most < n) = true := decide_eq_true h3
        rw [if_pos h3] at hR
        clear h1 h2 h3
        go_enter Try.func36, Try.ntmps36
        go_wp2_with (refine HI.out.mono ?_; rintro e w1 ⟨rfl, rfl⟩)
        go_ret3
        exact ⟨by rw [← hR]; rfl, rfl⟩
      · have q3 : decide (most < n) = false := decide_eq_false h3
        rw [if_neg h3] at hR
        clear h1 h2 h3
        go_enter Try.func36, Try.ntmps36
        go_wp2_with (refine HI.out.mono ?_; rintro e w1 ⟨rfl, rfl⟩)
        go_ret3
        exact ⟨by rw [← hR]; rfl, rfl⟩
  · have q1 : (e != 0) = true := by simpa using h1
    rw [if_neg h1] at hR
    clear h1
    go_enter Try.func36, Try.ntmps36
    go_wp2_with (refine HI.out.mono ?_; rintro e w1 ⟨rfl, rfl⟩)
    go_ret3
    exact ⟨by rw [← hR]; rfl, rfl⟩
end Go.Proofs.Ytkpdjeiocdppoaa
