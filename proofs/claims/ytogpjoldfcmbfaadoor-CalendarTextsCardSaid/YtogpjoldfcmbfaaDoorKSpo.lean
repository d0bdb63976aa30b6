
/- The kit's Spoil: one string, whatever the world. -/
import Derived.Test.YtogpjoldfcmbfaaDoorVSpo
import Derived.Test.YtogpjoldfcmbfaaDoorArith
namespace Go.Proofs.YtogpjoldfcmbfaaDoor
open Go.RowKit
set_option linter.unusedVariables false

set_option maxRecDepth 100000 in
set_option maxHeartbeats 4000000 in
theorem spoil_val (s : ByteArray) (a n : Int) (hs : s.size ≤ 1000000000) : ∃ r : ByteArray, r.size = s.size ∧ ∀ w : World,
    Calls Tryd.prog 19 #[.string s, .int .i64 a, .int .i64 n] w fun e w' => e = .returned (.string r) ∧ Below w.heap.size w w' := by
  by_cases h0 : s = ⟨#[]⟩
  · subst h0
    refine ⟨⟨#[]⟩, rfl, fun w => ?_⟩
    go_enter Tryd.func19, Tryd.ntmps19
    go_wp2
    go_ret
    exact ⟨rfl, Below.refl _ _⟩
  · have hne : s.toList.isEmpty = false := by
      rw [ByteArray.toList_eq]
      cases h : s.data.toList with
      | nil =>
        exfalso
        apply h0
        cases s
        simp at h
        subst h
        rfl
      | cons x r => rfl
    obtain ⟨N, hN⟩ : ∃ N, s.size = N := ⟨_, rfl⟩
    have hN0 : 0 < N := by
      rcases Nat.eq_zero_or_pos N with h | h
      · exfalso
        apply h0
        rw [h, Lib.size_eq] at hN
        cases s
        simp at hN
        subst hN
        rfl
      · exact h
    have HBO := Lib.hid (fun w => bytes_own w s hs)
    have hml : s.data.toList.length = N := by rw [← Lib.size_eq]; exact hN
    generalize s.data.toList = m at *
    rw [hN] at HBO
    obtain ⟨k, hk⟩ : ∃ k : Nat, a % (N : Int) = (k : Int) := ⟨(a % (N : Int)).toNat, by
      have := Int.emod_nonneg a (show (N : Int) ≠ 0 by omega)
      omega⟩
    have hkN : k < N := by
      have := Int.emod_lt_of_pos a (show 0 < (N : Int) by omega)
      omega
    have HM := fun w => mod_any a (N : Int) w (by omega) (by omega)
    rw [hk] at HM
    have HM := Lib.hid HM
    obtain ⟨bv, hbv⟩ : ∃ bv : Int, Sha.bt m k = bv := ⟨_, rfl⟩
    obtain ⟨nv, hnv⟩ : ∃ nv : Int, IntKind.u8.wrap n = nv := ⟨_, rfl⟩
    obtain ⟨sv, hsv⟩ : ∃ sv : Int, IntKind.u8.wrap (bv + nv) = sv := ⟨_, rfl⟩
    have hs0 : 0 ≤ sv ∧ sv < 256 := by rw [← hsv, IntKind.wrap_u8]; omega
    refine ⟨⟨(m.set k (UInt8.ofNat sv.toNat)).toArray⟩, by rw [Lib.size_eq]; simp [hml, hN], fun w => ?_⟩
    obtain ⟨g0, c0, w1, hcv, hO1, hb1⟩ := HBO.out w
    have hcl := hO1.cell (j := k) (by omega)
    rw [hbv] at hcl
    obtain ⟨hfr, hO2, hb2⟩ := hO1.set k (by omega) (UInt8.ofNat sv.toNat) sv (by simp; omega)
    have hconv := string_own hO2
    have HB2 := Lib.hid (hb1.trans hb2)
    obtain ⟨r, hr⟩ : ∃ r : ByteArray, (⟨(m.set k (UInt8.ofNat sv.toNat)).toArray⟩ : ByteArray) = r := ⟨_, rfl⟩
    rw [hr] at hconv ⊢
    clear h0 hml hO1 hb1 hO2 hb2 hr hk hbv hs0
    go_enter Tryd.func19, Tryd.ntmps19
    go_wp2_with fail
    refine (HM.out w1).mono ?_
    rintro e w2 ⟨rfl, rfl⟩
    go_wp2
    go_ret
    exact ⟨rfl, HB2.out⟩
end Go.Proofs.YtogpjoldfcmbfaaDoor
