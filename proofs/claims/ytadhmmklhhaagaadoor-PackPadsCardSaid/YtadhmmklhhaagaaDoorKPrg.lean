
/- The program's package pack: Pack, Unpack, and all contracts together. -/
import Derived.Test.YtadhmmklhhaagaaDoorKPr1
import Derived.Test.YtadhmmklhhaagaaDoorKPr3
import Derived.Test.YtadhmmklhhaagaaDoorKPr4
import Derived.Test.YtadhmmklhhaagaaDoorKBLaw
import Derived.Test.YtadhmmklhhaagaaDoorKPLaw
/-! The program's package pack: Pack, Unpack, and all contracts together. -/
namespace Go.Proofs.YtadhmmklhhaagaaDoor
open Go.RowKit
open Num
set_option linter.unusedVariables false

theorem make_roomI (c : Nat) (hc : c ≤ 1000000) (w : World) : (Instr.makeSlice 24 (.int .i64 0) (.int .i64 (c : Int))).run Tryd.prog w = .ok (.slice (some ⟨w.heap.size, 0, none⟩) 0 c) (w.alloc (.cells (madeCells #[.int .i64 0] c) 3)) := by
  obtain ⟨i, hi, hzz⟩ := Option.map_eq_some_iff.1 infoInt
  simp only [Prod.mk.injEq] at hzz
  obtain ⟨hz, hs, hb⟩ := hzz
  have hr := run_make (P := Tryd.prog) w 24 3 i (.int .i64 0) Tryd.underlying24 hi hz .i64 .i64 0 (c : Int) (by omega) (by omega) (by rw [hb]; omega) (by omega)
  simp only [Int.toNat_natCast, hs, Nat.mul_one] at hr
  exact hr
/-- What a call gives that makes a list of numbers: the list, and memory. -/
theorem ints_made {w' : World} {B : Nat} {v : Value} {zs : List Int} {n : Nat} (h : Gath w' B v zs) (hn : zs.length = n) (h6 : n ≤ 1000000) : ∃ a c, v = .slice a n c ∧ Ints w' (.slice a n c) zs := by
  have hI := h.reads (by omega)
  obtain ⟨a, c, hv, h1, h2⟩ := hI
  rw [hn] at hv
  exact ⟨a, c, hv, a, c, by rw [hn], h1, h2⟩

set_option maxRecDepth 100000 in
set_option maxHeartbeats 8000000 in
theorem packLim_any (p : Int) (s : ByteArray) (w : World) (hw : Tb w) (hprm : PrmI p) (hp2 : p ≤ 500000003) (hs : s.size ≤ 100000) (hc : 2048 < cnt p s.size) :
    Calls Tryd.prog 18 #[.int .i64 p, .string s] w fun e w' => ∃ a c, e = .returned (.tuple #[.slice a 0 c, .int .i64 3]) ∧ Below w.heap.size w w' := by
  have HV := Lib.hid (valid_any p w hw.whl (wf64 (by have := hprm.1; omega) (by omega)))
  rw [vB_true hprm (by omega)] at HV
  obtain ⟨N, hN⟩ : ∃ N, s.size = N := ⟨_, rfl⟩
  rw [hN] at hc hs
  have HC := Lib.hid (count_any p N w hw (by omega))
  have hc8 := cnt_le p N
  obtain ⟨C, hC⟩ : ∃ C, cnt p N = C := ⟨_, rfl⟩
  rw [hC] at hc hc8 HC
  have q : decide ((2048 : Int) < (C : Int)) = true := decide_eq_true (by omega)
  clear hw hprm hC hc8
  go_enter Tryd.func18, Tryd.ntmps18
  go_wp2_with fail
  refine HV.out.mono ?_
  rintro e w' ⟨rfl, rfl⟩
  go_wp2_with fail
  refine HC.out.mono ?_
  rintro e w' ⟨rfl, rfl⟩
  go_wp2
  go_ret2
  exact ⟨none, 0, rfl, Below.refl _ _⟩

set_option maxRecDepth 100000 in
set_option maxHeartbeats 8000000 in
theorem packOk_any (p : Int) (s : ByteArray) (w : World) (hw : Tb w) (hprm : PrmI p) (hp2 : p ≤ 500000003) (hs : s.size ≤ 100000) (hc : cnt p s.size ≤ 2048) :
    Calls Tryd.prog 18 #[.int .i64 p, .string s] w fun e w' => ∃ a c, e = .returned (.tuple #[.slice a (cnt p s.size) c, .int .i64 0]) ∧ Ints w' (.slice a (cnt p s.size) c) (packL p s.data.toList) ∧ Below w.heap.size w w' := by
  have HV := Lib.hid (valid_any p w hw.whl (wf64 (by have := hprm.1; omega) (by omega)))
  rw [vB_true hprm (by omega)] at HV
  have hpl : (packL p s.data.toList).length = cnt p s.size := by rw [packL_len, ← Lib.size_eq]
  obtain ⟨N, hN⟩ : ∃ N, s.size = N := ⟨_, rfl⟩
  rw [hN] at hc hpl ⊢
  have HC := Lib.hid (count_any p N w hw (by omega))
  obtain ⟨C, hC⟩ : ∃ C, cnt p N = C := ⟨_, rfl⟩
  rw [hC] at hc hpl HC ⊢
  have q : decide ((2048 : Int) < (C : Int)) = false := decide_eq_false (by omega)
  obtain ⟨B, hB⟩ : ∃ B, w.heap.size = B := ⟨_, rfl⟩
  have hmk := make_roomI C (by omega) w
  have hG0 : Gath (w.alloc (.cells (madeCells #[.int .i64 0] C) 3)) B (.slice (some ⟨w.heap.size, 0, none⟩) 0 C) [] := World.ownsRow_made w _ C (by omega) (by unfold maxLen; omega) (by rw [size_madeCells, Nat.mul_one])
  have hb0 : Below B w (w.alloc (.cells (madeCells #[.int .i64 0] C) 3)) := (Below.refl _ _).alloc (by omega) _
  have hs0 : B ≤ (w.alloc (.cells (madeCells #[.int .i64 0] C) 3)).heap.size := by simp; omega
  have hw1 := hw.below (by have := hw.size; omega) hb0
  rw [hB] at hmk hG0 ⊢
  generalize w.alloc (.cells (madeCells #[.int .i64 0] C) 3) = w1 at *
  have HWD := Lib.hid (width_any p w1 hw1)
  obtain ⟨K, hK⟩ : ∃ K, wdt p = K := ⟨_, rfl⟩
  have hK3 : K ≤ 3 := by rw [← hK]; exact wdt_le p
  rw [hK] at HWD
  by_cases h0 : K = 0
  · have hpk : packL p s.data.toList = s.data.toList.flatMap bits8 := by unfold packL; rw [if_pos (by omega)]
    have HR := Lib.hid (bits_any s (.slice (some ⟨B, 0, none⟩) 0 C) w1 B hs0 (by omega) hG0)
    rw [← hpk] at HR
    have HB0 := Lib.hid hb0
    have HPL := Lib.hid hpl
    have hc6 : Hid (C ≤ 1000000) := by show _ ≤ _; omega
    subst h0
    clear hpk hw hprm hC hK hb0 hpl hw1 hG0 hc hB hs0 hs
    go_enter Tryd.func18, Tryd.ntmps18
    go_wp2_with fail
    refine HV.out.mono ?_
    rintro e w' ⟨rfl, rfl⟩
    go_wp2_with fail
    refine HC.out.mono ?_
    rintro e w' ⟨rfl, rfl⟩
    go_wp2_with fail
    refine HWD.out.mono ?_
    rintro e w' ⟨rfl, rfl⟩
    go_wp2_with fail
    refine HR.out.mono ?_
    rintro e w2 ⟨v, rfl, hg, hb⟩
    obtain ⟨a, c, rfl, hI⟩ := ints_made hg HPL.out hc6.out
    have HI := Lib.hid hI
    have HB := Lib.hid (HB0.out.trans hb)
    clear hI hb hg
    go_wp2
    go_ret2
    exact ⟨a, c, rfl, HI.out, HB.out⟩
  · have hpk : packL p s.data.toList = (chunks K s.data.toList).map (fun n : Nat => (n : Int)) := by unfold packL; rw [if_neg (by omega), hK]
    have HR := Lib.hid (groups_any K s (.slice (some ⟨B, 0, none⟩) 0 C) w1 B hs0 (by omega) hK3 (by omega) hG0)
    rw [← hpk] at HR
    have HB0 := Lib.hid hb0
    have HPL := Lib.hid hpl
    have hc6 : Hid (C ≤ 1000000) := by show _ ≤ _; omega
    have q2 : decide ((0 : Int) < (K : Int)) = true := decide_eq_true (by omega)
    have q3 : 0 < K := by omega
    clear hpk hw hprm hC hK hb0 hpl hw1 hG0 hc hB hs0 hs h0
    go_enter Tryd.func18, Tryd.ntmps18
    go_wp2_with fail
    refine HV.out.mono ?_
    rintro e w' ⟨rfl, rfl⟩
    go_wp2_with fail
    refine HC.out.mono ?_
    rintro e w' ⟨rfl, rfl⟩
    go_wp2_with fail
    refine HWD.out.mono ?_
    rintro e w' ⟨rfl, rfl⟩
    go_wp2_with fail
    refine HR.out.mono ?_
    rintro e w2 ⟨v, rfl, hg, hb⟩
    obtain ⟨a, c, rfl, hI⟩ := ints_made hg HPL.out hc6.out
    have HI := Lib.hid hI
    have HB := Lib.hid (HB0.out.trans hb)
    clear hI hb hg
    go_wp2
    go_ret2
    exact ⟨a, c, rfl, HI.out, HB.out⟩

set_option maxRecDepth 100000 in
set_option maxHeartbeats 8000000 in
theorem unpack_any (p : Int) (aa : Option Addr) (n c : Nat) (l : List Int) (k : Nat) (w : World) (hw : Tb w) (hprm : PrmI p) (hp2 : p ≤ 500000003) (hI : Ints w (.slice aa n c) l) (hn : n ≤ 2048) (hk : k ≤ 100000) :
    Calls Tryd.prog 19 #[.int .i64 p, .slice aa n c, .int .i64 k] w fun e w' => ∃ r : List UInt8 × Int, e = two r ∧ UnpackS p l k r ∧ Below w.heap.size w w' := by
  have HV := Lib.hid (valid_any p w hw.whl (wf64 (by have := hprm.1; omega) (by omega)))
  rw [vB_true hprm (by omega)] at HV
  have hln : l.length = n := by
    obtain ⟨_, _, h, _⟩ := hI
    simp only [Value.slice.injEq] at h
    exact h.2.1.symm
  have HC := Lib.hid (count_any p k w hw (by omega))
  have hk0 : decide ((k : Int) < 0) = false := decide_eq_false (by omega)
  by_cases hcn : cnt p k = n
  · rw [hcn] at HC
    have HWD := Lib.hid (width_any p w hw)
    by_cases h0 : wdt p = 0
    · have hl8 : l.length = 8 * k := by rw [hln, ← hcn]; unfold cnt; rw [if_pos h0]
      have HR := Lib.hid (fromBits_any p aa n c l k w h0 hI hk hl8)
      rw [h0] at HWD
      clear hw hprm hcn h0 hl8 hln hI
      go_enter Tryd.func19, Tryd.ntmps19
      go_wp2_with fail
      refine HV.out.mono ?_
      rintro e w' ⟨rfl, rfl⟩
      go_wp2_with fail
      refine HC.out.mono ?_
      rintro e w' ⟨rfl, rfl⟩
      go_wp2_with fail
      refine HWD.out.mono ?_
      rintro e w' ⟨rfl, rfl⟩
      go_wp2_with fail
      refine HR.out.mono ?_
      rintro e w2 ⟨r, rfl, hr, hb⟩
      have HU := Lib.hid hr
      have HB := Lib.hid hb
      clear hr hb
      unfold two
      go_wp2
      go_ret2
      exact ⟨r, rfl, HU.out, HB.out⟩
    · have HR := Lib.hid (fromGroups_any p aa n c l k w hw h0 hI hk (by omega))
      obtain ⟨K, hK⟩ : ∃ K, wdt p = K := ⟨_, rfl⟩
      rw [hK] at HR HWD h0
      have q2 : decide ((0 : Int) < (K : Int)) = true := decide_eq_true (by omega)
      have q3 : 0 < K := by omega
      clear hw hprm hcn h0 hln hI hK
      go_enter Tryd.func19, Tryd.ntmps19
      go_wp2_with fail
      refine HV.out.mono ?_
      rintro e w' ⟨rfl, rfl⟩
      go_wp2_with fail
      refine HC.out.mono ?_
      rintro e w' ⟨rfl, rfl⟩
      go_wp2_with fail
      refine HWD.out.mono ?_
      rintro e w' ⟨rfl, rfl⟩
      go_wp2_with fail
      refine HR.out.mono ?_
      rintro e w2 ⟨r, rfl, hr, hb⟩
      have HU := Lib.hid hr
      have HB := Lib.hid hb
      clear hr hb
      unfold two
      go_wp2
      go_ret2
      exact ⟨r, rfl, HU.out, HB.out⟩
  · have HU := Lib.hid (unpack_len (p := p) (l := l) (n := k) (by omega))
    obtain ⟨C, hC⟩ : ∃ C, cnt p k = C := ⟨_, rfl⟩
    rw [hC] at HC hcn
    have q1 : ((C : Int) == (n : Int)) = false := by simp only [beq_eq_false_iff_ne]; omega
    have q2 : (C == n) = false := by simp only [beq_eq_false_iff_ne]; omega
    clear hw hprm hln hI hC
    go_enter Tryd.func19, Tryd.ntmps19
    go_wp2_with fail
    refine HV.out.mono ?_
    rintro e w' ⟨rfl, rfl⟩
    go_wp2_with fail
    refine HC.out.mono ?_
    rintro e w' ⟨rfl, rfl⟩
    go_wp2
    go_ret2
    exact ⟨([], 4), rfl, HU.out, Below.refl _ _⟩

theorem pk : Pk where
  pad s u w hs := pPad_any s u w (by omega)
  strip s w hs := (pStrip_any s w (by omega)).mono (by rintro e w' ⟨r, h1, h2, rfl⟩; exact ⟨r, h1, h2, Below.refl _ _⟩)
  packOk := packOk_any
  packLim := packLim_any
  unpack := unpack_any
  count p n w hw _ _ hn := count_any p n w hw (by omega)
  width p w hw _ _ := width_any p w hw
end Go.Proofs.YtadhmmklhhaagaaDoor
/-! The walks of layer 5's statements, with the program's contracts (pk, of KPrg) put in, as the frames ask for them. -/
namespace Go.Proofs.YtadhmmklhhaagaaDoor
open Go.RowKit
set_option linter.unusedVariables false

theorem packPads_walk (s : ByteArray) (u : Int) (z : Nat) (at_ by_ : Int) (w : World) (hw : Tb w) (hs : s.size ≤ 140737488355328) (hu : (Lit.int .i64 u).wf = true) (hz : z < 256) (ha : (Lit.int .i64 at_).wf = true) (hb : (Lit.int .i64 by_).wf = true) :
    Calls Tryd.prog 3 #[.string s, .int .i64 u, .int .u8 z, .int .i64 at_, .int .i64 by_] w fun e w' => e = .returned (.bool true) ∧ Below w.heap.size w w' :=
  packPads_walkF pk s u z at_ by_ w hw hs hz
theorem packLimits_walk (v : Value) (t : List Int) (m : Nat) (w : World) (hw : Tb w) (hv : Ints w v t) (hm : m < 256) :
    Calls Tryd.prog 4 #[v, .int .u8 m] w fun e w' => e = .returned (.bool true) ∧ Below w.heap.size w w' :=
  packLimits_walkF pk v t m w hw hv hm
theorem packBack_walk (v : Value) (t : List Int) (s : ByteArray) (n : Nat) (w : World) (hw : Tb w) (hv : Ints w v t) (hs : s.size ≤ 140737488355328) (hn : n < 256) :
    Calls Tryd.prog 5 #[v, .string s, .int .u8 n] w fun e w' => e = .returned (.bool true) ∧ Below w.heap.size w w' :=
  packBack_walkF pk v t s n w hw hv hs hn
theorem packHides_walk (a b : ByteArray) (n : Nat) (w : World) (hw : Tb w) (ha : a.size ≤ 140737488355328) (hb : b.size ≤ 140737488355328) (hn : n < 256) :
    Calls Tryd.prog 6 #[.string a, .string b, .int .u8 n] w fun e w' => e = .returned (.bool true) ∧ Below w.heap.size w w' :=
  packHides_walkF pk a b n w hw ha hb hn
end Go.Proofs.YtadhmmklhhaagaaDoor
