
/- The walk of CalendarOrder. -/
import Derived.Test.YtogpjoldfcmbfaaDoorYLaw
import Derived.Test.YtogpjoldfcmbfaaDoorYPas
import Derived.Test.YtogpjoldfcmbfaaDoorYMt2
namespace Go.Proofs.YtogpjoldfcmbfaaDoor
open Go.RowKit Go.Sort Go.Shelf
open Cal
set_option linter.unusedVariables false

theorem wf_u8 {a : Int} (h : (Lit.int .u8 a).wf = true) : ∃ n : Nat, a = n ∧ n < 256 := by
  simp [Lit.wf, IntKind.min, IntKind.max, IntKind.signed, IntKind.bits] at h
  exact ⟨a.toNat, by omega, by omega⟩
theorem end_str {x : Int} (h : dayB x = true) (hm : dM x = 2) (hd : dD x = 29) (W : World) : (Instr.slice 9 (.string ⟨(textL x).toArray⟩) (some (.int .i64 5)) none none).run Tryd.prog W = .ok (.string ⟨#[48, 50, 45, 50, 57]⟩) W := by
  have hz : (⟨(textL x).toArray⟩ : ByteArray).size = 10 := by rw [str_size, (text_back h).2.2]
  have := slice_from ⟨(textL x).toArray⟩ 5 (by omega) W
  have e : (⟨(textL x).toArray⟩ : ByteArray).extract 5 (⟨(textL x).toArray⟩ : ByteArray).size = ⟨#[48, 50, 45, 50, 57]⟩ := by
    apply ByteArray.ext
    apply Array.toList_inj.1
    rw [ext_list, hz]
    show ((textL x).drop 5).take (10 - 5) = [48, 50, 45, 50, 57]
    rw [text_end h hm hd]; rfl
  rw [e] at this
  exact this

set_option maxRecDepth 100000 in
set_option maxHeartbeats 8000000 in
theorem calendarOrder_walk (a b : Int) (u : Nat) (w : World) (hw : Txs w) (wa : (Lit.int .i64 a).wf = true) (wb : (Lit.int .i64 b).wf = true) (wu : u < 256) :
    Calls Tryd.prog 8 #[.int .i64 a, .int .i64 b, .int .u8 u] w fun e w' => e = .returned (.bool true) ∧ Below w.heap.size w w' := by
  obtain ⟨x, xa, xb, _, X⟩ := mod_q a 3652059 (by omega) (by omega)
  obtain ⟨y, ya, yb, _, Y⟩ := mod_q b 3652059 (by omega) (by omega)
  obtain ⟨k, hk, hk2⟩ : ∃ k : Nat, ((u : Int)).tmod 50 = (k : Int) ∧ k ≤ 49 := ⟨u % 50, by rw [Int.tmod_eq_emod_of_nonneg (by omega)]; omega, by omega⟩
  have HW := Lib.hid hw
  have hx : dayB x = true := (dayB_iff x).2 ⟨xa, by omega⟩
  have hy : dayB y = true := (dayB_iff y).2 ⟨ya, by omega⟩
  have TX : Hid (∀ w, Txs w → Calls Tryd.prog 17 #[.int .i64 x] w fun e w' => e = .returned (.tuple #[.string ⟨(textL x).toArray⟩, .int .i64 0]) ∧ Below w.heap.size w w') := fun w hw => by
    have := text_any x w hw
    rwa [show dE 2 x = 0 by unfold dE; rw [if_pos hx]] at this
  have TY : Hid (∀ w, Txs w → Calls Tryd.prog 17 #[.int .i64 y] w fun e w' => e = .returned (.tuple #[.string ⟨(textL y).toArray⟩, .int .i64 0]) ∧ Below w.heap.size w w') := fun w hw => by
    have := text_any y w hw
    rwa [show dE 2 y = 0 by unfold dE; rw [if_pos hy]] at this
  have hls : Op.bytesLess (⟨(textL x).toArray⟩ : ByteArray).toList (⟨(textL y).toArray⟩ : ByteArray).toList = decide (x < y) := by
    rw [ByteArray.toList_eq, ByteArray.toList_eq]
    exact text_less hx hy
  have AD : Hid (∀ w, Lens w → Calls Tryd.prog 22 #[.int .i64 x, .int .i64 (k : Int)] w fun e w' => e = .returned (.tuple #[.int .i64 (addV x k), .int .i64 (addE 2 10 x k)]) ∧ Below w.heap.size w w') := fun w hw => add_days x k w hw
  have hend := fun (hm : dM x = 2) (hd : dD x = 29) => end_str hx hm hd
  have HCASE : Hid ((addE 2 10 x k = 10 ∧ 3633758 < x) ∨ (addE 2 10 x k = 0 ∧ ∃ z, (∀ w, Lens w → Calls Tryd.prog 22 #[.int .i64 (addV x k), .int .i64 (-(k : Int))] w fun e w' => e = .returned (.tuple #[.int .i64 z, .int .i64 0]) ∧ Below w.heap.size w w') ∧
      (z = x ∨ (z = x - 1 ∧ ∀ W, (Instr.slice 9 (.string ⟨(textL x).toArray⟩) (some (.int .i64 5)) none none).run Tryd.prog W = .ok (.string ⟨#[48, 50, 45, 50, 57]⟩) W)))) := by
    show _ ∨ _
    by_cases hq : dY x + (k : Int) ≤ 9999
    · right
      obtain ⟨f1, f2⟩ := add_back k hx (by omega) hq
      refine ⟨(add_in hx (by omega) (by omega) (by have := (isDate_d hx).y1; omega) hq).1, addV (addV x k) (-(k : Int)), fun w hw => ?_, ?_⟩
      · have := add_days (addV x k) (-(k : Int)) w hw
        rwa [f1] at this
      · rcases f2 with h | ⟨h, hm, hd⟩
        · exact .inl h
        · exact .inr ⟨h, hend hm hd⟩
    · left
      have := late hx k (by omega)
      exact ⟨(add_out hx (by omega) (by omega) (by omega)).1, by omega⟩
  generalize (⟨(textL x).toArray⟩ : ByteArray) = S at *
  generalize (⟨(textL y).toArray⟩ : ByteArray) = U at *
  generalize addE 2 10 x k = ee at *
  generalize addV x k = v at *
  have q1 := neqb_self (decide (x < y))
  clear hx hy hw wa wb hend
  go_enter Tryd.func8, Tryd.ntmps8
  go_wp2_with fail
  refine (X.out _).mono ?_
  rintro e w' ⟨rfl, rfl⟩
  go_wp2_with fail
  refine (Y.out _).mono ?_
  rintro e w' ⟨rfl, rfl⟩
  go_wp2_with fail
  refine (TX.out w HW.out).mono ?_
  rintro e w1 ⟨rfl, hb⟩
  have HB1 := Lib.hid hb
  have HW1 := Lib.hid (HW.out.below hb)
  clear hb TX X Y
  go_wp2_with fail
  refine (TY.out w1 HW1.out).mono ?_
  rintro e w2 ⟨rfl, hb⟩
  have HB2 := Lib.hid (HB1.out.trans (hb.mono HB1.out.size))
  have HW2 := Lib.hid (HW1.out.below hb)
  clear hb TY HB1 HW1
  go_wp2_with fail
  refine (AD.out w2 HW2.out.1).mono ?_
  rintro e w3 ⟨rfl, hb⟩
  have HB3 := Lib.hid (HB2.out.trans (hb.mono HB2.out.size))
  have HW3 := Lib.hid (HW2.out.below hb)
  clear hb AD HB2 HW2
  rcases HCASE.out with ⟨rfl, hl⟩ | ⟨rfl, z, hz, hzz⟩
  · have AW := Lib.hid (awake10_any w3 HW3.out.1)
    clear HCASE HW HW3
    go_wp2_with fail
    refine AW.out.mono ?_
    rintro e w' ⟨rfl, rfl⟩
    go_wp2
    go_ret
    exact ⟨by first | rfl | exact ret_bool (by simp), HB3.out⟩
  · have HZ := Lib.hid hz
    clear HCASE hz
    go_wp2_with fail
    refine (HZ.out w3 HW3.out.1).mono ?_
    rintro e w4 ⟨rfl, hb⟩
    have HB4 := Lib.hid (HB3.out.trans (hb.mono HB3.out.size))
    have HW4 := Lib.hid (HW3.out.below hb)
    clear hb HZ HB3 HW3
    have AW := Lib.hid (awake10_any w4 HW4.out.1)
    clear HW HW4
    rcases hzz with rfl | ⟨rfl, hsl⟩
    · have t1 : (z == z) = true := by simp
      go_wp2_with fail
      refine AW.out.mono ?_
      rintro e w' ⟨rfl, rfl⟩
      go_wp2
      go_ret
      exact ⟨by first | rfl | exact ret_bool (by simp), HB4.out⟩
    · have t1 : (x - 1 == x) = false := by simp only [beq_eq_false_iff_ne]; omega
      have t2 : (x - 1 == x - 1) = true := by simp
      go_wp2_with fail
      refine AW.out.mono ?_
      rintro e w' ⟨rfl, rfl⟩
      go_wp2
      go_ret
      exact ⟨by first | rfl | exact ret_bool (by simp), HB4.out⟩
end Go.Proofs.YtogpjoldfcmbfaaDoor
