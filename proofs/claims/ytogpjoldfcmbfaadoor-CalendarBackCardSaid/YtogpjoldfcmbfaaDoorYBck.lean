
/- The walk of CalendarBack. -/
import Derived.Test.YtogpjoldfcmbfaaDoorYLaw
import Derived.Test.YtogpjoldfcmbfaaDoorYPaq
namespace Go.Proofs.YtogpjoldfcmbfaaDoor
open Go.RowKit Go.Sort Go.Shelf
open Cal
set_option linter.unusedVariables false

/-- The day behind a day: the next one of its month, or the first one of the next month. -/
theorem next_day {k : Int} (h : dayB k = true) (h2 : dayB (k + 1) = true) : (dY (k + 1) = dY k ∧ dM (k + 1) = dM k ∧ dD (k + 1) = dD k + 1) ∨ (dD (k + 1) = 1 ∧ ((dY (k + 1) = dY k ∧ dM (k + 1) = dM k + 1) ∨ (dY (k + 1) = dY k + 1 ∧ dM (k + 1) = 1 ∧ dM k = 12))) := by
  have hd := isDate_d h
  have hr := (dayB_iff _).1 h2
  have hn := next_ok hd (by omega)
  obtain ⟨e1, e2, e3⟩ := d_of_isDate hn
  rw [e1, e2, e3, next_eq]
  have := hd.m2
  split
  · exact .inl ⟨rfl, rfl, rfl⟩
  · right
    split
    · exact ⟨rfl, .inl ⟨rfl, rfl⟩⟩
    · exact ⟨rfl, .inr ⟨rfl, rfl, by omega⟩⟩

set_option maxRecDepth 100000 in
set_option maxHeartbeats 8000000 in
theorem calendarBack_walk (n : Int) (w : World) (hw : Txp w) (wn : (Lit.int .i64 n).wf = true) :
    Calls Tryd.prog 6 #[.int .i64 n] w fun e w' => e = .returned (.bool true) ∧ Below w.heap.size w w' := by
  obtain ⟨k, ka, kb, _, N1⟩ := mod_q n 3652058 (by omega) (by omega)
  have HW := Lib.hid hw
  have hk : dayB k = true := (dayB_iff k).2 ⟨ka, by omega⟩
  have hk1 : dayB (k + 1) = true := (dayB_iff _).2 ⟨by omega, by omega⟩
  have hnx := next_day hk hk1
  have hd := isDate_d hk
  have D1 := Lib.hid (date_any k w hw.1.1)
  have D2 : Hid (∀ w, Lens w → Calls Tryd.prog 14 #[.int .i64 (k + 1)] w fun e w' => e = .returned (.tuple #[.int .i64 (dY (k + 1)), .int .i64 (dM (k + 1)), .int .i64 (dD (k + 1)), .int .i64 0]) ∧ Below w.heap.size w w') := fun w hw => by
    have := date_any (k + 1) w hw
    rwa [show dE 2 (k + 1) = 0 by unfold dE; rw [if_pos hk1]] at this
  rw [show dE 2 k = 0 by unfold dE; rw [if_pos hk]] at D1
  have DA : Hid (∀ w, Lens w → Calls Tryd.prog 10 #[.int .i64 (dY k), .int .i64 (dM k), .int .i64 (dD k)] w fun e w' => e = .returned (.tuple #[.int .i64 k, .int .i64 0]) ∧ w = w') := fun w hw => by
    have := day_any (dY k) (dM k) (dD k) w hw
    rwa [hd.v, show dayE 10 (dY k) (dM k) (dD k) = 0 by unfold dayE; rw [if_pos hd.ok]] at this
  have TX : Hid (∀ w, Txs w → Calls Tryd.prog 17 #[.int .i64 k] w fun e w' => e = .returned (.tuple #[.string ⟨(textL k).toArray⟩, .int .i64 0]) ∧ Below w.heap.size w w') := fun w hw => by
    have := text_any k w hw
    rwa [show dE 2 k = 0 by unfold dE; rw [if_pos hk]] at this
  obtain ⟨b1, b2, b3⟩ := text_back hk
  have PA : Hid (∀ w, Txp w → Calls Tryd.prog 20 #[.string ⟨(textL k).toArray⟩] w fun e w' => e = .returned (.tuple #[.int .i64 k, .int .i64 0]) ∧ Below w.heap.size w w') := fun w hw => by
    have := parse_any ⟨(textL k).toArray⟩ w hw
    rwa [show (⟨(textL k).toArray⟩ : ByteArray).data.toList = textL k from rfl, b1, b2] at this
  have hz : (⟨(textL k).toArray⟩ : ByteArray).size = 10 := by rw [str_size, b3]
  have r1 := hd.y1; have r2 := hd.y2; have r3 := hd.m1; have r4 := hd.m2; have r5 := hd.d1
  have r6 : dD k ≤ 31 := by have := hd.d2; have := len_range (dY k) (dM k); omega
  generalize (⟨(textL k).toArray⟩ : ByteArray) = S at *
  generalize dY (k + 1) = Y2 at *
  generalize dM (k + 1) = M2 at *
  generalize dD (k + 1) = E2 at *
  generalize dY k = Y at *
  generalize dM k = M at *
  generalize dD k = E at *
  have q1 := neq_self k
  have hz10 : ((S.size : Int) != 10) = false := by simp only [bne_eq_false_iff_eq]; omega
  clear hw wn hk hk1 hd b1 b2 b3
  go_enter Tryd.func6, Tryd.ntmps6
  go_wp2_with fail
  refine (N1.out _).mono ?_
  rintro e w' ⟨rfl, rfl⟩
  go_wp2_with fail
  refine D1.out.mono ?_
  rintro e w1 ⟨rfl, hb⟩
  have HB1 := Lib.hid hb
  have HW1 := Lib.hid (HW.out.below hb)
  clear hb D1
  go_wp2_with fail
  refine (DA.out w1 HW1.out.1.1).mono ?_
  rintro e w' ⟨rfl, rfl⟩
  clear DA
  go_wp2_with fail
  refine (D2.out w1 HW1.out.1.1).mono ?_
  rintro e w2 ⟨rfl, hb⟩
  have HB2 := Lib.hid (HB1.out.trans (hb.mono HB1.out.size))
  have HW2 := Lib.hid (HW1.out.below hb)
  clear hb D2 HB1 HW1
  go_wp2_with fail
  refine (TX.out w2 HW2.out.1).mono ?_
  rintro e w3 ⟨rfl, hb⟩
  have HB3 := Lib.hid (HB2.out.trans (hb.mono HB2.out.size))
  have HW3 := Lib.hid (HW2.out.below hb)
  clear hb TX HB2 HW2
  go_wp2_with fail
  refine (PA.out w3 HW3.out).mono ?_
  rintro e w4 ⟨rfl, hb⟩
  have HB4 := Lib.hid (HB3.out.trans (hb.mono HB3.out.size))
  have HW4 := Lib.hid (HW3.out.below hb)
  clear hb PA HB3 HW3
  have AW := Lib.hid (awake10_any w4 HW4.out.1.1)
  clear HW4 HW N1
  rcases hnx with ⟨rfl, rfl, rfl⟩ | ⟨rfl, ⟨rfl, rfl⟩ | ⟨rfl, rfl, rfl⟩⟩
  · have t1 : (Y2 == Y2) = true := by simp
    have t2 : (M2 == M2) = true := by simp
    have t3 : (E + 1 == E + 1) = true := by simp
    go_wp2_with fail
    refine AW.out.mono ?_
    rintro e w' ⟨rfl, rfl⟩
    go_wp2
    go_ret
    exact ⟨by first | rfl | exact ret_bool (by simp), HB4.out⟩
  · have t1 : (Y2 == Y2) = true := by simp
    have t2 : (M + 1 == M) = false := by simp only [beq_eq_false_iff_ne]; omega
    have t3 : (M + 1 == M + 1) = true := by simp
    go_wp2_with fail
    refine AW.out.mono ?_
    rintro e w' ⟨rfl, rfl⟩
    go_wp2
    go_ret
    exact ⟨by first | rfl | exact ret_bool (by simp), HB4.out⟩
  · have t1 : (Y + 1 == Y) = false := by simp only [beq_eq_false_iff_ne]; omega
    have t2 : (Y + 1 == Y + 1) = true := by simp
    go_wp2_with fail
    refine AW.out.mono ?_
    rintro e w' ⟨rfl, rfl⟩
    go_wp2
    go_ret
    exact ⟨by first | rfl | exact ret_bool (by simp), HB4.out⟩
end Go.Proofs.YtogpjoldfcmbfaaDoor
