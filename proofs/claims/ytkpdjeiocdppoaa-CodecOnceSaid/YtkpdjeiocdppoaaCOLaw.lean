
/- The walk of CodecOnce. -/
import Derived.Test.YtkpdjeiocdppoaaCAwk
import Derived.Test.YtkpdjeiocdppoaaVMa
import Derived.Test.YtkpdjeiocdppoaaPow
import Derived.Test.YtkpdjeiocdppoaaRound
import Derived.BigQuiet
import Derived.Lib.QuietBelow
namespace Go.Proofs.Ytkpdjeiocdppoaa
open Go.RowKit
open Go.Sort (grow)
set_option linter.unusedVariables false

theorem awake4_grown (w : World) (d : Nat) (os : Array Obj) : Calls Try.prog 9 #[] (grow (redrawn w d) os) fun e w'' => e = .returned (.bool true) ∧ ∃ p : Regrown, w'' = grow (redrawn w p.d) p.os :=
  Calls.regrown_of (awake4_any _)
theorem put_grown (r : ByteArray) (n : Int) (hn : in64 n) (hr : (⟨(Vi.grp (Vi.zz n)).toArray⟩ : ByteArray) = r) (w : World) (d : Nat) (os : Array Obj) : Calls Try.prog 10 #[.string ⟨#[]⟩, .int .i64 n] (grow (redrawn w d) os) fun e w'' => e = .returned (.string r) ∧ ∃ p : Regrown, w'' = grow (redrawn w p.d) p.os := by
  refine Calls.regrown_of ?_
  have h := putInt_any ⟨#[]⟩ n (grow (redrawn w d) os) (by decide) hn
  subst hr
  exact h

set_option maxRecDepth 100000 in
set_option maxHeartbeats 8000000 in
theorem codecOnce_walk (b : ByteArray) (at_ : Int) (w : World) (hb : b.size ≤ 140737488355328) (ha : in64 at_) :
    Calls Try.prog 6 #[.string b, .int .i64 at_] w fun e w' => e = .returned (.bool true) ∧ Below w.heap.size w w' := by
  have cA := awake4_grown w
  by_cases hl : b.size ≤ 100
  · obtain ⟨N, hN⟩ : ∃ N, b.size = N := ⟨_, rfl⟩
    have hl' : decide ((100 : Int) < (N : Int)) = false := decide_eq_false (by omega)
    have hw1 : IntKind.i64.wrap ((N : Int) + 1) = (N : Int) + 1 := by rw [IntKind.wrap_i64]; omega
    have HM := Lib.hid (mod_any at_ ((N : Int) + 1) w (by omega) (by omega))
    obtain ⟨p, hp⟩ : ∃ p : Nat, at_ % ((N : Int) + 1) = (p : Int) := ⟨(at_ % ((N : Int) + 1)).toNat, by
      have := Int.emod_nonneg at_ (show (N : Int) + 1 ≠ 0 by omega)
      omega⟩
    have hpN : p ≤ N := by
      have := Int.emod_lt_of_pos at_ (show 0 < (N : Int) + 1 by omega)
      omega
    rw [hp] at HM
    have hbl : b.data.toList.length = N := by rw [← Lib.size_eq]; exact hN
    have HI := int_any b (p : Int) w (by omega)
    by_cases he : (intR b.data.toList (p : Int)).2.2 = 0
    · obtain ⟨q, hq, hpq, hqN, h64, hg⟩ := intR_once b.data.toList p (by omega) he
      rw [hbl] at hqN
      have hcut := cut_toList b p (q - p)
      rw [hg, show p + (q - p) = q by omega] at hcut
      unfold tri at HI
      rw [hq, he] at HI
      generalize (intR b.data.toList (p : Int)).1 = n at *
      have HI := Lib.hid HI
      have cP := put_grown _ n h64 hcut w
      have c1 : decide (p < q) = true := decide_eq_true hpq
      have c2 : decide ((p : Int) < (q : Int)) = true := decide_eq_true (by omega)
      have c3 : decide ((q : Int) ≤ (N : Int)) = true := decide_eq_true (by omega)
      have c4 : ((p : Int)).toNat = p := Int.toNat_natCast p
      have c5 : ((q : Int)).toNat = q := Int.toNat_natCast q
      have c6 : (p : Int) ≤ (q : Int) := by omega
      have c7 : (q : Int) ≤ (N : Int) := by omega
      clear hl he hq hg h64 hcut hp
      go_enter Try.func6, Try.ntmps6
      go_wp2_with (refine HM.out.mono ?_; rintro e w1 ⟨rfl, rfl⟩)
      refine HI.out.mono ?_
      rintro e w1 ⟨rfl, rfl⟩
      go_wp2
      refine wp_region_quiet_below (by kernel_rfl) (by kernel_rfl) ?_
      repeat (go_big_quiet_step (first | with_reducible exact cP _ _ | with_reducible exact cA _ _))
      refine wpQuiet_nil ?_
      intro _ hw'
      obtain ⟨⟨dq, osq⟩, hw''⟩ := hw'
      subst hw''
      have HBQ := Lib.hid (below_regrown w dq osq)
      clear cP cA
      generalize grow (redrawn w dq) osq = w4 at *
      go_wp2
      go_ret
      exact ⟨rfl, HBQ.out⟩
    · obtain ⟨h1, h2⟩ := intR_err _ _ he
      unfold tri at HI
      rw [h1, h2] at HI
      generalize (intR b.data.toList (p : Int)).2.2 = e at *
      have HI := Lib.hid HI
      have c1 : (e != 0) = true := by simpa using he
      clear hl he h1 h2 hp
      go_enter Try.func6, Try.ntmps6
      go_wp2_with (refine HM.out.mono ?_; rintro e w1 ⟨rfl, rfl⟩)
      refine HI.out.mono ?_
      rintro e w1 ⟨rfl, rfl⟩
      go_wp2_with fail
      refine (awake4_any _).mono ?_
      rintro e w1 ⟨rfl, hb1⟩
      have HB1 := Lib.hid hb1
      clear hb1
      go_wp2
      go_ret
      exact ⟨rfl, HB1.out⟩
  · have hl' : decide ((100 : Int) < (b.size : Int)) = true := decide_eq_true (by omega)
    clear hl
    go_enter Try.func6, Try.ntmps6
    go_wp2_with fail
    refine (awake4_any w).mono ?_
    rintro e w1 ⟨rfl, hb1⟩
    have HB1 := Lib.hid hb1
    clear hb1
    go_wp2
    go_ret
    exact ⟨rfl, HB1.out⟩
end Go.Proofs.Ytkpdjeiocdppoaa
