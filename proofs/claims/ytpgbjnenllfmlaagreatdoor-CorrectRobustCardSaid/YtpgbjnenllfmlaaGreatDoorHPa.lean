
/- The program's Valid and Random, and which lists are of elements. -/
import Derived.Test.YtpgbjnenllfmlaaGreatDoorHShr
namespace Go.Proofs.YtpgbjnenllfmlaaGreatDoor
open Go.RowKit
open Num
set_option linter.unusedVariables false

set_option maxRecDepth 100000 in
set_option maxHeartbeats 4000000 in
theorem share_valid (p k n : Int) (w : World) (hw : Wheel w) (hp : (Lit.int .i64 p).wf = true) :
    Calls Tryz.prog 53 #[planV p k n] w fun e w' => e = .returned (.bool (planB p k n)) ∧ Below w.heap.size w w' := by
  unfold planV
  have HB : Hid (Below w.heap.size w (w.alloc (Obj.cells #[Value.int IntKind.i64 p, Value.int IntKind.i64 k, Value.int IntKind.i64 n] 31))) := (Below.refl _ _).alloc (Nat.le_refl _) _
  have HV := Lib.hid (valid_any p _ (hw.below hw.size HB.out) hp)
  obtain ⟨b1, h1⟩ : ∃ b, vB p = b := ⟨_, rfl⟩
  obtain ⟨b2, h2⟩ : ∃ b, decide (k < 1) = b := ⟨_, rfl⟩
  obtain ⟨b3, h3⟩ : ∃ b, decide (n < k) = b := ⟨_, rfl⟩
  obtain ⟨b4, h4⟩ : ∃ b, decide (n ≤ 16) = b := ⟨_, rfl⟩
  obtain ⟨b5, h5⟩ : ∃ b, decide (n < p) = b := ⟨_, rfl⟩
  have HE : Hid (planB p k n = (b1 && !b2 && !b3 && b4 && b5)) := by
    show _ = _
    unfold planB
    rw [h1, ← h2, ← h3, h4, h5, show decide (1 ≤ k) = !decide (k < 1) by rw [← decide_not]; congr 1; simp only [eq_iff_iff]; omega, show decide (k ≤ n) = !decide (n < k) by rw [← decide_not]; congr 1; simp only [eq_iff_iff]; omega]
  rw [HE.out]
  rw [h1] at HV
  clear h1 hp HE hw
  go_enter Tryz.func53, Tryz.ntmps53
  cases b2
  case true =>
    go_wp2
    go_ret
    exact ⟨by simp, HB.out⟩
  cases b3
  case true =>
    go_wp2
    go_ret
    exact ⟨by simp, HB.out⟩
  cases b4
  · go_wp2
    go_ret
    exact ⟨by simp, HB.out⟩
  cases b5
  · go_wp2
    go_ret
    exact ⟨by simp, HB.out⟩
  go_wp2_with fail
  refine HV.out.mono ?_
  rintro e w' ⟨rfl, rfl⟩
  go_wp2
  go_ret
  exact ⟨by simp, HB.out⟩

theorem mod_ne {p x : Int} (hp : 1 ≤ p) (h : ¬ (0 ≤ x ∧ x < p)) : x % p ≠ x := fun e => by
  have h1 := Int.emod_nonneg x (show p ≠ 0 by omega)
  have h2 := Int.emod_lt_of_pos x (show 0 < p by omega)
  omega

set_option maxHeartbeats 400000 in
theorem share_elements (p : Int) (s : Value) (l : List Int) (w : World) (hp : PrmI p) (hp2 : p ≤ 1073741824) (hs : Ints w s l) :
    Calls Tryz.prog 98 #[.int .i64 p, s] w fun e w' => e = .returned (.bool (elB p l)) ∧ w = w' := by
  have hp1 : 1 ≤ p := by have := hp.1; omega
  have HPR := Lib.hid hp
  obtain ⟨a, c, rfl, hlen, hcell⟩ := hs
  have HGd : Hid ((∀ k, k < l.length → 0 ≤ l.getD k 0 ∧ l.getD k 0 < p) → elB p l = true) := fun h => by
    rw [elB_good h]; unfold vB; simp [HPR.out, hp2]
  clear hp
  go_enter Tryz.func98, Tryz.ntmps98
  go_wp2
  go_loop [6, 9] (fun _ i => ∃ k : Nat, k ≤ l.length ∧ Hid (∀ j, j < k → 0 ≤ l.getD j 0 ∧ l.getD j 0 < p) ∧ i = .int .i64 k) (fun _ i => l.length - (intOf i).toNat)
  case atStart => exact ⟨0, by omega, fun j hj => by omega, rfl⟩
  case round =>
    obtain ⟨k, hk, hok, rfl⟩ := hrel
    by_cases hlt : k < l.length
    · obtain ⟨b, off, rfl, hc⟩ := hcell (fun e => by subst e; simp at hlt)
      have hc' := hc k hlt
      clear hc
      by_cases h1 : 0 ≤ l.getD k 0 ∧ l.getD k 0 < p
      · have Hr : Hid (∀ j, j < k + 1 → 0 ≤ l.getD j 0 ∧ l.getD j 0 < p) := fun j hj => by
          by_cases e : j = k
          · subst e; exact h1
          · exact hok.out j (by omega)
        have he : l.getD k 0 % p = l.getD k 0 := Int.emod_eq_of_lt h1.1 h1.2
        generalize l.getD k 0 = x at *
        have n1 : (x != x) = false := by simp
        have n2 : (x == x) = true := by simp
        have HC := Lib.hid (fun w => element_any p x w hp1 hp2)
        rw [he] at HC
        clear h1 he
        go_wp2_with fail
        refine (HC.out _).mono ?_
        rintro e w' ⟨rfl, rfl⟩
        go_wp2
        go_round
        case rel => exact ⟨k + 1, by omega, Hr, by go_num⟩
        case measure => simp [intOf]; omega
      · have Hr := Lib.hid (elB_bad (p := p) hlt h1)
        have he := mod_ne hp1 h1
        generalize l.getD k 0 = x at *
        have HC := Lib.hid (fun w => element_any p x w hp1 hp2)
        obtain ⟨y, hy⟩ : ∃ y, x % p = y := ⟨_, rfl⟩
        rw [hy] at HC he
        have n1 : (y != x) = true := by simp only [bne_iff_ne]; exact he
        have n2 : (y == x) = false := by simp only [beq_eq_false_iff_ne]; exact he
        clear h1 he hy
        go_wp2_with fail
        refine (HC.out _).mono ?_
        rintro e w' ⟨rfl, rfl⟩
        go_wp2
        go_ret
        exact ⟨ret_bool Hr.out.symm, rfl⟩
    · have Hr := Lib.hid (HGd.out fun j hj => hok.out j (by omega))
      clear hcell
      go_wp2
      go_ret
      exact ⟨ret_bool Hr.out.symm, rfl⟩

set_option maxRecDepth 100000 in
set_option maxHeartbeats 4000000 in
theorem share_stands (p k n h : Int) (v : Value) (l : List Int) (w : World) (hp : PrmI p) (hp2 : p ≤ 1073741824) (hI : Ints w v l) :
    Calls Tryz.prog 80 #[planV p k n, shareV h v] w fun e w' => e = .returned (.bool (stB p n (h, l))) ∧ Below w.heap.size w w' := by
  unfold planV shareV
  obtain ⟨b1, h1⟩ : ∃ b, decide (1 ≤ h) = b := ⟨_, rfl⟩
  obtain ⟨b2, h2⟩ : ∃ b, decide (h ≤ n) = b := ⟨_, rfl⟩
  have HB : Hid (Below w.heap.size w ((w.alloc (Obj.cells #[Value.int IntKind.i64 p, Value.int IntKind.i64 k, Value.int IntKind.i64 n] 31)).alloc (Obj.cells #[Value.int IntKind.i64 h, v] 42))) := ((Below.refl _ _).alloc (Nat.le_refl _) _).alloc (by simp) _
  have HV := Lib.hid (share_elements p v l _ hp hp2 (hI.below (Nat.le_refl _) HB.out))
  have HE : Hid (stB p n (h, l) = (b1 && b2 && elB p l)) := by show _ = _; unfold stB; rw [h1, h2]
  rw [HE.out]
  clear hI hp HE
  go_enter Tryz.func80, Tryz.ntmps80
  cases b1
  · go_wp2
    go_ret
    exact ⟨rfl, HB.out⟩
  cases b2
  · go_wp2
    go_ret
    exact ⟨rfl, HB.out⟩
  go_wp2_with fail
  refine HV.out.mono ?_
  rintro e w' ⟨rfl, rfl⟩
  go_wp2
  go_ret
  exact ⟨by simp, HB.out⟩
end Go.Proofs.YtpgbjnenllfmlaaGreatDoor
