
/- The program's package reshare: Move, for any arguments. -/
import Derived.Test.YtgenollnnfljkaaDoorZPr6
namespace Go.Proofs.YtgenollnnfljkaaDoor
open Go.RowKit Go.Sort
open Num
set_option linter.unusedVariables false

theorem moveE_chk {p k n p2 k2 n2 : Int} {L : List Shr} {RR : List (List Int)} (h : chkE p k n p2 k2 n2 L RR.length ≠ 0) : moveE p k n p2 k2 n2 L RR = chkE p k n p2 k2 n2 L RR.length ∧ moveR p k n p2 k2 n2 L RR = [] := by
  have e : moveE p k n p2 k2 n2 L RR = chkE p k n p2 k2 n2 L RR.length := by
    unfold moveE
    unfold chkE at h ⊢
    by_cases h1 : combE p k n L = 0
    · rw [if_pos h1] at h ⊢
      rw [if_pos h1]
      by_cases h2 : relB p k n p2 k2 n2 = true
      · rw [if_pos h2] at h ⊢
        rw [if_pos h2]
        by_cases h3 : (RR.length : Int) < k
        · rw [if_pos h3, if_pos h3]
        · rw [if_neg h3] at h; exact absurd rfl h
      · rw [if_neg h2, if_neg h2]
    · rw [if_neg h1, if_neg h1]
  exact ⟨e, by unfold moveR; rw [if_neg (by rw [e]; exact h)]⟩
/-- What is known when nothing is wrong ahead of the Splits. -/
theorem chkE_parts {p k n p2 k2 n2 : Int} {L : List Shr} {RR : List (List Int)} (h : chkE p k n p2 k2 n2 L RR.length = 0) : p = p2 ∧ planB p k n = true ∧ planB p2 k2 n2 = true ∧ goodB p n L = true ∧ k ≤ (L.length : Int) ∧ k ≤ (RR.length : Int) ∧ moveE p k n p2 k2 n2 L RR = splitsE p k n p2 k2 n2 L RR k.toNat := by
  unfold chkE at h
  by_cases h1 : combE p k n L = 0
  · rw [if_pos h1] at h
    by_cases h2 : relB p k n p2 k2 n2 = true
    · rw [if_pos h2] at h
      by_cases h3 : (RR.length : Int) < k
      · rw [if_pos h3] at h; cases h
      · obtain ⟨r1, r2, r3⟩ := relB_parts h2
        have h4 := h1
        unfold combE at h4
        by_cases h5 : planB p k n = true ∧ goodB p n L = true
        · rw [if_pos h5] at h4
          by_cases h6 : (L.length : Int) < k
          · rw [if_pos h6] at h4; cases h4
          · refine ⟨r1, r2, r3, h5.2, by omega, by omega, ?_⟩
            unfold moveE
            rw [if_pos h1, if_pos h2, if_neg h3]
        · rw [if_neg h5] at h4; cases h4
    · rw [if_neg h2] at h; cases h
  · rw [if_neg h1] at h; exact absurd h h1
theorem reshare_move (p k n p2 k2 n2 : Int) (vl vr : Value) (L : List Shr) (RR : List (List Int)) (w : World) (hw : Wheel w) (hp : (Lit.int .i64 p).wf = true) (hp2 : (Lit.int .i64 p2).wf = true) (hs : Shares w vl L) (hr : ListsI w vr RR) (hRR : ∀ r ∈ RR, r.length ≤ 1000000) :
    Calls Tryd.prog 25 #[planV p k n, planV p2 k2 n2, vl, vr] w fun e w' => ∃ v', e = .returned (.tuple #[v', .int .i64 (moveE p k n p2 k2 n2 L RR)]) ∧ SharesN w' w.heap.size v' (moveR p k n p2 k2 n2 L RR) ∧ Below w.heap.size w w' := by
  by_cases hchk : chkE p k n p2 k2 n2 L RR.length = 0
  · obtain ⟨rfl, hpb, hpb2, hg, hkl, hkr, hE⟩ := chkE_parts hchk
    obtain ⟨q1, q2, q3, q4, q5, q6⟩ := planB_parts hpb
    obtain ⟨r1, r2, r3, r4, r5, r6⟩ := planB_parts hpb2
    obtain ⟨K, rfl⟩ := Int.eq_ofNat_of_zero_le (show 0 ≤ k by omega)
    obtain ⟨N, rfl⟩ := Int.eq_ofNat_of_zero_le (show 0 ≤ n by omega)
    obtain ⟨N2, rfl⟩ := Int.eq_ofNat_of_zero_le (show 0 ≤ n2 by omega)
    obtain ⟨K2, hK2⟩ := Int.eq_ofNat_of_zero_le (show 0 ≤ k2 - 1 by omega)
    obtain rfl : k2 = (K2 : Int) + 1 := by omega
    have hR : moveR p (K : Int) (N : Int) p ((K2 : Int) + 1) (N2 : Int) L RR = if splitsE p (K : Int) (N : Int) p ((K2 : Int) + 1) (N2 : Int) L RR K = 0 then rowL N2 (movV p K2 L RR K) else [] := by
      unfold moveR
      rw [hE, Int.toNat_natCast, Int.add_sub_cancel, Int.toNat_natCast, Int.toNat_natCast]
    rw [hR, hE, Int.toNat_natCast]
    exact reshare_move_go p (K : Int) (N : Int) ((K2 : Int) + 1) (N2 : Int) K N K2 N2 vl vr L RR w hw hp hs hr hRR hpb hpb2 rfl rfl rfl rfl hg (by omega) (by omega) hchk
  · obtain ⟨e1, e2⟩ := moveE_chk hchk
    rw [e1, e2]
    unfold planV
    obtain ⟨al, cl, rfl, hL1, _⟩ := id hs
    obtain ⟨ar, cr, rfl, hR1, _⟩ := id hr
    obtain ⟨A, hA⟩ : ∃ A, L.length = A := ⟨_, rfl⟩
    obtain ⟨M, hM⟩ : ∃ M, RR.length = M := ⟨_, rfl⟩
    obtain ⟨g, hgw⟩ : ∃ g, w.heap.size = g := ⟨_, rfl⟩
    obtain ⟨w1, hw1⟩ : ∃ w1, (w.alloc (Obj.cells #[Value.int IntKind.i64 p, Value.int IntKind.i64 k, Value.int IntKind.i64 n] 30)).alloc (Obj.cells #[Value.int IntKind.i64 p2, Value.int IntKind.i64 k2, Value.int IntKind.i64 n2] 30) = w1 := ⟨_, rfl⟩
    have HA0 : Hid (Pl2 w w1 g p k n p2 k2 n2) := by rw [← hw1, ← hgw]; exact pl2_new w hw _ _ _ _ _ _ _ _
    have HCM := Lib.hid (reshare_checkMove p k n p2 k2 n2 (.slice al L.length cl) L ar RR.length cr w1 HA0.out.wh hp hp2 (hs.below (Nat.le_of_eq hgw) HA0.out.be) hR1)
    unfold planV at HCM
    rw [hM] at hchk HCM ⊢
    rw [hA] at HCM ⊢
    obtain ⟨E, hE⟩ : ∃ E, chkE p k n p2 k2 n2 L M = E := ⟨_, rfl⟩
    rw [hE] at hchk HCM ⊢
    have n1 : (E != 0) = true := by simpa using hchk
    rw [hgw]
    clear hw hp hp2 hs hr hRR hchk hE e1 e2 hL1 hR1 hA hM
    obtain ⟨p0, p1, p2', q0, q1, q2⟩ := HA0.out.cells
    go_enter Tryd.func25, Tryd.ntmps25
    go_wp2_with fail
    refine HCM.out.mono ?_
    rintro e W1 ⟨rfl, hb⟩
    have HA1 := Lib.hid (HA0.out.below hb)
    clear hb p0 p1 p2' q0 q1 q2
    go_wp2
    go_ret2
    exact ⟨_, rfl, sharesN_nil _ _, HA1.out.be⟩
end Go.Proofs.YtgenollnnfljkaaDoor
