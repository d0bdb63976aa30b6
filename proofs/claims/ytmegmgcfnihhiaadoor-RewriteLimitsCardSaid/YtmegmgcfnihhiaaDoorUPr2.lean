
/- A step; which rules are valid. -/
import Derived.Test.YtmegmgcfnihhiaaDoorUPr1
namespace Go.Proofs.YtmegmgcfnihhiaaDoor
open Go.RowKit Go.Shelf
set_option linter.unusedVariables false
set_option linter.unusedSimpArgs false

theorem repl_len (r : Rul) (s : List UInt8) (i : Nat) : (replL r s i).length ≤ s.length + s.length + r.t.length := by
  unfold replL
  simp only [List.length_append, List.length_take, List.length_drop]
  omega

set_option maxRecDepth 100000 in
set_option maxHeartbeats 4000000 in
theorem step_any (r : Rul) (s : ByteArray) (i : Nat) (w : World) (hT : Tbw w) (hs : s.size ≤ 3000) (hi : i + r.f.length ≤ s.size) (hf : r.f.length ≤ 256) (ht : r.t.length ≤ 256) :
    Calls Tryd.prog 39 #[ruleV r, .string s, .int .i64 i] w fun e w' => e = .returned (.string ⟨(stepL r s.data.toList i).toArray⟩) ∧ Below w.heap.size w w' := by
  obtain ⟨f, t, p⟩ := r
  have hRA : ∀ W, Calls Tryd.prog 49 #[ruleV ⟨f, t, p⟩, .string s, .int .i64 i] W fun e w' => e = .returned (.string ⟨(replL ⟨f, t, p⟩ s.data.toList i).toArray⟩) ∧ Below W.heap.size W w' := fun W => replace_any ⟨f, t, p⟩ s i W (by omega) hi (by dsimp only at hf ⊢; omega) (by dsimp only at ht ⊢; omega)
  have hrl := repl_len ⟨f, t, p⟩ s.data.toList i
  rw [← Lib.size_eq] at hrl
  unfold ruleV at hRA ⊢
  dsimp only at hf ht hi hRA hrl ⊢
  obtain ⟨F, hF⟩ : ∃ F : ByteArray, (⟨f.toArray⟩ : ByteArray) = F := ⟨_, rfl⟩
  obtain ⟨U, hU⟩ : ∃ U : ByteArray, (⟨(replL ⟨f, t, p⟩ s.data.toList i).toArray⟩ : ByteArray) = U := ⟨_, rfl⟩
  have hUd : U.data.toList = replL ⟨f, t, p⟩ s.data.toList i := by rw [← hU]
  have hUz : U.size ≤ 1000000 := by rw [Lib.size_eq, hUd]; omega
  have hst : stepL ⟨f, t, p⟩ s.data.toList i = if againB ⟨f, t, p⟩ = true then foldL U.data.toList else U.data.toList := by unfold stepL; rw [hUd]
  rw [hst, hF]
  rw [hF, hU] at hRA
  have HRA := Lib.hid hRA
  obtain ⟨g, hg⟩ : ∃ g, w.heap.size = g := ⟨_, rfl⟩
  have HFO : Hid (∀ W, Below g w W → Calls Tryd.prog 10 #[.string U] W fun e w' => e = .returned (.string ⟨(foldL U.data.toList).toArray⟩) ∧ Below W.heap.size W w') := fun W hW => fold_any U W (hT.below (by rw [hg]; exact hW)) hUz
  clear hF hU hUd hUz hrl hst hRA hT hs hi hf ht
  cases t with
  | nil =>
    have hag : againB ⟨f, [], p⟩ = true := by simp [againB]
    rw [if_pos hag]
    obtain ⟨w1, hw1⟩ : ∃ w1, w.alloc (.cells #[.string F, .string ⟨([] : List UInt8).toArray⟩, .int .i64 p] 38) = w1 := ⟨_, rfl⟩
    have HR1 : Hid (RuleAt w1 g F ⟨([] : List UInt8).toArray⟩ p) := by rw [← hw1, ← hg]; exact ruleAt_new _ _ _ _ _
    have HB1 : Hid (Below g w w1) := by rw [← hw1, ← hg]; exact (Below.refl _ _).alloc (Nat.le_refl _) _
    have HZ1 : Hid (g < w1.heap.size) := by rw [← hw1, ← hg]; show _ < _; simp
    have c0 := HR1.out.c0
    have c1 := HR1.out.c1
    have c2 := HR1.out.c2
    rw [hg]
    clear hag
    go_enter Tryd.func39, Tryd.ntmps39
    go_wp2_with fail
    try rw [hw1]
    try rw [hg]
    clear hw1
    refine (HRA.out w1).mono ?_
    rintro e w2 ⟨rfl, hb2⟩
    have HB2 := Lib.hid (HB1.out.trans (hb2.mono (Nat.le_of_lt HZ1.out)))
    have d1 := (HR1.out.below HZ1.out hb2).c1
    clear c0 c1 c2 hb2 HR1
    go_wp2_with fail
    refine (HFO.out w2 HB2.out).mono ?_
    rintro e w3 ⟨rfl, hb3⟩
    have HB3 : Hid (Below g w w3) := HB2.out.trans (hb3.mono (Nat.le_trans (Nat.le_of_eq hg.symm) HB2.out.size))
    clear hb3 d1
    go_wp2
    go_ret
    exact ⟨rfl, HB3.out⟩
  | cons b u =>
    obtain ⟨T, hTT⟩ : ∃ T : ByteArray, (⟨(b :: u).toArray⟩ : ByteArray) = T := ⟨_, rfl⟩
    have hTd : T.data.toList = b :: u := by rw [← hTT]
    have hTl : T.toList = b :: u := by rw [ByteArray.toList_eq, hTd]
    obtain ⟨sp, hsp⟩ : ∃ x, decide (0 ≤ Lib.indexByte (b :: u) 32) = x := ⟨_, rfl⟩
    have hag : againB ⟨f, b :: u, p⟩ = sp := by simp only [againB, hsp]; simp
    obtain ⟨RV, hRV⟩ : ∃ RV : List UInt8, (if sp = true then foldL U.data.toList else U.data.toList) = RV := ⟨_, rfl⟩
    rw [hag, hTT, hRV]
    have HRV := Lib.hid hRV
    rw [hTT] at HRA
    obtain ⟨w1, hw1⟩ : ∃ w1, w.alloc (.cells #[.string F, .string T, .int .i64 p] 38) = w1 := ⟨_, rfl⟩
    have HR1 : Hid (RuleAt w1 g F T p) := by rw [← hw1, ← hg]; exact ruleAt_new _ _ _ _ _
    have HB1 : Hid (Below g w w1) := by rw [← hw1, ← hg]; exact (Below.refl _ _).alloc (Nat.le_refl _) _
    have HZ1 : Hid (g < w1.heap.size) := by rw [← hw1, ← hg]; show _ < _; simp
    have HCO : Hid (∀ W, Calls Tryd.prog 50 #[.string T, .string ⟨#[32]⟩] W fun e w' => e = .returned (.bool sp) ∧ w' = W) := fun W => by
      have h := Tryd.strings_Contains_one T 32 W
      rw [hTd, hsp] at h
      exact h
    have c0 := HR1.out.c0
    have c1 := HR1.out.c1
    have c2 := HR1.out.c2
    rw [hg]
    clear hag hTd hsp hTT hRV
    go_enter Tryd.func39, Tryd.ntmps39
    go_wp2_with fail
    try rw [hw1]
    try rw [hg]
    clear hw1
    refine (HRA.out w1).mono ?_
    rintro e w2 ⟨rfl, hb2⟩
    have HB2 := Lib.hid (HB1.out.trans (hb2.mono (Nat.le_of_lt HZ1.out)))
    have d1 := (HR1.out.below HZ1.out hb2).c1
    clear c0 c1 c2 hb2 HR1
    go_wp2_with fail
    refine (HCO.out w2).mono ?_
    rintro e w3 ⟨rfl, rfl⟩
    cases sp with
    | true =>
      have hRV := HRV.out
      rw [if_pos rfl] at hRV
      subst hRV
      go_wp2_with fail
      refine (HFO.out w3 HB2.out).mono ?_
      rintro e w4 ⟨rfl, hb4⟩
      have HB3 : Hid (Below g w w4) := HB2.out.trans (hb4.mono (Nat.le_trans (Nat.le_of_eq hg.symm) HB2.out.size))
      clear hb4 d1
      go_wp2
      go_ret
      exact ⟨rfl, HB3.out⟩
    | false =>
      have hRV := HRV.out
      rw [if_neg (by simp)] at hRV
      subst hRV
      go_wp2
      go_ret
      exact ⟨rfl, HB2.out⟩

theorem all_take_succ {l : List UInt8} {k : Nat} (hk : k < l.length) : (l.take (k + 1)).all plB = ((l.take k).all plB && plB (l.getD k 0)) := by
  rw [List.take_succ_eq_append_getElem hk, List.all_append]
  simp [List.getD, hk]
theorem all_false {l : List UInt8} {k : Nat} (hk : k < l.length) (h : plB (l.getD k 0) = false) : l.all plB = false := by
  rw [List.all_eq_false]
  refine ⟨l[k], List.getElem_mem hk, ?_⟩
  have e : l.getD k 0 = l[k] := by simp [List.getD, hk]
  rw [← e, h]
  simp

set_option maxRecDepth 100000 in
set_option maxHeartbeats 4000000 in
theorem validText_any (s : ByteArray) (w : World) (hs : s.size ≤ 1000000) :
    Calls Tryd.prog 40 #[.string s] w fun e w' => e = .returned (.bool (validT s.data.toList)) ∧ w = w' := by
  have hsz : s.data.toList.length = s.size := (Lib.size_eq s).symm
  obtain ⟨n, hn⟩ : ∃ n, s.size = n := ⟨_, rfl⟩
  obtain ⟨vt, hvt⟩ : ∃ b, validT s.data.toList = b := ⟨_, rfl⟩
  have HVT := Lib.hid hvt
  have HSZ := Lib.hid hsz
  have HNN := Lib.hid hn
  have HIX : Hid (∀ k W, k < n → (Instr.index 9 (.string s) (.int .i64 (k : Int))).run Tryd.prog W = .ok (.int .u8 ((s.data.toList.getD k 0).toNat : Int)) W) := fun k W hk => str_at s k (by omega) W
  rw [hvt]
  clear hvt hsz
  go_enter Tryd.func40, Tryd.ntmps40
  go_wp2_with fail
  go_loop [3, 6] (fun _ i => ∃ k : Nat, k ≤ n ∧ i = .int .i64 k ∧ Hid ((s.data.toList.take k).all plB = true)) (fun _ i => n - (intOf i).toNat)
  case atStart => exact ⟨0, Nat.zero_le _, rfl, rfl⟩
  case round =>
    obtain ⟨k, hk, rfl, HAL⟩ := hrel
    by_cases hlt : k < n
    · have hix := fun W => HIX.out k W hlt
      obtain ⟨c, hc⟩ : ∃ c, s.data.toList.getD k 0 = c := ⟨_, rfl⟩
      rw [hc] at hix
      have HLE := Lib.hid (letter_any c.toNat w c.toNat_lt)
      have HC := Lib.hid hc
      have hltI : (k : Int) < (s.size : Int) := by rw [hn]; omega
      have hltS : k < s.size := by omega
      have b32 := byte32 c
      obtain ⟨l, hl⟩ : ∃ b, letR c.toNat = b := ⟨_, rfl⟩
      rw [hl] at HLE
      have HPL : Hid (plB c = (l || (c == 32))) := by show _ = _; unfold plB letB; rw [hl]
      clear hc hl hn
      cases e : (c == 32) with
      | true =>
        rw [e] at b32
        have d32 : ((c.toNat : Int) != 32) = false := by simp only [bne, b32]; rfl
        have HA2 : Hid ((s.data.toList.take (k + 1)).all plB = true) := by
          show _ = _
          rw [all_take_succ (by rw [HSZ.out, HNN.out]; exact hlt), HAL.out, HC.out, HPL.out, e]
          simp
        clear e
        go_wp2_with fail
        exact ⟨⟨k + 1, by omega, by go_num, HA2⟩, by simp [intOf]; omega⟩
      | false =>
        rw [e] at b32
        have d32 : ((c.toNat : Int) != 32) = true := by simp only [bne, b32]; rfl
        cases l with
        | true =>
          have HA2 : Hid ((s.data.toList.take (k + 1)).all plB = true) := by
            show _ = _
            rw [all_take_succ (by rw [HSZ.out, HNN.out]; exact hlt), HAL.out, HC.out, HPL.out]
            simp
          clear e
          go_wp2_with fail
          refine HLE.out.mono ?_
          rintro e w2 ⟨rfl, rfl⟩
          go_wp2_with fail
          exact ⟨⟨k + 1, by omega, by go_num, HA2⟩, by simp [intOf]; omega⟩
        | false =>
          obtain rfl : false = vt := by
            rw [← HVT.out]
            unfold validT
            rw [all_false (k := k) (by rw [HSZ.out, HNN.out]; exact hlt) (by rw [HC.out, HPL.out, e]; rfl)]
            rfl
          clear e
          go_wp2_with fail
          refine HLE.out.mono ?_
          rintro e w2 ⟨rfl, rfl⟩
          go_wp2
          go_ret
          exact ⟨rfl, rfl⟩
    · obtain rfl : k = n := by omega
      have hnl : ¬ (k : Int) < (s.size : Int) := by rw [hn]; omega
      have HR : Hid (decide ((k : Int) ≤ 256) = vt) := by
        show _ = _
        rw [← HVT.out]
        unfold validT
        have h := HAL.out
        rw [List.take_of_length_le (by rw [HSZ.out, HNN.out]; exact Nat.le_refl _)] at h
        rw [h, HSZ.out, Bool.true_and, decide_eq_decide, HNN.out]
        omega
      have hr := HR.out
      go_wp2
      go_ret
      exact ⟨rfl, rfl⟩
end Go.Proofs.YtmegmgcfnihhiaaDoor
