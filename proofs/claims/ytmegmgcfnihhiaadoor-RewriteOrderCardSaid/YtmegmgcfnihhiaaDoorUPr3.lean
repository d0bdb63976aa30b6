
/- Which rules and lists of rules are valid. -/
import Derived.Test.YtmegmgcfnihhiaaDoorUPr2
namespace Go.Proofs.YtmegmgcfnihhiaaDoor
open Go.RowKit Go.Shelf
set_option linter.unusedVariables false
set_option linter.unusedSimpArgs false

set_option maxRecDepth 100000 in
set_option maxHeartbeats 4000000 in
theorem shortens_any (r : Rul) (w : World) (hf : r.f.length ≤ 1000000) (ht : r.t.length ≤ 1000000) :
    Calls Tryd.prog 41 #[ruleV r] w fun e w' => e = .returned (.bool (shortB r)) ∧ Below w.heap.size w w' := by
  obtain ⟨f, t, p⟩ := r
  unfold ruleV shortB
  dsimp only at hf ht ⊢
  obtain ⟨F, hF⟩ : ∃ F : ByteArray, (⟨f.toArray⟩ : ByteArray) = F := ⟨_, rfl⟩
  obtain ⟨T, hT⟩ : ∃ T : ByteArray, (⟨t.toArray⟩ : ByteArray) = T := ⟨_, rfl⟩
  have hFd : F.data.toList = f := by rw [← hF]
  have hTd : T.data.toList = t := by rw [← hT]
  have hFz : F.size = f.length := by rw [Lib.size_eq, hFd]
  have hTz : T.size = t.length := by rw [Lib.size_eq, hTd]
  have hFl : F.toList = f := by rw [ByteArray.toList_eq, hFd]
  have hTl : T.toList = t := by rw [ByteArray.toList_eq, hTd]
  rw [hF, hT, ← hFz, ← hTz]
  rw [← hFz] at hf
  rw [← hTz] at ht
  obtain ⟨w1, hw1⟩ : ∃ w1, w.alloc (.cells #[.string F, .string T, .int .i64 p] 38) = w1 := ⟨_, rfl⟩
  obtain ⟨g, hg⟩ : ∃ g, w.heap.size = g := ⟨_, rfl⟩
  have hra : RuleAt w1 g F T p := by rw [← hw1, ← hg]; exact ruleAt_new _ _ _ _ _
  have HB1 : Hid (Below g w w1) := by rw [← hw1, ← hg]; exact (Below.refl _ _).alloc (Nat.le_refl _) _
  have c0 := hra.c0
  have c1 := hra.c1
  obtain ⟨m, hm⟩ : ∃ m, F.size = m := ⟨_, rfl⟩
  obtain ⟨n, hn⟩ : ∃ n, T.size = n := ⟨_, rfl⟩
  rw [hm, hn]
  obtain ⟨rb, hrb⟩ : ∃ b, (if m = 1 ∧ n = 1 then Op.bytesLess t f else decide (n < m)) = b := ⟨_, rfl⟩
  rw [hrb, hg]
  have HRB := Lib.hid hrb
  clear hF hT hFd hTd hFz hTz hra hrb
  by_cases h1 : m = 1
  · subst h1
    have e1 : ((1 : Int) == 1) = true := by decide
    have k1 : ((F.size : Int) == 1) = true := by rw [hm]; rfl
    by_cases h2 : n = 1
    · subst h2
      have k2 : ((T.size : Int) == 1) = true := by rw [hn]; rfl
      have hrb := HRB.out
      rw [if_pos ⟨rfl, rfl⟩] at hrb
      clear HRB
      go_enter Tryd.func41, Tryd.ntmps41
      go_wp2_with fail
      go_ret
      exact ⟨rfl, HB1.out⟩
    · have k2 : ((n : Int) == 1) = false := by simp only [beq_eq_false_iff_ne]; omega
      have hrb := HRB.out
      rw [if_neg (by omega)] at hrb
      have hrb2 : decide ((n : Int) < 1) = rb := by rw [← hrb, decide_eq_decide]; omega
      clear HRB hrb
      go_enter Tryd.func41, Tryd.ntmps41
      go_wp2_with fail
      go_ret
      exact ⟨rfl, HB1.out⟩
  · have k2 : ((m : Int) == 1) = false := by simp only [beq_eq_false_iff_ne]; omega
    have hrb := HRB.out
    rw [if_neg (by omega)] at hrb
    have hrb2 : decide ((n : Int) < (m : Int)) = rb := by rw [← hrb, decide_eq_decide]; omega
    clear HRB
    go_enter Tryd.func41, Tryd.ntmps41
    go_wp2_with fail
    go_ret
    exact ⟨rfl, HB1.out⟩

set_option maxRecDepth 100000 in
set_option maxHeartbeats 4000000 in
theorem validRule_any (r : Rul) (w : World) (hf : r.f.length ≤ 1000000) (ht : r.t.length ≤ 1000000) :
    Calls Tryd.prog 27 #[ruleV r] w fun e w' => e = .returned (.bool (validR r)) ∧ Below w.heap.size w w' := by
  have HSH := Lib.hid (fun W => shortens_any r W hf ht)
  obtain ⟨b6, h6⟩ : ∃ b, shortB r = b := ⟨_, rfl⟩
  rw [h6] at HSH
  obtain ⟨f, t, p⟩ := r
  have hv : validR ⟨f, t, p⟩ = (!decide (f = []) && validT f && validT t && decide (0 ≤ p) && decide (p ≤ 3) && b6) := by rw [← h6]; rfl
  unfold ruleV at HSH ⊢
  dsimp only at hf ht HSH ⊢
  rw [hv]
  obtain ⟨F, hF⟩ : ∃ F : ByteArray, (⟨f.toArray⟩ : ByteArray) = F := ⟨_, rfl⟩
  obtain ⟨T, hT⟩ : ∃ T : ByteArray, (⟨t.toArray⟩ : ByteArray) = T := ⟨_, rfl⟩
  have hFd : F.data.toList = f := by rw [← hF]
  have hTd : T.data.toList = t := by rw [← hT]
  have hFz : F.size ≤ 1000000 := by rw [Lib.size_eq, hFd]; exact hf
  have hTz : T.size ≤ 1000000 := by rw [Lib.size_eq, hTd]; exact ht
  have hFl : F.toList = f := by rw [ByteArray.toList_eq, hFd]
  rw [hF, hT]
  rw [hF, hT] at HSH
  have HV1 := Lib.hid (fun W => validText_any F W hFz)
  have HV2 := Lib.hid (fun W => validText_any T W hTz)
  rw [hFd] at HV1
  rw [hTd] at HV2
  obtain ⟨b2, h2⟩ : ∃ b, validT f = b := ⟨_, rfl⟩
  obtain ⟨b3, h3⟩ : ∃ b, validT t = b := ⟨_, rfl⟩
  obtain ⟨b4, h4⟩ : ∃ b, decide (0 ≤ p) = b := ⟨_, rfl⟩
  obtain ⟨b5, h5⟩ : ∃ b, decide (p ≤ 3) = b := ⟨_, rfl⟩
  rw [h2] at HV1
  rw [h3] at HV2
  rw [h2, h3, h4, h5]
  obtain ⟨w1, hw1⟩ : ∃ w1, w.alloc (.cells #[.string F, .string T, .int .i64 p] 38) = w1 := ⟨_, rfl⟩
  obtain ⟨g, hg⟩ : ∃ g, w.heap.size = g := ⟨_, rfl⟩
  have hra : RuleAt w1 g F T p := by rw [← hw1, ← hg]; exact ruleAt_new _ _ _ _ _
  have HB1 : Hid (Below g w w1) := by rw [← hw1, ← hg]; exact (Below.refl _ _).alloc (Nat.le_refl _) _
  have HZ1 : Hid (g ≤ w1.heap.size) := by rw [← hw1, ← hg]; show _ ≤ _; simp
  have c0 := hra.c0
  have c1 := hra.c1
  have c2 := hra.c2
  rw [hg]
  clear hF hT hFd hTd hra hv h6 h2 h3 hf ht
  cases f with
  | nil =>
    have e0 : (!decide (([] : List UInt8) = []) && b2 && b3 && b4 && b5 && b6) = false := by simp
    rw [e0]
    clear e0
    go_enter Tryd.func27, Tryd.ntmps27
    go_wp2_with fail
    go_ret
    exact ⟨rfl, HB1.out⟩
  | cons x u =>
    have e0 : (!decide ((x :: u) = []) && b2 && b3 && b4 && b5 && b6) = (b2 && b3 && b4 && b5 && b6) := by simp
    rw [e0]
    clear e0
    cases b2 with
    | false =>
      go_enter Tryd.func27, Tryd.ntmps27
      go_wp2_with fail
      try rw [hw1]
      try rw [hg]
      refine (HV1.out _).mono ?_
      rintro e w2 ⟨rfl, rfl⟩
      go_wp2
      go_ret
      exact ⟨rfl, HB1.out⟩
    | true =>
      cases b3 with
      | false =>
        go_enter Tryd.func27, Tryd.ntmps27
        go_wp2_with fail
        try rw [hw1]
        try rw [hg]
        refine (HV1.out _).mono ?_
        rintro e w2 ⟨rfl, rfl⟩
        go_wp2_with fail
        refine (HV2.out _).mono ?_
        rintro e w2 ⟨rfl, rfl⟩
        go_wp2
        go_ret
        exact ⟨rfl, HB1.out⟩
      | true =>
        cases b4 with
        | false =>
          go_enter Tryd.func27, Tryd.ntmps27
          go_wp2_with fail
          try rw [hw1]
          try rw [hg]
          refine (HV1.out _).mono ?_
          rintro e w2 ⟨rfl, rfl⟩
          go_wp2_with fail
          refine (HV2.out _).mono ?_
          rintro e w2 ⟨rfl, rfl⟩
          go_wp2
          go_ret
          exact ⟨rfl, HB1.out⟩
        | true =>
          cases b5 with
          | false =>
            go_enter Tryd.func27, Tryd.ntmps27
            go_wp2_with fail
            try rw [hw1]
            try rw [hg]
            refine (HV1.out _).mono ?_
            rintro e w2 ⟨rfl, rfl⟩
            go_wp2_with fail
            refine (HV2.out _).mono ?_
            rintro e w2 ⟨rfl, rfl⟩
            go_wp2
            go_ret
            exact ⟨rfl, HB1.out⟩
          | true =>
            go_enter Tryd.func27, Tryd.ntmps27
            go_wp2_with fail
            try rw [hw1]
            try rw [hg]
            refine (HV1.out _).mono ?_
            rintro e w2 ⟨rfl, rfl⟩
            go_wp2_with fail
            refine (HV2.out _).mono ?_
            rintro e w2 ⟨rfl, rfl⟩
            go_wp2_with fail
            refine (HSH.out _).mono ?_
            rintro e w2 ⟨rfl, hb⟩
            have HB2 := Lib.hid (HB1.out.trans (hb.mono HZ1.out))
            clear hb
            go_wp2
            go_ret
            exact ⟨rfl, HB2.out⟩

/-- A slice of rules. -/
def RulesW (w : World) (s : Value) (R : List Rul) : Prop := ∃ a c, s = .slice a R.length c ∧ R.length ≤ 1000 ∧ R.length ≤ c ∧ c ≤ 9223372036854775807 ∧ (R ≠ [] → ∃ b off, a = some ⟨b, off, none⟩ ∧ b < w.heap.size ∧
  ∀ j, j < R.length → w.cell? ⟨b, off + j * 3, none⟩ = some (.string ⟨(R.getD j noRul).f.toArray⟩) ∧ w.cell? ⟨b, off + j * 3 + 1, none⟩ = some (.string ⟨(R.getD j noRul).t.toArray⟩) ∧ w.cell? ⟨b, off + j * 3 + 2, none⟩ = some (.int .i64 (R.getD j noRul).p))
theorem RulesW.below {w w' : World} {B : Nat} {s : Value} {R : List Rul} (h : RulesW w s R) (hB : w.heap.size ≤ B) (b : Below B w w') : RulesW w' s R := by
  obtain ⟨a, c, h1, h2, h3, h4, h5⟩ := h
  refine ⟨a, c, h1, h2, h3, h4, fun hne => ?_⟩
  obtain ⟨q, off, e1, e2, e3⟩ := h5 hne
  have hq : q < B := Nat.lt_of_lt_of_le e2 hB
  refine ⟨q, off, e1, Nat.lt_of_lt_of_le e2 b.size, fun j hj => ?_⟩
  rw [b.cell (p := ⟨q, off + j * 3, none⟩) hq, b.cell (p := ⟨q, off + j * 3 + 1, none⟩) hq, b.cell (p := ⟨q, off + j * 3 + 2, none⟩) hq]
  exact e3 j hj
theorem RulesW.at {w : World} {a : Option Addr} {n c : Nat} {R : List Rul} (h : RulesW w (.slice a n c) R) {k : Nat} (hk : k < R.length) : ∃ b off, a = some ⟨b, off, none⟩ ∧
    w.cell? ⟨b, off + k * 3, none⟩ = some (.string ⟨(R.getD k noRul).f.toArray⟩) ∧ w.cell? ⟨b, off + k * 3 + 1, none⟩ = some (.string ⟨(R.getD k noRul).t.toArray⟩) ∧ w.cell? ⟨b, off + k * 3 + 2, none⟩ = some (.int .i64 (R.getD k noRul).p) := by
  obtain ⟨a', c', h1, h2, h3, h4, h5⟩ := h
  cases h1
  obtain ⟨q, off, e1, e2, e3⟩ := h5 (fun e => by rw [e] at hk; simp at hk)
  exact ⟨q, off, e1, e3 k hk⟩
/-- Texts of rules that are not too long for a walk. -/
def Mild (R : List Rul) : Prop := ∀ j, j < R.length → (R.getD j noRul).f.length ≤ 1000000 ∧ (R.getD j noRul).t.length ≤ 1000000
theorem all_take_suc (q : Rul → Bool) {R : List Rul} {k : Nat} (hk : k < R.length) : (R.take (k + 1)).all q = ((R.take k).all q && q (R.getD k noRul)) := by
  rw [List.take_succ_eq_append_getElem hk, List.all_append]
  simp [List.getD, hk]

set_option maxRecDepth 100000 in
set_option maxHeartbeats 4000000 in
theorem rvalid_any (s : Value) (R : List Rul) (w : World) (hs : RulesW w s R) (hm : Mild R) :
    Calls Tryd.prog 19 #[s] w fun e w' => e = .returned (.bool (validRs R)) ∧ Below w.heap.size w w' := by
  obtain ⟨a, c, rfl, hl, hlc, hc, _⟩ := id hs
  obtain ⟨N, hN⟩ : ∃ N, R.length = N := ⟨_, rfl⟩
  rw [hN] at hs hl hlc ⊢
  obtain ⟨g, hg⟩ : ∃ g, w.heap.size = g := ⟨_, rfl⟩
  obtain ⟨vb, hvb⟩ : ∃ b, validRs R = b := ⟨_, rfl⟩
  have HS := Lib.hid hs
  have HM := Lib.hid hm
  have HN := Lib.hid hN
  have HG := Lib.hid hg
  have HVB := Lib.hid hvb
  have HW0 : Hid (Below g w w) := Below.refl _ _
  rw [hvb, hg]
  clear hs hm hN hvb hg
  by_cases h32 : 32 < N
  · have hI : (32 : Int) < (N : Int) := by omega
    obtain rfl : false = vb := by
      rw [← HVB.out]
      unfold validRs
      rw [decide_eq_false (by rw [HN.out]; omega)]
      rfl
    go_enter Tryd.func19, Tryd.ntmps19
    go_wp2_with fail
    go_ret
    exact ⟨rfl, HW0.out⟩
  · have hI : ¬ (32 : Int) < (N : Int) := by omega
    have HVA : Hid (R.all validR = vb) := by
      show _ = _
      rw [← HVB.out]
      unfold validRs
      rw [decide_eq_true (by rw [HN.out]; omega), Bool.true_and]
    go_enter Tryd.func19, Tryd.ntmps19
    go_wp2_with fail
    go_loopw [4, 10] (fun _ i wr => ∃ k : Nat, k ≤ N ∧ i = .int .i64 k ∧ Hid (Below g w wr) ∧ Hid ((R.take k).all validR = true)) (fun _ i _ => N - (intOf i).toNat)
    case atStart => exact ⟨0, Nat.zero_le _, rfl, HW0, rfl⟩
    case round =>
      obtain ⟨k, hk, rfl, HW, HAL⟩ := hrel
      by_cases hlt : k < N
      · have hsz : g ≤ wr.heap.size := by have := HW.out.size; have := HG.out; omega
        obtain ⟨b, o, rfl, c0, c1, c2⟩ := (HS.out.below (Nat.le_of_eq HG.out) HW.out).at (by rw [HN.out]; exact hlt)
        obtain ⟨r, hr⟩ : ∃ r, R.getD k noRul = r := ⟨_, rfl⟩
        have hmk := HM.out k (by rw [HN.out]; exact hlt)
        rw [hr] at c0 c1 c2 hmk
        obtain ⟨F, hF⟩ : ∃ F : ByteArray, (⟨r.f.toArray⟩ : ByteArray) = F := ⟨_, rfl⟩
        obtain ⟨T, hT⟩ : ∃ T : ByteArray, (⟨r.t.toArray⟩ : ByteArray) = T := ⟨_, rfl⟩
        obtain ⟨p, hp⟩ : ∃ p, r.p = p := ⟨_, rfl⟩
        obtain ⟨w1, hw1⟩ : ∃ w1, wr.alloc (.cells #[.string F, .string T, .int .i64 p] 38) = w1 := ⟨_, rfl⟩
        obtain ⟨g1, hg1⟩ : ∃ g1, wr.heap.size = g1 := ⟨_, rfl⟩
        have hra : RuleAt w1 g1 F T p := by rw [← hw1, ← hg1]; exact ruleAt_new _ _ _ _ _
        have HB1 : Hid (Below g w w1) := by rw [← hw1]; exact HW.out.alloc hsz _
        have HZ1 : Hid (g ≤ w1.heap.size) := by rw [← hw1]; show _ ≤ _; simp; omega
        have HV := validRule_any r w1 hmk.1 hmk.2
        unfold ruleV at HV
        rw [hF, hT, hp] at HV
        rw [hF] at c0
        rw [hT] at c1
        rw [hp] at c2
        have HV := Lib.hid HV
        have d0 := hra.c0
        have d1 := hra.c1
        have d2 := hra.c2
        have HR := Lib.hid hr
        obtain ⟨vk, hvk⟩ : ∃ b, validR r = b := ⟨_, rfl⟩
        rw [hvk] at HV
        have HVK := Lib.hid hvk
        clear hr hF hT hp hra hmk hvk
        go_wp2_with fail
        try rw [hw1]
        try rw [hg1]
        refine HV.out.mono ?_
        rintro e w2 ⟨rfl, hb⟩
        have HB2 := Lib.hid (HB1.out.trans (hb.mono HZ1.out))
        clear hb c0 c1 c2 d0 d1 d2
        cases vk with
        | false =>
          obtain rfl : false = vb := by
            rw [← HVA.out]
            refine Eq.symm (List.all_eq_false.2 ⟨r, ?_, by rw [HVK.out]; simp⟩)
            rw [← HR.out]
            have hkl : k < R.length := by rw [HN.out]; exact hlt
            have e : R.getD k noRul = R[k] := by simp [List.getD, hkl]
            rw [e]
            exact List.getElem_mem hkl
          go_wp2
          go_ret
          exact ⟨rfl, HB2.out⟩
        | true =>
          have HA2 : Hid ((R.take (k + 1)).all validR = true) := by
            show _ = _
            rw [all_take_suc validR (by rw [HN.out]; exact hlt), HAL.out, HR.out, HVK.out]
            rfl
          go_wp2
          go_roundw
          case rel => exact ⟨k + 1, by omega, by go_num, HB2, HA2⟩
          case measure => simp [intOf]; omega
      · obtain rfl : k = N := by omega
        obtain rfl : true = vb := by
          rw [← HVA.out]
          have h := HAL.out
          rw [List.take_of_length_le (by rw [HN.out]; exact Nat.le_refl _)] at h
          exact h.symm
        go_wp2
        go_ret
        exact ⟨rfl, HW.out⟩
end Go.Proofs.YtmegmgcfnihhiaaDoor
