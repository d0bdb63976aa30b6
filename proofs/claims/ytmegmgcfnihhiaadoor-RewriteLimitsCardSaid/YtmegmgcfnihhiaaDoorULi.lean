
/- The walk through RewriteLimits. -/
import Derived.Test.YtmegmgcfnihhiaaDoorUAw
import Derived.Maps.AppendAt
namespace Go.Proofs.YtmegmgcfnihhiaaDoor
open Go.RowKit Go.Shelf
set_option linter.unusedVariables false
set_option linter.unusedSimpArgs false

theorem infoRule : (Tryd.prog.info? 38).map (fun i => (i.zero, i.size, i.bytes)) = some (some (.agg #[.string ⟨#[]⟩, .string ⟨#[]⟩, .int .i64 0]), 3, 40) := by kernel_rfl
/-- A growing list of rules, of the call's own. -/
def GathR (w : World) (base : Nat) (v : Value) (R : List Rul) : Prop := w.ownsRow base 38 3 v R.length (flatR R)
theorem gathR_nil (w : World) (base : Nat) : GathR w base (.slice none 0 0) [] := World.ownsRow_nil _ _ _ _
theorem GathR.rules {w : World} {base : Nat} {v : Value} {R : List Rul} (h : GathR w base v R) (hl : R.length ≤ 1000) : RulesW w v R := by
  have h' := h
  obtain ⟨_, ⟨h1, h2⟩ | ⟨g, cap, cur, h1, h2, h3, h4, h5, h6, h7⟩⟩ := h
  · obtain rfl : R = [] := List.eq_nil_of_length_eq_zero h2
    exact ⟨none, 0, h1, by simp, Nat.le_refl _, by simp, fun h => absurd rfl h⟩
  · refine ⟨_, cap, h1, hl, h4, by unfold maxLen at h5; omega, fun _ => ⟨g, 0, rfl, (Array.getElem?_eq_some_iff.1 h3).1, fun j hj => ?_⟩⟩
    have hcell := World.ownsRow.cells h' (g := g) (by rw [h1]; rfl)
    have had : ∀ j, (⟨g, 0, none⟩ : Addr).add j = ⟨g, j, none⟩ := fun j => by unfold Addr.add; split <;> simp_all
    obtain ⟨e0, e1, e2⟩ := flatR_at R j hj
    have c0 := hcell _ _ e0
    have c1 := hcell _ _ e1
    have c2 := hcell _ _ e2
    rw [had] at c0 c1 c2
    rw [Nat.zero_add]
    exact ⟨c0, c1, c2⟩
theorem flatR_snoc (R : List Rul) (r : Rul) : flatR (R ++ [r]) = flatR R ++ cellsR r := by simp [flatR]
section
variable {ops : Array Oper} {rest : List Oper} {o : Oper} {a : Act} {Q : Exit → Act → World → Prop}
theorem append_rule (w : World) (hgd : o.guard = none) (s x : Operand) (ho : o.op = .call { callee := .builtin .append, args := #[s, x], argTypes := #[36, 36] })
    (base : Nat) (v : Value) (R : List Rul) (r : Rul) (hs : a.eval s = v) (hown : GathR w base v R) (ad : Nat) (hx : a.eval x = .slice (some ⟨ad, 0, none⟩) 1 1)
    (hc0 : w.cell? ⟨ad, 0, none⟩ = some (.string ⟨r.f.toArray⟩)) (hc1 : w.cell? ⟨ad, 1, none⟩ = some (.string ⟨r.t.toArray⟩)) (hc2 : w.cell? ⟨ad, 2, none⟩ = some (.int .i64 r.p)) (hlen : R.length ≤ 1000) (hbase : base ≤ w.heap.size)
    (h : ∀ v' w', GathR w' base v' (R ++ [r]) → Below base w w' → wpList Tryd.prog ops Q rest (a.put o.dst v') w') : wpList Tryd.prog ops Q (o :: rest) a w := by
  obtain ⟨i0, hi, hz0, hz1, hz2⟩ := info_parts infoRule
  refine wpList_append_own_at (w := w) hgd s x 36 ho base 38 i0 (.agg #[.string ⟨#[]⟩, .string ⟨#[]⟩, .int .i64 0]) 3 40 Tryd.underlying36 hi hz0 hz1 hz2 rfl (by decide) v R.length (flatR R) hs hown ⟨ad, 0, none⟩ 1 1 (cellsR r) hx rfl ?_ ?_ ?_ ?_ hbase ?_
  · have had : ∀ j, (⟨ad, 0, none⟩ : Addr).add j = ⟨ad, j, none⟩ := fun j => by unfold Addr.add; split <;> simp_all
    intro j u hj
    rw [had]
    match j, hj with
    | 0, hj => simp [cellsR] at hj; subst hj; exact hc0
    | 1, hj => simp [cellsR] at hj; subst hj; exact hc1
    | 2, hj => simp [cellsR] at hj; subst hj; exact hc2
  · intro u hu
    simp only [cellsR, List.mem_cons, List.not_mem_nil, or_false] at hu
    rcases hu with rfl | rfl | rfl <;> rfl
  · unfold maxLen; omega
  · omega
  · intro v' w' h1 h2 _ _
    refine h v' w' ?_ ((Below.refl base w).grown h2 hbase fun g hg => (World.ownsRow.lt hown g hg).1)
    unfold GathR
    rw [flatR_snoc, List.length_append]
    exact h1
end

/-! mathematics -/
def limR : Rul := ⟨[97, 98], [97], 0⟩
theorem lim_get {n k : Nat} (h : k < n) : (List.replicate n limR).getD k noRul = limR := by simp [List.getD, h]
theorem lim_valid : validR limR = true := by decide +kernel
theorem lim_valids {n : Nat} : validRs (List.replicate n limR) = decide (n ≤ 32) := by
  unfold validRs
  rw [List.length_replicate]
  have : (List.replicate n limR).all validR = true := List.all_eq_true.2 fun r hr => by rw [(List.mem_replicate.1 hr).2]; exact lim_valid
  rw [this, Bool.and_true]
theorem lim_again : againB limR = false := by decide +kernel
theorem lim_stand {n i : Nat} (h : standB limR (97 :: List.replicate n 98) i = true) : i = 0 ∧ 1 ≤ n := by
  obtain ⟨z, hz⟩ := stand_split h
  have h0 : (97 :: List.replicate n (98 : UInt8))[i]? = some 97 := by
    have := congrArg (fun l => l[0]?) hz
    simpa [limR] using this
  have h1 : (97 :: List.replicate n (98 : UInt8))[i + 1]? = some 98 := by
    have := congrArg (fun l => l[1]?) hz
    simpa [limR] using this
  have hi : i = 0 := by
    cases i with
    | zero => rfl
    | succ i =>
      simp [List.getElem?_replicate] at h0
  subst hi
  simp [List.getElem?_replicate] at h1
  exact ⟨rfl, by omega⟩
theorem lim_ends (N : Nat) : ∀ (n : Nat) (T : List UInt8), 1 ≤ N → Ends (List.replicate N limR) (97 :: List.replicate n 98) T → T = [97]
  | n, T, hN, h => by
    cases h with
    | stop h0 =>
      cases n with
      | zero => rfl
      | succ n =>
        exfalso
        have := first_none h0 (k := 0) (i := 0) (by rw [List.length_replicate]; exact hN) (by simp)
        rw [lim_get hN] at this
        simp [standB, placeB, limR, Lib.hasPrefix, List.replicate_succ] at this
    | step h0 h1 =>
      rename_i i k
      obtain ⟨_, _, h3, h4, _⟩ := first_some h0
      rw [List.length_replicate] at h3
      rw [lim_get h3] at h4 h1
      obtain ⟨rfl, hn⟩ := lim_stand h4
      obtain ⟨m, rfl⟩ : ∃ m, n = m + 1 := ⟨n - 1, by omega⟩
      refine lim_ends N m T hN ?_
      have e : stepL limR (97 :: List.replicate (m + 1) 98) 0 = 97 :: List.replicate m 98 := by
        unfold stepL
        rw [lim_again, if_neg (by simp)]
        simp [replL, limR, List.replicate_succ]
      rw [e] at h1
      exact h1
theorem lim_fold (n : Nat) : foldL (97 :: List.replicate n 98) = 97 :: List.replicate n 98 :=
  fold_word (fun b hb => by
    rcases List.mem_cons.1 hb with rfl | h
    · decide
    · rw [(List.mem_replicate.1 h).2]; decide) (by simp)
theorem lim_mild (n : Nat) : Mild (List.replicate n limR) := fun j hj => by
  rw [List.length_replicate] at hj
  rw [lim_get hj]
  exact ⟨by decide, by decide⟩

set_option maxRecDepth 100000 in
set_option maxHeartbeats 4000000 in
theorem rewriteLimits_walk (n0 n1 : Nat) (w : World) (T : Tbw w) (h0 : n0 < 256) (h1 : n1 < 256) :
    Calls Tryd.prog 7 #[.int .u8 n0, .int .u8 n1] w fun e w' => e = .returned (.bool true) ∧ Below w.heap.size w w' := by
  obtain ⟨g, hg⟩ : ∃ g, w.heap.size = g := ⟨_, rfl⟩
  have HG := Lib.hid hg
  have HT := Lib.hid T
  have HAW := Lib.hid (fun W (k : Below g w W) => awake12_any W (HT.out.below (by rw [HG.out]; exact k)))
  have HW0 : Hid (Below g w w) := Below.refl _ _
  obtain ⟨m0, hm0⟩ : ∃ m, n0 % 2 = m := ⟨_, rfl⟩
  obtain ⟨m1, hm1⟩ : ∃ m, n1 % 3 = m := ⟨_, rfl⟩
  have t0 : ((n0 : Int)).tmod 2 = (m0 : Int) := by rw [Int.tmod_eq_emod_of_nonneg (by omega)]; omega
  have t1 : ((n1 : Int)).tmod 3 = (m1 : Int) := by rw [Int.tmod_eq_emod_of_nonneg (by omega)]; omega
  have l0 : m0 ≤ 1 := by omega
  have l1 : m1 ≤ 2 := by omega
  have H0 : Hid (m0 ≤ 1 ∧ m1 ≤ 2) := ⟨l0, l1⟩
  obtain ⟨N, hN⟩ : ∃ N, 32 + m0 = N := ⟨_, rfl⟩
  obtain ⟨M, hM⟩ : ∃ M, 255 + m1 = M := ⟨_, rfl⟩
  have a0 : (32 : Int) + (m0 : Int) = (N : Int) := by omega
  have a1 : (255 : Int) + (m1 : Int) = (M : Int) := by omega
  have HN := Lib.hid hN
  have HM := Lib.hid hM
  rw [hg]
  clear T hm0 hm1 h0 h1 hN hM
  go_enter Tryd.func7, Tryd.ntmps7
  go_wp2_with fail
  go_loopw [5, 14] (fun v i wr => ∃ k : Nat, k ≤ N ∧ i = .int .i64 k ∧ Hid (GathR wr g v (List.replicate k limR)) ∧ Hid (Below g w wr)) (fun _ i _ => N - (intOf i).toNat)
  case atStart => exact ⟨0, Nat.zero_le _, rfl, gathR_nil _ _, HW0⟩
  case round =>
    obtain ⟨k, hk, rfl, HGR, HW⟩ := hrel
    have hsz : g ≤ wr.heap.size := by have := HW.out.size; have := HG.out; omega
    by_cases hlt : k < N
    · have hNb : N ≤ 33 := by have := HN.out; have := HM.out; omega
      have hra := ruleAt_new wr ⟨#[97, 98]⟩ ⟨#[97]⟩ 0 38
      have c0 := hra.c0
      have c1 := hra.c1
      have c2 := hra.c2
      have HWA := Lib.hid (HW.out.alloc hsz (.cells #[.string ⟨#[97, 98]⟩, .string ⟨#[97]⟩, .int .i64 0] 38))
      have hsz2 : g ≤ (wr.alloc (.cells #[.string ⟨#[97, 98]⟩, .string ⟨#[97]⟩, .int .i64 0] 38)).heap.size := by simp; omega
      clear hra
      go_wp2_with (at_builtin; refine append_rule _ rfl _ _ rfl g _ (List.replicate k limR) limR rfl (World.ownsRow.alloc HGR.out _) wr.heap.size rfl c0 c1 c2 (by rw [List.length_replicate]; omega) hsz2 ?_)
      intro v2 w2 hgr hb
      have HGR2 : Hid (GathR w2 g v2 (List.replicate (k + 1) limR)) := by show GathR _ _ _ _; rw [List.replicate_succ']; exact hgr
      have HW2 := Lib.hid (HWA.out.trans hb)
      clear hgr hb c0 c1 c2
      go_wp2
      go_roundw
      case rel => exact ⟨k + 1, by omega, by go_num, HGR2, HW2⟩
      case measure => simp [intOf]; omega
    · obtain rfl : k = N := by omega
      have hNb : Hid (k ≤ 33) := by have h1 := HN.out; have h2 := H0.out; show _ ≤ _; omega
      have HRW := Lib.hid (HGR.out.rules (by rw [List.length_replicate]; have := hNb.out; omega))
      obtain ⟨wo, hwo⟩ : ∃ wo, wo = wr := ⟨_, rfl⟩
      subst hwo
      clear HGR
      go_wp2_with fail
      go_loop [6, 25] (fun v i => ∃ (j : Nat) (S : ByteArray), j ≤ M ∧ v = .string S ∧ i = .int .i64 j ∧ Hid (S.data.toList = List.replicate j 98)) (fun _ i => M - (intOf i).toNat)
      case atStart => exact ⟨0, ⟨#[]⟩, Nat.zero_le _, rfl, rfl, rfl⟩
      case round =>
        obtain ⟨j, S, hj, rfl, rfl, HS⟩ := hrel
        have HMB : Hid (M ≤ 257) := by have h1 := HM.out; have h2 := H0.out; show _ ≤ _; omega
        have hSz : S.size = j := by rw [Lib.size_eq, HS.out, List.length_replicate]
        by_cases hlj : j < M
        · have hSb : S.size ≤ 1000 := by have := HMB.out; omega
          have hcs : (S ++ (⟨#[98]⟩ : ByteArray)).data.toList = List.replicate (j + 1) 98 := by
            rw [ByteArray.data_append, Array.toList_append, HS.out, List.replicate_succ']
          have HCS := Lib.hid hcs
          clear hcs hSz
          go_wp2
          exact ⟨⟨j + 1, _, by omega, rfl, by go_num, HCS.out⟩, by simp [intOf]; omega⟩
        · obtain rfl : j = M := by omega
          obtain ⟨X, hX⟩ : ∃ X : ByteArray, S.extract 1 S.size = X := ⟨_, rfl⟩
          have hXd : X.data.toList = List.replicate (j - 1) 98 := by rw [← hX, ext_drop, HS.out, List.drop_replicate]
          have hj1 : 1 ≤ j := by have h1 := HM.out; omega
          have hjb : j ≤ 257 := HMB.out
          have hsl : ∀ W, (Instr.slice 9 (.string S) (some (.int .i64 1)) none none).run Tryd.prog W = .ok (.string (S.extract 1 S.size)) W := fun W => str_from S 1 (by omega) W
          rw [hX] at hsl
          have hXz : X.size = j - 1 := by rw [Lib.size_eq, hXd, List.length_replicate]
          have hXb : X.size ≤ 1000 := by omega
          obtain ⟨Y, hY⟩ : ∃ Y : ByteArray, (⟨#[97]⟩ : ByteArray) ++ X = Y := ⟨_, rfl⟩
          have hYd : Y.data.toList = 97 :: List.replicate (j - 1) 98 := by rw [← hY, ByteArray.data_append, Array.toList_append, hXd]; rfl
          have hYz : Y.size = j := by rw [Lib.size_eq, hYd, List.length_cons, List.length_replicate]; omega
          have HVA : Hid (∀ W, Below g w W → Below wo.heap.size wo W → Calls Tryd.prog 19 #[u5] W fun e w' => e = .returned (.bool (decide (k ≤ 32))) ∧ Below W.heap.size W w') := fun W hW hW2 => by
            have h := rvalid_any u5 _ W (HRW.out.below (Nat.le_refl _) hW2) (lim_mild k)
            rw [lim_valids] at h
            exact h
          have HAP : Hid (Calls Tryd.prog 18 #[u5, .string Y] wo fun e w' => e = .returned (.tuple #[.string (if m0 = 1 ∨ m1 = 2 then ⟨#[]⟩ else ⟨#[97]⟩), .int .i64 (if m0 = 1 then 1 else if m1 = 2 then 3 else 0)]) ∧ Below wo.heap.size wo w') := (apply_any Y u5 _ wo (HT.out.below (by rw [HG.out]; exact HW.out)) (lim_mild k) HRW.out (by omega)).mono (by
            rintro e w' ⟨T, c, rfl, h, hb⟩
            have q1 := HN.out
            have q2 := HM.out
            have q3 := H0.out
            rw [lim_valids, hYz, hYd, lim_fold] at h
            refine ⟨?_, hb⟩
            by_cases hm : m0 = 1
            · rw [if_pos (decide_eq_false (by omega))] at h
              obtain ⟨rfl, rfl⟩ := h
              rw [if_pos (.inl hm), if_pos hm]
            · rw [if_neg (by rw [decide_eq_true (by omega : k ≤ 32)]; simp)] at h
              by_cases hm1 : m1 = 2
              · rw [if_pos (by omega)] at h
                obtain ⟨rfl, rfl⟩ := h
                rw [if_pos (.inr hm1), if_neg hm, if_pos hm1]
              · rw [if_neg (by omega)] at h
                obtain ⟨h1, rfl⟩ := h
                obtain rfl := lim_ends k (j - 1) T (by omega) h1
                rw [if_neg (by omega), if_neg hm, if_neg hm1])
          have HK32 : Hid (decide (k ≤ 32) = decide (m0 = 0)) := by
            show _ = _
            rw [decide_eq_decide]
            have q1 := HN.out
            have q3 := H0.out
            omega
          rw [HK32.out] at HVA
          have hwz : Hid (g ≤ wo.heap.size) := by show _ ≤ _; have := HW.out.size; have := HG.out; omega
          clear hX hXd hXz hYd hYz hj1 hjb hSz HS HRW
          go_wp2_with fail
          refine HAP.out.mono ?_
          rintro e w2 ⟨rfl, hb2⟩
          have HB2 := Lib.hid (HW.out.trans (hb2.mono hwz.out))
          have HV2 := Lib.hid (HVA.out w2 HB2.out hb2)
          have HZ2 : Hid (g ≤ w2.heap.size) := by show _ ≤ _; have := hb2.size; have := hwz.out; omega
          have HA2 : Hid (∀ w3, Below w2.heap.size w2 w3 → Calls Tryd.prog 20 #[] w3 fun e w' => e = .returned (.bool true) ∧ Below g w w') := fun w3 hb3 =>
            (HAW.out w3 (HB2.out.trans (hb3.mono HZ2.out))).mono fun e w' h => ⟨h.1, (HB2.out.trans (hb3.mono HZ2.out)).trans (h.2.mono (by have := hb3.size; have := HZ2.out; omega))⟩
          clear hb2 HAP HVA HAW
          by_cases hm : m0 = 1
          · subst hm
            have t0' : ((n0 : Int)).tmod 2 = 1 := t0
            have t0e : (n0 : Int) % 2 = 1 := by rw [← Int.tmod_eq_emod_of_nonneg (by omega)]; exact t0
            clear t0 a0
            have d1 : decide ((1 : Nat) = 0) = false := by decide
            rw [d1] at HV2
            rw [if_pos rfl, if_pos (Or.inl rfl)]
            clear d1
            go_wp2_with fail
            refine HV2.out.mono ?_
            rintro e w3 ⟨rfl, hb3⟩
            have HA3 := Lib.hid (HA2.out w3 hb3)
            clear hb3
            go_wp2_with fail
            refine HA3.out.mono ?_
            rintro e w4 ⟨rfl, hb4⟩
            have HB4 := Lib.hid hb4
            clear hb4
            go_wp2
            go_ret
            exact ⟨rfl, HB4.out⟩
          · obtain rfl : m0 = 0 := by have := H0.out; omega
            have t0' : ((n0 : Int)).tmod 2 = 0 := t0
            have t0e : (n0 : Int) % 2 = 0 := by rw [← Int.tmod_eq_emod_of_nonneg (by omega)]; exact t0
            have t1e : (n1 : Int) % 3 = (m1 : Int) := by rw [← Int.tmod_eq_emod_of_nonneg (by omega)]; exact t1
            clear t0 a0
            have d1 : decide ((0 : Nat) = 0) = true := by decide
            rw [d1] at HV2
            by_cases hm1 : m1 = 2
            · subst hm1
              have t1' : ((n1 : Int)).tmod 3 = 2 := t1
              have t1f : (n1 : Int) % 3 = 2 := t1e
              clear t1 a1 t1e d1
              rw [if_pos (Or.inr rfl), if_neg (show ¬ (0 : Nat) = 1 by decide), if_pos rfl]
              go_wp2_with fail
              refine HV2.out.mono ?_
              rintro e w3 ⟨rfl, hb3⟩
              have HA3 := Lib.hid (HA2.out w3 hb3)
              clear hb3
              go_wp2_with fail
              refine HA3.out.mono ?_
              rintro e w4 ⟨rfl, hb4⟩
              have HB4 := Lib.hid hb4
              clear hb4
              go_wp2
              go_ret
              exact ⟨rfl, HB4.out⟩
            · have e1 : ((m1 : Int) == 2) = false := by simp only [beq_eq_false_iff_ne]; omega
              rw [if_neg (show ¬ ((0 : Nat) = 1 ∨ m1 = 2) by omega), if_neg (show ¬ (0 : Nat) = 1 by decide), if_neg hm1]
              clear a1 d1
              go_wp2_with fail
              refine HV2.out.mono ?_
              rintro e w3 ⟨rfl, hb3⟩
              have HA3 := Lib.hid (HA2.out w3 hb3)
              clear hb3
              go_wp2_with fail
              refine HA3.out.mono ?_
              rintro e w4 ⟨rfl, hb4⟩
              have HB4 := Lib.hid hb4
              clear hb4
              go_wp2
              go_ret
              exact ⟨rfl, HB4.out⟩
end Go.Proofs.YtmegmgcfnihhiaaDoor
