
/- The matches of rules, as an iterator. -/
import Derived.Test.YtmegmgcfnihhiaaDoorUPr3
import Derived.OwnWalkIn
import Derived.RangeFuncNested
import Derived.RangeFuncBound
import Derived.RangeFuncBox
import Derived.RangeFuncCalls
import Derived.RangeFuncLeaves
import Derived.Shelf.Abstract
import Derived.Shelf.RegionOpen
import Derived.WalkKit
import Derived.TacticsInMore
import Derived.LoopNIn
import Derived.LoopIn
namespace Go.Proofs.YtmegmgcfnihhiaaDoor
open Go.RowKit Go.Shelf
set_option linter.unusedVariables false
set_option linter.unusedSimpArgs false
attribute [local go_sem] Oper.semAt_some

theorem RulesW.of_cells {w w' : World} {s : Value} {R : List Rul} (h : RulesW w s R) (hc : ∀ p : Addr, ∀ v, w.cell? p = some v → w'.cell? p = some v) : RulesW w' s R := by
  obtain ⟨a, c, h1, h2, h3, h4, h5⟩ := h
  refine ⟨a, c, h1, h2, h3, h4, fun hne => ?_⟩
  obtain ⟨q, off, e1, e2, e3⟩ := h5 hne
  have h0 : 0 < R.length := List.length_pos_iff.2 hne
  exact ⟨q, off, e1, cell_lt (hc _ _ (e3 0 h0).1), fun j hj => ⟨hc _ _ (e3 j hj).1, hc _ _ (e3 j hj).2.1, hc _ _ (e3 j hj).2.2⟩⟩
/-- What the iterator reads: the position, the text and the rules. -/
structure MatR (Bf Bs Bl a : Nat) (s : ByteArray) (sv : Value) (R : List Rul) (W : World) : Prop where
  cf : W.cell? ⟨Bf, 0, none⟩ = some (.int .i64 a)
  cs : W.cell? ⟨Bs, 0, none⟩ = some (.string s)
  cl : W.cell? ⟨Bl, 0, none⟩ = some sv
  rs : RulesW W sv R
theorem MatR.of_cells {Bf Bs Bl a : Nat} {s : ByteArray} {sv : Value} {R : List Rul} {W W' : World} (h : MatR Bf Bs Bl a s sv R W) (hc : ∀ p : Addr, ∀ v, W.cell? p = some v → W'.cell? p = some v) : MatR Bf Bs Bl a s sv R W' :=
  ⟨hc _ _ h.cf, hc _ _ h.cs, hc _ _ h.cl, h.rs.of_cells hc⟩
theorem MatR.below {Bf Bs Bl a : Nat} {s : ByteArray} {sv : Value} {R : List Rul} {W W' : World} (h : MatR Bf Bs Bl a s sv R W) (b : Below W.heap.size W W') : MatR Bf Bs Bl a s sv R W' :=
  h.of_cells fun p v hp => by rw [b.cell (cell_lt hp)]; exact hp
theorem abides_below {β : Type} {B : Nat} {J : β → World → Prop} (h : AbidesFrom B J) {s : β} {W W' : World} (hs : J s W) (b : Below W.heap.size W W') : J s W' :=
  h s W W' none hs ⟨b.os, b.tape, b.output, b.size, fun k hk _ => b.block k hk⟩ (fun r e => by cases e)

set_option maxRecDepth 100000 in
set_option maxHeartbeats 4000000 in
theorem matches1_in (n : Nat) (hn : 1 ≤ n) (l Bf Bs Bl a : Nat) (s : ByteArray) (sv : Value) (R : List Rul) (hs : s.size ≤ 1000000) (ha : a ≤ 1000000) (hm : Mild R) (J Jx : List (Nat × Nat) → World → Prop) (B0 : Nat) (hJa : AbidesFrom B0 J)
    (hY : ∀ pre x W, J pre W → pre.length < (allM R s.data.toList a).length → YieldAt Fence.wide (n - 1) Tryd.prog l #[.int .i64 (x.1 : Int), .int .i64 (x.2 : Int)] W fun e W' =>
      (e = .returned (.bool true) ∧ J (pre ++ [x]) W' ∧ (MatR Bf Bs Bl a s sv R W → MatR Bf Bs Bl a s sv R W')) ∨ (e = .returned (.bool false) ∧ Jx (pre ++ [x]) W'))
    (W : World) (hQ : MatR Bf Bs Bl a s sv R W) (h0 : J [] W) :
    CallsIn Fence.wide n Tryd.prog 57 #[.func (.yield l) #[] #[], .pointer (some ⟨Bf, 0, none⟩), .pointer (some ⟨Bs, 0, none⟩), .pointer (some ⟨Bl, 0, none⟩)] W fun e W' => (∃ v, e = .returned v) ∧
      ((∃ ys : List (Nat × Nat), ys = allM R s.data.toList a ∧ J ys W') ∨ (∃ pre : List (Nat × Nat), pre <+: allM R s.data.toList a ∧ Jx pre W')) := by
  obtain ⟨av, cv, rfl, hRl, hRc, hcv, _⟩ := id hQ.rs
  obtain ⟨N, hN⟩ : ∃ N, R.length = N := ⟨_, rfl⟩
  rw [hN] at hY hQ hRl hRc
  have HN := Lib.hid hN
  have HY := Lib.hid hY
  clear hN hY
  refine callsIn_of_wp Tryd.func57 rfl trivial ?_ rfl
  simp only [Tryd.ntmps57, List.size_toArray, List.length_cons, List.length_nil, Nat.reduceAdd, Nat.reduceSub, Array.replicate_succ, Array.replicate_zero, List.push_toArray, List.append_toArray, List.nil_append, List.cons_append]
  have hc0 := hQ.cf
  have HLN : Hid (s.data.toList.length = s.size) := (Lib.size_eq s).symm
  gi_wp2
  clear hc0
  gi_loopw [5] (fun c wr => ∃ d : Nat, c = .int .i64 ((a + d : Nat) : Int) ∧ Hid (d = 0 ∨ a + d ≤ s.size) ∧ J (matchI R s.data.toList a d) wr ∧ MatR Bf Bs Bl a s (.slice av N cv) R wr) (fun c _ => 2000000 - (intOf c).toNat)
  case atStart => exact ⟨0, rfl, .inl rfl, h0, hQ⟩
  case round =>
    obtain ⟨d, rfl, hd, hJs, hq⟩ := hrel
    obtain ⟨wo, hwo⟩ : ∃ wo, wo = wr := ⟨_, rfl⟩
    subst hwo
    have hcs := hq.cs
    have hcl := hq.cl
    obtain ⟨m, hm'⟩ : ∃ m, a + d = m := ⟨_, rfl⟩
    rw [hm'] at hd ⊢
    have HMM := Lib.hid hm'
    have HDD : Hid (d = 0 ∨ m ≤ s.size) := hd
    by_cases hlt : m < s.size
    · have hltI : (m : Int) < (s.size : Int) := by omega
      have HJS := Lib.hid hJs
      have HQS := Lib.hid hq
      have HLM : Hid (m < s.size) := hlt
      clear hd hm' hJs hq hlt
      gi_wp2
      clear hcs hcl
      gi_loopw [17] (fun c wr => ∃ k : Nat, k ≤ N ∧ c = .int .i64 k ∧ J (matchI R s.data.toList a d ++ matchK R s.data.toList m k) wr ∧ MatR Bf Bs Bl a s (.slice av N cv) R wr) (fun c _ => N - (intOf c).toNat)
      case atStart => exact ⟨0, Nat.zero_le _, rfl, by rw [matchK, List.append_nil]; exact HJS.out, HQS.out⟩
      case round =>
        clear hltI
        obtain ⟨k, hk, rfl, hJs, hq⟩ := hrel
        by_cases hkn : k < N
        · obtain ⟨b, o, rfl, c0, c1, c2⟩ := hq.rs.at (by rw [HN.out]; exact hkn)
          have hcs := hq.cs
          obtain ⟨r, hr⟩ : ∃ r, R.getD k noRul = r := ⟨_, rfl⟩
          have hmk := hm k (by rw [HN.out]; exact hkn)
          rw [hr] at c0 c1 c2 hmk
          obtain ⟨F, hF⟩ : ∃ F : ByteArray, (⟨r.f.toArray⟩ : ByteArray) = F := ⟨_, rfl⟩
          obtain ⟨T, hT⟩ : ∃ T : ByteArray, (⟨r.t.toArray⟩ : ByteArray) = T := ⟨_, rfl⟩
          obtain ⟨p, hp⟩ : ∃ p, r.p = p := ⟨_, rfl⟩
          obtain ⟨w1, hw1⟩ : ∃ w1, wr.alloc (.cells #[.string F, .string T, .int .i64 p] 38) = w1 := ⟨_, rfl⟩
          obtain ⟨g1, hg1⟩ : ∃ g1, wr.heap.size = g1 := ⟨_, rfl⟩
          have hra : RuleAt w1 g1 F T p := by rw [← hw1, ← hg1]; exact ruleAt_new _ _ _ _ _
          have hb1 : Below wr.heap.size wr w1 := by rw [← hw1]; exact (Below.refl _ _).alloc (Nat.le_refl _) _
          have HJ1 := Lib.hid (abides_below hJa hJs hb1)
          have HQ1 := Lib.hid (hq.below hb1)
          have hcs1 := HQ1.out.cs
          have hST := stands_any r s m w1 hs (Nat.le_of_lt HLM.out) hmk.1
          unfold ruleV at hST
          rw [hF, hT, hp] at hST
          rw [hF] at c0
          rw [hT] at c1
          rw [hp] at c2
          obtain ⟨vk, hvk⟩ : ∃ b, standB r s.data.toList m = b := ⟨_, rfl⟩
          rw [hvk] at hST
          have HST := Lib.hid hST
          have d0 := hra.c0
          have d1 := hra.c1
          have d2 := hra.c2
          have HR := Lib.hid hr
          have HVK := Lib.hid hvk
          clear hr hF hT hp hra hmk hvk hb1 hST hJs hq
          gi_wp2_with fail
          try rw [hw1]
          try rw [hg1]
          refine ⟨trivial, (callsIn_wide.2 HST.out).mono ?_⟩
          rintro e w2 ⟨rfl, hb2⟩
          have HJ2 := Lib.hid (abides_below hJa HJ1.out hb2)
          have HQ2 := Lib.hid (HQ1.out.below hb2)
          have HKS : Hid (matchK R s.data.toList m (k + 1) = matchK R s.data.toList m k ++ if vk = true then [(m, k)] else []) := by
            show _ = _
            rw [matchK, HR.out, HVK.out]
          clear hb2 HJ1 HQ1 HST c0 c1 c2 d0 d1 d2 hcs hcs1
          cases vk with
          | false =>
            have HJ3 : Hid (J (matchI R s.data.toList a d ++ matchK R s.data.toList m (k + 1)) w2) := by
              show J _ _
              rw [HKS.out, if_neg (by simp), List.append_nil]
              exact HJ2.out
            clear HJ2
            gi_wp2
            refine ⟨fun _ h => (by cases h), ?_⟩
            gi_wp2
            go_roundw
            case rel => exact ⟨k + 1, by omega, by go_num, HJ3.out, HQ2.out⟩
            case measure => simp [intOf]; omega
          | true =>
            have HKT : Hid (matchK R s.data.toList m (k + 1) = matchK R s.data.toList m k ++ [(m, k)]) := by
              show _ = _
              rw [HKS.out, if_pos rfl]
            have HPR : Hid ((matchI R s.data.toList a d ++ matchK R s.data.toList m k).length < (allM R s.data.toList a).length) := by
              have h := match_pre R s.data.toList a (d := d) (k := k + 1) (by rw [HMM.out, HLN.out]; exact HLM.out) (by rw [HN.out]; omega)
              rw [HMM.out, HKT.out] at h
              have := h.length_le
              show _ < _
              simp only [List.length_append, List.length_cons, List.length_nil] at this ⊢
              omega
            obtain ⟨fn, tmps, assign, body, hy, hR⟩ := HY.out (matchI R s.data.toList a d ++ matchK R s.data.toList m k) (m, k) w2 HJ2.out HPR.out
            dsimp only at hy
            have HRR := Lib.hid hR
            clear hR HJ2
            gi_wp2
            refine HRR.out.mono ?_
            rintro e w3 (⟨rfl, hJ3, hk3⟩ | ⟨rfl, hJx3⟩)
            · have HQ3 := Lib.hid (hk3 HQ2.out)
              have HJ3 : Hid (J (matchI R s.data.toList a d ++ matchK R s.data.toList m (k + 1)) w3) := by
                show J _ _
                rw [HKT.out, ← List.append_assoc]
                exact hJ3
              clear hk3 hJ3
              gi_wp2
              go_roundw
              case rel => exact ⟨k + 1, by omega, by go_num, HJ3.out, HQ3.out⟩
              case measure => simp [intOf]; omega
            · have HP3 : Hid (matchI R s.data.toList a d ++ matchK R s.data.toList m k ++ [(m, k)] <+: allM R s.data.toList a) := by
                have h := match_pre R s.data.toList a (d := d) (k := k + 1) (by rw [HMM.out, HLN.out]; exact HLM.out) (by rw [HN.out]; omega)
                rw [HMM.out, HKT.out, ← List.append_assoc] at h
                exact h
              gi_wp2
              refine bodyPost_ret (results_none rfl _ _ _) rfl ?_
              exact ⟨⟨_, rfl⟩, .inr ⟨_, HP3.out, hJx3⟩⟩
        · obtain rfl : k = N := by omega
          have HJ3 : Hid (J (matchI R s.data.toList a (d + 1)) wr) := by
            show J _ _
            rw [matchI, HMM.out, HN.out]
            exact hJs
          have HQ3 := Lib.hid hq
          have HMX : Hid (m < 1000000) := by have := HLM.out; show _ < _; omega
          have hwm : wrap64 ((m : Int) + 1) = (m : Int) + 1 := by have := HMX.out; unfold wrap64; omega
          clear hJs hq
          gi_wp2
          go_roundw
          case rel => exact ⟨d + 1, by rw [hwm]; have h1 := HMM.out; clear hwm; congr 1; omega, by have h1 := HMM.out; have h2 := HLM.out; clear hwm; show _ ∨ _; omega, HJ3.out, HQ3.out⟩
          case measure => have h9 := HMX.out; rw [hwm]; clear hwm; simp [intOf]; omega
    · have hltI : ¬ (m : Int) < (s.size : Int) := by omega
      have HJA : Hid (J (allM R s.data.toList a) wo) := by
        show J _ _
        unfold allM
        rw [HLN.out]
        rcases HDD.out with h | h
        · have h1 := HMM.out
          rw [show s.size - a = d by omega]
          exact hJs
        · have h1 := HMM.out
          rw [show s.size - a = d by omega]
          exact hJs
      clear hJs hq hd
      gi_wp2
      go_end0
      exact ⟨⟨_, rfl⟩, .inl HJA.out⟩

theorem matches_any (s : ByteArray) (a : Nat) (b : Option Addr) (n c : Nat) (w : World) :
    Calls Tryd.prog 48 #[.slice b n c, .string s, .int .i64 a] w fun e w' => e = .returned (.func (.func 57) #[] #[.pointer (some ⟨w.heap.size + 1 + 1, 0, none⟩), .pointer (some ⟨w.heap.size + 1, 0, none⟩), .pointer (some ⟨w.heap.size, 0, none⟩)]) ∧ w' = ((w.alloc (.cells #[.slice b n c] 36)).alloc (.cells #[.string s] 9)).alloc (.cells #[.int .i64 a] 3) := by
  go_enter Tryd.func48, Tryd.ntmps48
  go_wp2
  go_ret
  exact ⟨rfl, rfl⟩

theorem matches_stops (n : Nat) (hn : 1 ≤ n) (Bf Bs Bl a : Nat) (s : ByteArray) (sv : Value) (R : List Rul) (hs : s.size ≤ 1000000) (ha : a ≤ 1000000) (hm : Mild R) (w : World) (hQ : MatR Bf Bs Bl a s sv R w) :
    SeqStopsK Fence.wide n Tryd.prog 57 #[.pointer (some ⟨Bf, 0, none⟩), .pointer (some ⟨Bs, 0, none⟩), .pointer (some ⟨Bl, 0, none⟩)] (fun x : Nat × Nat => #[Value.int .i64 (x.1 : Int), Value.int .i64 (x.2 : Int)]) (fun A B => MatR Bf Bs Bl a s sv R A → MatR Bf Bs Bl a s sv R B)
      (fun ys => ys = allM R s.data.toList a) (fun pre => pre <+: allM R s.data.toList a) (allM R s.data.toList a).length w := fun l J Jx W hW hJa _ hY h0 =>
  matches1_in n hn l Bf Bs Bl a s sv R hs ha hm J Jx _ hJa hY W (hQ.of_cells fun p v h => by rw [hW.cell (cell_lt h)]; exact h) h0
end Go.Proofs.YtmegmgcfnihhiaaDoor
