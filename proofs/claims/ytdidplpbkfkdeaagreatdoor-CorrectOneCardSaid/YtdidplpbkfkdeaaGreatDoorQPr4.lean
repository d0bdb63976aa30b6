
/- The program's package correct: having; places that are different; elements; what is permitted. -/
import Derived.Test.YtdidplpbkfkdeaaGreatDoorQPr3
import Derived.Test.YtdidplpbkfkdeaaGreatDoorHPa
import Derived.Maps.OwnSet
import Derived.Maps.Views
namespace Go.Proofs.YtdidplpbkfkdeaaGreatDoor
open Go.RowKit
open Go.Maps (keyOf_int_mk)
open Num
set_option linter.unusedVariables false

theorem likR_short {p : Int} {k : Nat} {xs ys f : List Int} (h : LikR p k xs ys f) : f.length = dg f := by
  have e := sh_len f
  rw [h.2.1] at e
  exact e
set_option maxRecDepth 100000 in
set_option maxHeartbeats 16000000 in
theorem having_any (p : Int) (k t : Nat) (ax ay : Option Addr) (n cx cy : Nat) (xs ys : List Int) (w : World) (hp : PrmI p) (hp2 : p ≤ 1073741824) (hx : Els p xs) (hy : Els p ys) (hsx : Ints w (.slice ax n cx) xs) (hsy : Ints w (.slice ay n cy) ys) (hnx : xs.length = n) (hny : ys.length = n) (hn : n ≤ 100) (hk1 : 1 ≤ k) (hkn : k + 2 * t ≤ n) (hnd : xs.Nodup) :
    Calls Tryz.prog 35 #[.int .i64 p, .int .i64 (k : Int), .int .i64 (t : Int), .slice ax n cx, .slice ay n cy] w fun e w' => ∃ v f c, e = .returned (.tuple #[v, .int .i64 c]) ∧ (c = 0 ∨ c = 9) ∧ OneR p k t xs ys f c ∧ Ints w' v f ∧ (∀ b, v.ownBlock = some b → w.heap.size ≤ b) ∧ Below w.heap.size w w' := by
  have hp0 := hp.1
  have hp1 : 1 ≤ p := by omega
  obtain ⟨g, hg⟩ : ∃ g, w.heap.size = g := ⟨_, rfl⟩
  have HLI := Lib.hid (likely_any p k ax ay n cx cy xs ys w hp hp2 hx hy hsx hsy hnx hny hn hk1 (by omega) hnd)
  have HMI := Lib.hid (fun vf f W (hW : Below g w W) (hf : Els p f) (hi : Ints W vf f) => missed_any p vf ax ay n cx cy f xs ys W hp1 hp2 hf hx hi (hsx.below (Nat.le_of_eq hg) hW) (hsy.below (Nat.le_of_eq hg) hW) hnx hny (by omega))
  have HGG := Lib.hid hg
  have HKN : Hid (k + 2 * t ≤ xs.length) := by show _ ≤ _; rw [hnx]; exact hkn
  have HNX := Lib.hid hnx
  rw [hg] at HLI ⊢
  clear hsx hsy hnx hny hnd hx hy hp
  go_enter Tryz.func35, Tryz.ntmps35
  go_wp2_with fail
  refine HLI.out.mono ?_
  rintro e w1 ⟨v1, f, rfl, hi1, hl1, hq1, hb1⟩
  have HQ1 := Lib.hid hq1
  have HI1 := Lib.hid hi1
  have HL1 := Lib.hid hl1
  have HB1 := Lib.hid hb1
  have HS1 : Hid (g ≤ w1.heap.size) := by show _ ≤ _; have := hb1.size; omega
  obtain ⟨a1, c1, rfl⟩ := hi1.shape
  have HQ1 : Hid (∀ b, (Value.slice a1 0 c1).ownBlock = some b → g ≤ b) := fun b hb => HQ1.out b (by cases a1 <;> exact hb)
  obtain ⟨D, hD⟩ : ∃ D, dg f = D := ⟨_, rfl⟩
  have hlD : f.length = D := by rw [likR_short hl1, hD]
  have hD1 : D ≤ 1000 := by rw [← hlD]; exact hl1.2.2.1
  have HDE := Lib.hid (degree_any _ f w1 hi1)
  rw [hD] at HDE
  rw [hlD] at HI1 HDE ⊢
  have HLD := Lib.hid hlD
  clear hi1 hl1 hb1 hD hlD HLI hq1
  go_wp2_with fail
  refine HDE.out.mono ?_
  rintro e w2 ⟨rfl, hb2⟩
  have HI2 := Lib.hid (HI1.out.below (Nat.le_refl _) hb2)
  have HB2 := Lib.hid (HB1.out.trans (hb2.mono HS1.out))
  have HS2 : Hid (g ≤ w2.heap.size) := Nat.le_trans HS1.out hb2.size
  clear hb2 HI1 HB1 HDE
  by_cases hdk : D ≤ k
  · have hcmp : ¬ (k : Int) ≤ (D : Int) - 1 := by omega
    have HMM := Lib.hid (HMI.out _ f w2 HB2.out HL1.out.1 HI2.out)
    clear HMI
    go_wp2_with fail
    refine HMM.out.mono ?_
    rintro e w3 ⟨v3, rfl, hg3, hb3⟩
    obtain ⟨a3, c3, rfl⟩ := hg3.shape
    obtain ⟨m, hm⟩ : ∃ m, (mis p f xs ys).length = m := ⟨_, rfl⟩
    have hm100 : m ≤ 100 := by rw [← hm]; have := mis_le p f xs ys; rw [HNX.out] at this; omega
    have HI3 := Lib.hid (HI2.out.below (Nat.le_refl _) hb3)
    have HB3 := Lib.hid (HB2.out.trans (hb3.mono HS2.out))
    have HM := Lib.hid hm
    rw [hm]
    clear hg3 hb3 hm
    by_cases hmt : m ≤ t
    · have HR : Hid (OneR p k t xs ys f 0) := ⟨fun _ => ⟨HL1.out.1, HL1.out.2.1, by rw [HLD.out]; exact hdk, by rw [HM.out]; exact hmt⟩, fun h => absurd rfl h⟩
      go_wp2_with fail
      go_ret2
      exact ⟨.slice a1 D c1, f, 0, rfl, .inl rfl, HR.out, HI3.out, (fun b hb => HQ1.out b (by cases a1 <;> exact hb)), HB3.out⟩
    · have HR : Hid (OneR p k t xs ys [] 9) := ⟨(fun h => by cases h), fun _ => ⟨rfl, fun q hq => by
        have e := HL1.out.2.2.2 q t HKN.out hq
        subst e
        have := hq.few
        rw [HM.out] at this
        exact hmt this⟩⟩
      have hmt2 : t < m := by omega
      clear hmt
      go_wp2_with fail
      go_ret2
      exact ⟨_, [], 9, rfl, .inr rfl, HR.out, ints_zero _ _ _, (fun b hb => by cases hb), HB3.out⟩
  · have hcmp : (k : Int) ≤ (D : Int) - 1 := by omega
    have HR : Hid (OneR p k t xs ys [] 9) := ⟨(fun h => by cases h), fun _ => ⟨rfl, fun q hq => by
      have e := HL1.out.2.2.2 q t HKN.out hq
      subst e
      have := hq.len
      rw [HLD.out] at this
      exact hdk this⟩⟩
    clear hdk HMI
    go_wp2_with fail
    go_ret2
    exact ⟨_, [], 9, rfl, .inr rfl, HR.out, ints_zero _ _ _, (fun b hb => by cases hb), HB2.out⟩

/-! ### Different places -/
theorem seen_has (l : List Int) (x : Int) : Go.Maps.has (seenOf l : DataW Unit) (.int .i64 x) = l.contains x := by
  induction h : l.length generalizing l with
  | zero => obtain rfl := List.length_eq_zero_iff.1 h; rfl
  | succ n ih =>
    rcases List.eq_nil_or_concat l with rfl | ⟨l', y, rfl⟩
    · simp at h
    · rw [List.concat_eq_append] at h ⊢
      rw [seenOf_snoc]
      by_cases e : x = y
      · subst e
        rw [Go.Maps.has_put_same (seenOf_isMap l') (by simp [WideAt.IsKeyLit])]
        simp
      · rw [Go.Maps.has_put_other (fun e2 => e (by simpa using e2)), ih l' (by simpa using h)]
        simp [e]
theorem seen_tidy (l : List Int) : Go.Maps.Tidy (seenOf l : DataW Unit) := Go.Maps.tidy_setOf _ _ fun x hx => by
  obtain ⟨n, _, rfl⟩ := List.mem_map.1 hx
  simp [WideAt.IsKeyLit]
theorem seen_size (l : List Int) : Go.Maps.size (seenOf l : DataW Unit) ≤ l.length ∧ (Go.Maps.size (seenOf l : DataW Unit) = l.length ↔ l.Nodup) := by
  induction h : l.length generalizing l with
  | zero => obtain rfl := List.length_eq_zero_iff.1 h; exact ⟨Nat.le_refl _, ⟨fun _ => List.nodup_nil, fun _ => rfl⟩⟩
  | succ n ih =>
    rcases List.eq_nil_or_concat l with rfl | ⟨l', y, rfl⟩
    · simp at h
    · rw [List.concat_eq_append] at h ⊢
      have hl : l'.length = n := by simpa using h
      obtain ⟨i1, i2⟩ := ih l' hl
      rw [seenOf_snoc, Go.Maps.size_put (seen_tidy l'), seen_has]
      have hn : (l' ++ [y]).Nodup ↔ l'.Nodup ∧ y ∉ l' := by
        rw [List.nodup_append]
        constructor
        · rintro ⟨a, _, b⟩
          exact ⟨a, fun hy => b y hy y (by simp) rfl⟩
        · rintro ⟨a, b⟩
          exact ⟨a, by simp, fun x hx z hz e => by simp at hz; subst hz; subst e; exact b hx⟩
      rw [hn]
      by_cases e : y ∈ l'
      · rw [if_pos (by simpa using e)]
        exact ⟨by omega, ⟨fun h => by omega, fun h => absurd e h.2⟩⟩
      · rw [if_neg (by simpa using e)]
        exact ⟨by omega, ⟨fun h => ⟨i2.1 (by omega), e⟩, fun h => by have := i2.2 h.1; omega⟩⟩
set_option maxRecDepth 100000 in
set_option maxHeartbeats 8000000 in
theorem different_any (ax : Option Addr) (n cx : Nat) (xs : List Int) (w : World) (hsx : Ints w (.slice ax n cx) xs) (hnx : xs.length = n) (hn : n ≤ 1000) (hw : ∀ x ∈ xs, (Lit.int .i64 x).wf = true) :
    Calls Tryz.prog 60 #[.slice ax n cx] w fun e w' => ∃ b, e = .returned (.bool b) ∧ (b = true ↔ xs.Nodup) ∧ Below w.heap.size w w' := by
  obtain ⟨g, hg⟩ : ∃ g, w.heap.size = g := ⟨_, rfl⟩
  have hmk := makeMap_hint (n : Int)
  have HSX := Lib.hid hsx
  have HNX := Lib.hid hnx
  have HWF := Lib.hid hw
  have HGG := Lib.hid hg
  obtain ⟨w1, hw1⟩ : ∃ w1, w.alloc (.map #[] 0) = w1 := ⟨_, rfl⟩
  have HO1 : Hid (w1.ownsMap Tryz.prog 3 (plainElem (H := Unit) Tryz.prog 4) g 0 (seenOf (xs.take 0))) := by rw [← hw1, ← hg]; exact World.ownsMap_made _ _ _ _
  have HB1 : Hid (Below g w w1) := by rw [← hw1, ← hg]; exact (Below.refl _ _).alloc (Nat.le_refl _) _
  rw [hg]
  clear hsx hnx hw
  go_enter Tryz.func60, Tryz.ntmps60
  go_wp2_with fail
  clear hw1 hmk hg
  go_loopw [5, 11] (fun _ i wr => ∃ k : Nat, k ≤ n ∧ i = .int .i64 k ∧ Hid (wr.ownsMap Tryz.prog 3 (plainElem (H := Unit) Tryz.prog 4) g k (seenOf (xs.take k))) ∧ Hid (Below g w wr)) (fun _ i _ => n - (intOf i).toNat)
  case atStart => exact ⟨0, Nat.zero_le _, rfl, HO1, HB1⟩
  case round =>
    obtain ⟨k, hk, rfl, HO, HB⟩ := hrel
    by_cases hlt : k < n
    · obtain ⟨bx, ox, rfl, cx0⟩ := (HSX.out.below (Nat.le_of_eq HGG.out) HB.out).pos hlt
      have hkl : k < xs.length := by rw [HNX.out]; exact hlt
      have hwx := HWF.out (xs.getD k 0) (by rw [getD_lt hkl]; exact List.getElem_mem _)
      have HKEY : Hid (keyOf Tryz.prog 3 (.int .i64 (xs.getD k 0)) = some (.int .i64 (xs.getD k 0))) := keyOf_int_mk Tryz.underlying3 hwx
      have htk : xs.take k ++ [xs.getD k 0] = xs.take (k + 1) := by rw [getD_lt hkl, List.take_succ_eq_append_getElem hkl]
      have HSN : Hid ((seenOf (xs.take (k + 1)) : DataW Unit) = (seenOf (xs.take k)).put (.int .i64 (xs.getD k 0)) (.lit (.bool true))) := by show _ = _; rw [← htk]; exact seenOf_snoc _ _
      have HZ : Hid (g < wr.heap.size) := HO.out.lt
      obtain ⟨x, hx⟩ : ∃ x, xs.getD k 0 = x := ⟨_, rfl⟩
      rw [hx] at cx0 HKEY HSN
      clear hkl hwx htk hx
      go_wp2_with (at_mapUpdate; refine wpList_mapUpdate_own _ rfl _ _ _ 81 rfl 3 4 keyedInt Tryz.underlying81 _ g k _ rfl HO.out (by unfold maxLen; omega) _ _ _ rfl rfl HKEY.out _ [] (plainElem_bool Tryz.underlying4 true) ?_; intro w2 hown2 hgrow2)
      rw [← HSN.out] at hown2
      have HO2 := Lib.hid hown2
      have HB2 := Lib.hid (HB.out.grown hgrow2 (Nat.le_of_lt HZ.out) (fun j hj => by cases hj; exact Nat.le_refl _))
      clear hown2 hgrow2
      go_wp2_with fail
      go_roundw
      case rel => exact ⟨k + 1, by omega, by go_num, HO2, HB2⟩
      case measure => simp [intOf]; omega
    · obtain rfl : k = n := by omega
      have HOF : Hid (wr.ownsMap Tryz.prog 3 (plainElem (H := Unit) Tryz.prog 4) g k (seenOf xs)) := by
        have h := HO.out
        rw [List.take_of_length_le (Nat.le_of_eq HNX.out)] at h
        exact h
      have hsz := seen_size xs
      rw [HNX.out] at hsz
      obtain ⟨S, hS⟩ : ∃ S, Go.Maps.size (seenOf xs : DataW Unit) = S := ⟨_, rfl⟩
      rw [hS] at hsz
      have HSZ := Lib.hid hsz
      have HSS := Lib.hid hS
      have hlen : ∀ ty, (Builtin.len_ #[81] ty #[.map (some g)]).run Tryz.prog wr = .ok (.int .i64 (S : Int)) wr := fun ty => by rw [← HSS.out]; exact HOF.out.len Tryz.underlying81 ty
      clear hsz hS
      go_wp2_with fail
      go_ret
      exact ⟨_, rfl, by rw [← HSZ.out.2]; simp; omega, HB.out⟩
end Go.Proofs.YtdidplpbkfkdeaaGreatDoor
