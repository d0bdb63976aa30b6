
/- Rules in memory; where a rule stands, and what it makes of a text. -/
import Derived.Test.YtmegmgcfnihhiaaDoorUMt2
import Derived.Test.YtmegmgcfnihhiaaDoorOFo
import Derived.BigQuiet
import Derived.BigRegion
namespace Go.Proofs.YtmegmgcfnihhiaaDoor
open Go.RowKit Go.Shelf
set_option linter.unusedVariables false
set_option linter.unusedSimpArgs false

def ruleV (r : Rul) : Value := .agg #[.string ⟨r.f.toArray⟩, .string ⟨r.t.toArray⟩, .int .i64 r.p]
/-- A rule in memory. -/
def RuleAt (w : World) (g : Nat) (F T : ByteArray) (p : Int) : Prop := ∃ t fr, w.heap[g]? = some (.cells #[.string F, .string T, .int .i64 p] t fr)
theorem ruleAt_new (w : World) (F T : ByteArray) (p : Int) (t : TypeId) : RuleAt (w.alloc (.cells #[.string F, .string T, .int .i64 p] t)) w.heap.size F T p := ⟨t, _, heap_alloc_new w _⟩
theorem RuleAt.below {w w' : World} {g B : Nat} {F T : ByteArray} {p : Int} (h : RuleAt w g F T p) (hB : g < B) (b : Below B w w') : RuleAt w' g F T p := by
  obtain ⟨t, fr, h⟩ := h
  exact ⟨t, fr, by rw [b.block _ hB]; exact h⟩
theorem RuleAt.c0 {w : World} {g : Nat} {F T : ByteArray} {p : Int} (h : RuleAt w g F T p) : w.cell? ⟨g, 0, none⟩ = some (.string F) := by
  obtain ⟨t, fr, h⟩ := h
  simp [World.cell?, h]
theorem RuleAt.c1 {w : World} {g : Nat} {F T : ByteArray} {p : Int} (h : RuleAt w g F T p) : w.cell? ⟨g, 1, none⟩ = some (.string T) := by
  obtain ⟨t, fr, h⟩ := h
  simp [World.cell?, h]
theorem RuleAt.c2 {w : World} {g : Nat} {F T : ByteArray} {p : Int} (h : RuleAt w g F T p) : w.cell? ⟨g, 2, none⟩ = some (.int .i64 p) := by
  obtain ⟨t, fr, h⟩ := h
  simp [World.cell?, h]
theorem str_from (s : ByteArray) (l : Nat) (hl : l ≤ s.size) (w : World) : (Instr.slice 9 (.string s) (some (.int .i64 l)) none none).run Tryd.prog w = .ok (.string (s.extract l s.size)) w := by
  simp [Instr.slice, run_underlying Tryd.underlying9, Instr.sliceBounds, Instr.sliceBound, asIntOf, part, go_sem, hl]
theorem str_to (s : ByteArray) (h : Nat) (hh : h ≤ s.size) (w : World) : (Instr.slice 9 (.string s) none (some (.int .i64 h)) none).run Tryd.prog w = .ok (.string (s.extract 0 h)) w := by
  simp [Instr.slice, run_underlying Tryd.underlying9, Instr.sliceBounds, Instr.sliceBound, asIntOf, part, go_sem, hh]
theorem str_at (s : ByteArray) (k : Nat) (hk : k < s.size) (w : World) : (Instr.index 9 (.string s) (.int .i64 (k : Int))).run Tryd.prog w = .ok (.int .u8 ((s.data.toList.getD k 0).toNat : Int)) w := by
  have h0 : (0 : Int) ≤ (k : Int) := by omega
  have hk2 : k < s.data.size := hk
  have e : s[k]? = some (s.data.toList.getD k 0) := by
    rw [getElem?_pos s k hk]
    congr 1
    have e2 : s.data[k]? = some s.data[k] := getElem?_pos s.data k hk2
    simp only [List.getD, Array.getElem?_toList, e2, Option.getD_some]
    rfl
  simp [Instr.index, run_underlying Tryd.underlying9, asIntOf, go_sem, e]
theorem ext_drop (s : ByteArray) (l : Nat) : (s.extract l s.size).data.toList = s.data.toList.drop l := by
  have h : s.size = s.data.toList.length := Lib.size_eq s
  simp only [ByteArray.data_extract, Array.toList_extract, List.extract]
  rw [List.take_of_length_le]
  rw [List.length_drop, ← h]
  exact Nat.le_refl _
theorem ext_take (s : ByteArray) (l : Nat) : (s.extract 0 l).data.toList = s.data.toList.take l := by
  simp only [ByteArray.data_extract, Array.toList_extract, List.extract]
  simp
theorem byte32 (b : UInt8) : ((b.toNat : Int) == 32) = (b == 32) := by
  cases e : (b == 32) with
  | true => rw [beq_iff_eq] at e; subst e; rfl
  | false =>
    have : b ≠ 32 := by simpa using e
    simp only [beq_eq_false_iff_ne]
    intro h
    exact this (UInt8.toNat_inj.1 (by show b.toNat = 32; omega))

set_option maxRecDepth 100000 in
set_option maxHeartbeats 4000000 in
theorem stands_any (r : Rul) (s : ByteArray) (i : Nat) (w : World) (hs : s.size ≤ 1000000) (hi : i ≤ s.size) (hf : r.f.length ≤ 1000000) :
    Calls Tryd.prog 58 #[ruleV r, .string s, .int .i64 i] w fun e w' => e = .returned (.bool (standB r s.data.toList i)) ∧ Below w.heap.size w w' := by
  obtain ⟨f, t, p⟩ := r
  unfold ruleV standB
  dsimp only at hf ⊢
  obtain ⟨F, hF⟩ : ∃ F : ByteArray, (⟨f.toArray⟩ : ByteArray) = F := ⟨_, rfl⟩
  obtain ⟨T, hT⟩ : ∃ T : ByteArray, (⟨t.toArray⟩ : ByteArray) = T := ⟨_, rfl⟩
  have hFd : F.data.toList = f := by rw [← hF]
  have hFz : F.size = f.length := by rw [Lib.size_eq, hFd]
  have hsz : s.size = s.data.toList.length := Lib.size_eq s
  rw [hF, hT]
  obtain ⟨w1, hw1⟩ : ∃ w1, w.alloc (.cells #[.string F, .string T, .int .i64 p] 38) = w1 := ⟨_, rfl⟩
  obtain ⟨g, hg⟩ : ∃ g, w.heap.size = g := ⟨_, rfl⟩
  have hra : RuleAt w1 g F T p := by rw [← hw1, ← hg]; exact ruleAt_new _ _ _ _ _
  have hb1 : Below g w w1 := by rw [← hw1, ← hg]; exact (Below.refl _ _).alloc (Nat.le_refl _) _
  have c0 := hra.c0
  have c2 := hra.c2
  have hsl := fun W => str_from s i hi W
  obtain ⟨z, hz⟩ : ∃ z : ByteArray, s.extract i s.size = z := ⟨_, rfl⟩
  have hzd : z.data.toList = s.data.toList.drop i := by rw [← hz, ext_drop]
  rw [hz] at hsl
  obtain ⟨hp, hhp⟩ : ∃ b, Lib.hasPrefix (s.data.toList.drop i) f = b := ⟨_, rfl⟩
  have HH : Hid (∀ W, Calls Tryd.prog 60 #[.string z, .string F] W fun e w' => e = .returned (.bool hp) ∧ w' = W) := fun W => by
    have h := Tryd.strings_HasPrefix z F W
    rw [hzd, hFd, hhp] at h
    exact h
  have HPL : Hid (hp = true → i + f.length ≤ s.size) := fun h => by
    rw [← hhp] at h
    simp only [Lib.hasPrefix, List.isPrefixOf_iff_prefix] at h
    have := h.length_le
    rw [List.length_drop] at this
    omega
  have HB1 := Lib.hid hb1
  have HSZ := Lib.hid hsz
  have HFZ := Lib.hid hFz
  have HW1 := Lib.hid hw1
  rw [hhp, hg]
  obtain ⟨pl, hpl⟩ : ∃ b, placeB ⟨f, t, p⟩ s.data.toList i = b := ⟨_, rfl⟩
  rw [hpl]
  have HPB := Lib.hid hpl
  obtain ⟨rb, hrb⟩ : ∃ b, (hp && pl) = b := ⟨_, rfl⟩
  rw [hrb]
  have HRB := Lib.hid hrb
  clear hzd hhp hFd hF hT hra hb1 hsz hFz hpl hz hrb
  go_enter Tryd.func58, Tryd.ntmps58
  go_wp2_with fail
  try rw [hw1]
  try rw [hg]
  clear hw1
  go_quiet ((go_at_call 60; exact quiet_left ((HH.out _).mono (by rintro e w' ⟨rfl, rfl⟩; exact ⟨rfl, rfl⟩))))
  have hbq : Below g w (w1.drewN nq) := ⟨HB1.out.os, HB1.out.tape, HB1.out.output, HB1.out.size, HB1.out.block⟩
  have HBQ := Lib.hid hbq
  have d0 : (w1.drewN nq).cell? ⟨g, 0, none⟩ = some (.string F) := c0
  have d2 : (w1.drewN nq).cell? ⟨g, 2, none⟩ = some (.int .i64 p) := c2
  clear hbq c0 c2 hsl
  generalize w1.drewN nq = w2 at *
  cases hp with
  | false =>
    obtain rfl : false = rb := by have h := HRB.out; rwa [Bool.false_and] at h
    clear HRB
    go_wp2
    go_ret
    exact ⟨rfl, HBQ.out⟩
  | true =>
    obtain rfl : pl = rb := by have h := HRB.out; rwa [Bool.true_and] at h
    clear HRB
    have hle := HPL.out rfl
    have hq := HPB.out
    unfold placeB at hq
    dsimp only at hq
    have hw1 : wrap64 ((i : Int) + (F.size : Int)) = ((i + f.length : Nat) : Int) := by rw [HFZ.out]; unfold wrap64; omega
    have HW0 : Hid (i = 0 → wrap64 (F.size : Int) = ((i + f.length : Nat) : Int)) := fun h => by rw [HFZ.out, h]; unfold wrap64; omega
    obtain ⟨e, he⟩ : ∃ e, i + f.length = e := ⟨_, rfl⟩
    rw [he] at hq hle hw1 HW0
    rw [← HSZ.out] at hq
    have HHQ := Lib.hid hq
    clear hq HPB HPL he
    by_cases p0 : p = 0
    · subst p0
      have h := HHQ.out
      rw [if_pos rfl] at h
      subst h
      clear HHQ
      go_wp2
      go_ret
      exact ⟨rfl, HBQ.out⟩
    have q0 : (p == 0) = false := by simpa using p0
    by_cases p1 : p = 1
    · subst p1
      have h := HHQ.out
      rw [if_neg (by decide), if_pos rfl] at h
      have hi0 : ((i : Int) == 0) = pl := by
        rw [← h]
        by_cases e0 : i = 0
        · subst e0; rfl
        · rw [decide_eq_false e0]; simp only [beq_eq_false_iff_ne]; omega
      clear HHQ h p0
      go_wp2
      go_ret
      exact ⟨rfl, HBQ.out⟩
    have q1 : (p == 1) = false := by simpa using p1
    by_cases p2 : p = 2
    · subst p2
      have h := HHQ.out
      rw [if_neg (by decide), if_neg (by decide), if_pos rfl] at h
      have hi0 : ((e : Int) == (s.size : Int)) = pl := by
        rw [← h]
        by_cases e0 : e = s.size
        · rw [decide_eq_true e0, e0]; simp
        · rw [decide_eq_false e0]; simp only [beq_eq_false_iff_ne]; omega
      clear HHQ h p0 p1
      go_wp2
      go_ret
      exact ⟨rfl, HBQ.out⟩
    have q2 : (p == 2) = false := by simpa using p2
    by_cases p3 : p = 3
    · subst p3
      have h := HHQ.out
      rw [if_neg (by decide), if_neg (by decide), if_neg (by decide), if_pos rfl] at h
      have b32 := byte32
      by_cases e0 : i = 0
      · subst e0
        have hw3 := HW0.out rfl
        by_cases e1 : e = s.size
        · have h0 : ((e : Int) == (s.size : Int)) = true := by rw [e1]; simp
          rw [decide_eq_true e1] at h
          simp only [Bool.true_or, Bool.and_self, decide_true, Bool.true_and] at h
          subst h
          clear HHQ p0 p1 p2 b32
          go_wp2
          go_ret
          exact ⟨rfl, HBQ.out⟩
        · have h0 : ((e : Int) == (s.size : Int)) = false := by simp only [beq_eq_false_iff_ne]; omega
          have h2 := fun W => str_at s e (by omega) W
          rw [decide_eq_false e1] at h
          obtain ⟨c, hc⟩ : ∃ c, s.data.toList.getD e 0 = c := ⟨_, rfl⟩
          rw [hc] at h h2
          simp only [Bool.true_or, Bool.false_or, decide_true, Bool.true_and] at h
          have h3 : ((c.toNat : Int) == 32) = pl := by rw [b32 c]; exact h
          clear HHQ p0 p1 p2 b32 h hc
          go_wp2
          go_ret
          exact ⟨rfl, HBQ.out⟩
      · have k0 : ((i : Int) == 0) = false := by simp only [beq_eq_false_iff_ne]; omega
        have k1 : wrap64 ((i : Int) - 1) = ((i - 1 : Nat) : Int) := by unfold wrap64; omega
        have k2 := fun W => str_at s (i - 1) (by omega) W
        obtain ⟨m, hm⟩ : ∃ m, i - 1 = m := ⟨_, rfl⟩
        obtain ⟨x, hx⟩ : ∃ x, s.data.toList.getD (i - 1) 0 = x := ⟨_, rfl⟩
        rw [decide_eq_false e0, hx] at h
        rw [hx] at k2
        have hc1 : ((i - 1 : Nat) : Int) = (i : Int) - 1 := by omega
        rw [hc1] at k1 k2
        have k3 := b32 x
        obtain ⟨bx, hbx⟩ : ∃ b, (x == 32) = b := ⟨_, rfl⟩
        rw [hbx] at k3 h
        cases bx with
        | false =>
          simp only [Bool.or_self, Bool.false_and] at h
          subst h
          clear HHQ p0 p1 p2 b32 hx hm hbx
          go_wp2
          go_ret
          exact ⟨rfl, HBQ.out⟩
        | true =>
          by_cases e1 : e = s.size
          · have h0 : ((e : Int) == (s.size : Int)) = true := by rw [e1]; simp
            rw [decide_eq_true e1] at h
            simp only [Bool.or_true, Bool.true_or, Bool.and_self] at h
            subst h
            clear HHQ p0 p1 p2 b32 hx hm hbx
            go_wp2
            go_ret
            exact ⟨rfl, HBQ.out⟩
          · have h0 : ((e : Int) == (s.size : Int)) = false := by simp only [beq_eq_false_iff_ne]; omega
            have h2 := fun W => str_at s e (by omega) W
            rw [decide_eq_false e1] at h
            obtain ⟨c, hc⟩ : ∃ c, s.data.toList.getD e 0 = c := ⟨_, rfl⟩
            rw [hc] at h h2
            simp only [Bool.true_or, Bool.or_true, Bool.false_or, decide_true, Bool.true_and] at h
            have h3 : ((c.toNat : Int) == 32) = pl := by rw [b32 c]; exact h
            clear HHQ p0 p1 p2 b32 h hc hx hm hbx
            go_wp2
            go_ret
            exact ⟨rfl, HBQ.out⟩
    · have q3 : (p == 3) = false := by simpa using p3
      have h := HHQ.out
      rw [if_neg p0, if_neg p1, if_neg p2, if_neg p3] at h
      subst h
      clear HHQ
      go_wp2
      go_ret
      exact ⟨rfl, HBQ.out⟩

set_option maxRecDepth 100000 in
set_option maxHeartbeats 4000000 in
theorem replace_any (r : Rul) (s : ByteArray) (i : Nat) (w : World) (hs : s.size ≤ 1000000) (hi : i + r.f.length ≤ s.size) (hf : r.f.length ≤ 1000000) (ht : r.t.length ≤ 1000000) :
    Calls Tryd.prog 49 #[ruleV r, .string s, .int .i64 i] w fun e w' => e = .returned (.string ⟨(replL r s.data.toList i).toArray⟩) ∧ Below w.heap.size w w' := by
  obtain ⟨f, t, p⟩ := r
  unfold ruleV replL
  dsimp only at hf ht hi ⊢
  obtain ⟨F, hF⟩ : ∃ F : ByteArray, (⟨f.toArray⟩ : ByteArray) = F := ⟨_, rfl⟩
  obtain ⟨T, hT⟩ : ∃ T : ByteArray, (⟨t.toArray⟩ : ByteArray) = T := ⟨_, rfl⟩
  have hFd : F.data.toList = f := by rw [← hF]
  have hTd : T.data.toList = t := by rw [← hT]
  have hFz : F.size = f.length := by rw [Lib.size_eq, hFd]
  have hTz : T.size = t.length := by rw [Lib.size_eq, hTd]
  rw [hF, hT]
  obtain ⟨w1, hw1⟩ : ∃ w1, w.alloc (.cells #[.string F, .string T, .int .i64 p] 38) = w1 := ⟨_, rfl⟩
  obtain ⟨g, hg⟩ : ∃ g, w.heap.size = g := ⟨_, rfl⟩
  have hra : RuleAt w1 g F T p := by rw [← hw1, ← hg]; exact ruleAt_new _ _ _ _ _
  have hb1 : Below g w w1 := by rw [← hw1, ← hg]; exact (Below.refl _ _).alloc (Nat.le_refl _) _
  have c0 := hra.c0
  have c1 := hra.c1
  have s1 := fun W => str_to s i (by omega) W
  have s2 := fun W => str_from s (i + f.length) hi W
  obtain ⟨A, hA⟩ : ∃ A : ByteArray, s.extract 0 i = A := ⟨_, rfl⟩
  obtain ⟨B, hB⟩ : ∃ B : ByteArray, s.extract (i + f.length) s.size = B := ⟨_, rfl⟩
  have hAd : A.data.toList = s.data.toList.take i := by rw [← hA, ext_take]
  have hBd : B.data.toList = s.data.toList.drop (i + f.length) := by rw [← hB, ext_drop]
  have hAz : A.size ≤ 1000000 := by rw [Lib.size_eq, hAd, List.length_take, ← Lib.size_eq]; omega
  have hBz : B.size ≤ 1000000 := by rw [Lib.size_eq, hBd, List.length_drop, ← Lib.size_eq]; omega
  have hAT : (A ++ T).size ≤ 2000000 := by rw [ByteArray.size_append]; omega
  have hres : A ++ T ++ B = ⟨(s.data.toList.take i ++ t ++ s.data.toList.drop (i + f.length)).toArray⟩ := by
    refine ByteArray.ext (Array.toList_inj.1 ?_)
    simp only [ByteArray.data_append, Array.toList_append, hAd, hTd, hBd]
  have HRS := Lib.hid hres
  rw [hA] at s1
  rw [hB] at s2
  have hil : i ≤ s.size := by omega
  have hTz2 : T.size ≤ 1000000 := by omega
  have hw3 : wrap64 ((i : Int) + (F.size : Int)) = ((i + f.length : Nat) : Int) := by rw [hFz]; unfold wrap64; omega
  obtain ⟨e, he⟩ : ∃ e, i + f.length = e := ⟨_, rfl⟩
  rw [he] at s2 hw3 hi hB hres
  have hel : e ≤ s.size := hi
  have HB1 := Lib.hid hb1
  rw [← HRS.out, hg]
  clear hF hT hra hb1 hA hB hAd hBd hTd hFd hres HRS hTz he hFz hi
  go_enter Tryd.func49, Tryd.ntmps49
  go_wp2_with fail
  try rw [hw1]
  try rw [hg]
  clear hw1
  go_quiet (fail)
  have HBQ : Hid (Below g w (w1.drewN nq)) := ⟨HB1.out.os, HB1.out.tape, HB1.out.output, HB1.out.size, HB1.out.block⟩
  generalize w1.drewN nq = w2 at *
  go_wp2
  go_ret
  exact ⟨rfl, HBQ.out⟩
end Go.Proofs.YtmegmgcfnihhiaaDoor
